import PyProof.Rows.All
import Wide.All
import OpenK.AllK
import Wide.FinOn
import Lean
import PyProof.EqAt
import PyProof.EqKinds
import PyProof.TupleCall
import PyProof.TupleKey
import PyProof.DictRoadsH
import PyProof.Rows.TupTab
import PyProof.AttrMissHeap
import KE.KDictOf
import PyProof.FactsAll.tuple_2
import PyProof.NeKinds
import PySem.Syntax
import PySem.Builtin.Str.Common
import PyProof.ReprReads
import PyProof.StrLaws
import PyProof.ReprRoads
import PyProof.FitsInt
import KE.KIsAll
import PyProof.DictTable
import PyProof.Rows.SetFrom
import PyProof.SetRoads
import PyProof.ZipIter
import PyProof.StrWalks
import PyProof.EnumFor
import PyProof.EnumStmt
import PyProof.ListNew
import PyProof.Rows.SortRunsK
import PyProof.CollectIter
import KE.KSortTup
import PyProof.Rows.SortWalk
import PyProof.DictWalks
import PyProof.Rows.FactsT3
import PySem.Challenge.RW_handpromise_k31_promises_joined
set_option genSizeOf false
set_option genInjectivity false
set_option bootstrap.genMatcherCode false
set_option Elab.async false
set_option linter.all false
theorem nf{p:Prop}(h:false=true):p:=absurd h Bool.false_ne_true
noncomputable def gS:=@List.getElem?_cons_succ.{0}
noncomputable def gZ:=@List.getElem?_cons_zero.{0}
noncomputable def lS:=@List.set_cons_succ.{0}
noncomputable def lZ:=@List.set_cons_zero.{0}
noncomputable def bF:=@Bool.false_eq_true
noncomputable def lC:=@List.length_cons.{0}
noncomputable def lN:=@List.length_nil.{0}
noncomputable def lA:=@List.length_append.{0}
noncomputable def mC:=@List.map_cons.{0,0}
noncomputable def mN:=@List.map_nil.{0,0}
noncomputable def lM:=@List.length_map.{0,0}
noncomputable def mG:=@List.mem_of_getElem?.{0}
noncomputable def bN:=@Bool.false_ne_true
noncomputable def bA:=@Bool.and_eq_true
noncomputable section
set_option maxRecDepth 100000
namespace L2
open PySem PySem.Spec PyProof.Rows
abbrev Key:=Sum Int Str
noncomputable def zH:Key->Value->Bool
 | .inl k,v=>Value.isInt k v
 | .inr x,v=>Value.isStrOf x v
noncomputable def aIT(w:World):Key->Int
 | .inl k=>hashInt k
 | .inr x=>hashStr w x
theorem keyIs_shape:∀{k:Key} {v:Value},zH k v=true->(∃i t,k=Sum.inl i/\v=Value.int i t)\/(∃x t,k=Sum.inr x/\v=Value.str x t)
 | .inl i,v,h=>by
  obtain⟨t,e⟩:=Value.isInt_shape (k:=i) (v:=v) h
  exact .inl ⟨i,t,rfl,e⟩
 | .inr x,v,h=>by
  obtain⟨t,e⟩:=Value.isStrOf_shape (x:=x) (v:=v) h
  exact .inr ⟨x,t,rfl,e⟩
theorem aEe(a b:Int):decide ((Sum.inl a:Key)=Sum.inl b)=(a==b):=by
 by_cases e:a=b
 . subst e;simp
 . have h:¬ (Sum.inl a:Key)=Sum.inl b:=λq=>e (Sum.inl.inj q)
   rw[decide_eq_false h]
   exact(beq_eq_false_iff_ne.mpr e).symm
theorem aEf(a b:Str):decide ((Sum.inr a:Key)=Sum.inr b)=decide (a=b):=by
 by_cases e:a=b
 . subst e;simp
 . have h:¬ (Sum.inr a:Key)=Sum.inr b:=λq=>e (Sum.inr.inj q)
   rw[decide_eq_false h,decide_eq_false e]
theorem aEg(a:Int)(b:Str):decide ((Sum.inl a:Key)=Sum.inr b)=false:=decide_eq_false (λq=>nomatch q)
theorem aEh(a:Str)(b:Int):decide ((Sum.inr a:Key)=Sum.inl b)=false:=decide_eq_false (λq=>nomatch q)
noncomputable def eD(prog:Program)(w:World):PySem.KeyKind prog w Key where
 is:=zH
 hash:=aIT w
 inj:=λv a b ha hb=>by
  rcases keyIs_shape ha with⟨i,t,rfl,rfl⟩|⟨x,t,rfl,rfl⟩
  . rcases keyIs_shape hb with⟨j,u,rfl,e⟩|⟨y,u,rfl,e⟩
    . injection e with e1 _;rw[e1]
    . exact nomatch e
  . rcases keyIs_shape hb with⟨j,u,rfl,e⟩|⟨y,u,rfl,e⟩
    . exact nomatch e
    . injection e with e1 _;rw[e1]
 byValue:=λk v h=>by
  rcases keyIs_shape h with⟨i,t,rfl,rfl⟩|⟨x,t,rfl,rfl⟩ <;> rfl
 pyHash:=λhv h=>by
  rcases keyIs_shape hv with⟨i,t,rfl,rfl⟩|⟨x,t,rfl,rfl⟩
  . exact wpAny_pyHash_int h
  . exact wpAny_pyHash_str h
 eqBool:=λhu hv h=>by
  rcases keyIs_shape hu with⟨i,t,rfl,rfl⟩|⟨x,t,rfl,rfl⟩
  . rcases keyIs_shape hv with⟨j,u,rfl,rfl⟩|⟨y,u,rfl,rfl⟩
    . rw[aEe] at h;exact wpAny_eqBool_int h
    . rw[aEg] at h;exact SeqAt.EqAt.int_str i t y u _ _ _ _ h
  . rcases keyIs_shape hv with⟨j,u,rfl,rfl⟩|⟨y,u,rfl,rfl⟩
    . rw[aEh] at h;exact SeqAt.EqAt.str_int x t j u _ _ _ _ h
    . rw[aEf] at h;exact wpAny_eqBool_str h
 «strs»:=λk x t v h=>by
  rcases keyIs_shape h with⟨i,u,rfl,e⟩|⟨y,u,rfl,e⟩
  . exact nomatch e
  . injection e with e1 _
    subst e1
    cases v <;> rfl
end L2
namespace L2
open PySem PySem.Spec PyProof.Rows
set_option genInjectivity true in
inductive V where
 | non|bl (b:Bool)|int (i:Int)|str (x:Str)|byt (b:Array UInt8)|flt (b:UInt64)|ref (a:Addr)|ty (n:String)
 deriving DecidableEq
noncomputable def aR:V->Value->Prop
 | .non,u=>u=Value.none
 | .bl b,u=>u=Value.bool b
 | .int i,u=>∃t,u=Value.int i t
 | .str x,u=>∃t,u=Value.str x t
 | .byt b,u=>∃t,u=Value.bytes b t
 | .flt b,u=>∃t,u=Value.float b t
 | .ref a,u=>u=Value.ref a
 | .ty n,u=>u=Value.type n
abbrev aI:List V->List Value->Prop:=Paired aR
theorem aI.length{xs:List V}{us:List Value}(r:aI xs us):xs.length=us.length:=Paired.length r
theorem aI.get:∀{xs:List V} {us:List Value} {i:Nat} {x:V},aI xs us->xs[i]? = some x->∃u,us[i]? = some u/\aR x u
 | _,_,_,_,.nil,e=>by simp at e
 | _,_,0,_,.cons r _,e=>by simp at e;subst e;exact⟨_,rfl,r⟩
 | _,_,i+1,x,.cons _ t,e=>by
  obtain⟨u,h1,h2⟩:=aI.get (i:=i) (x:=x) t (by simpa using e)
  exact⟨u,by simpa using h1,h2⟩
theorem aI.set{x:V}{u:Value}(r:aR x u):∀{xs:List V} {us:List Value} (i:Nat),aI xs us->aI (xs.set i x) (us.set i u)
 | _,_,_,.nil=>.nil
 | _,_,0,.cons _ t=>.cons r t
 | _,_,i+1,.cons q t=>.cons q (aI.set r i t)
theorem aI.append:∀{xs ys:List V} {us ws:List Value},aI xs us->aI ys ws->aI (xs++ys) (us++ws)
 | _,_,_,_,.nil,s=>s
 | _,_,_,_,.cons r t,s=>.cons r (aI.append t s)
theorem aI.take:∀{xs:List V} {us:List Value} (n:Nat),aI xs us->aI (xs.take n) (us.take n)
 | _,_,0,_=>.nil
 | _,_,_+1,.nil=>.nil
 | _,_,n+1,.cons r t=>.cons r (aI.take n t)
theorem aI.drop:∀{xs:List V} {us:List Value} (n:Nat),aI xs us->aI (xs.drop n) (us.drop n)
 | _,_,0,r=>r
 | _,_,_+1,.nil=>.nil
 | _,_,n+1,.cons _ t=>aI.drop n t
noncomputable def aGm:Option V->Option Value->Prop
 | some v,some u=>aR v u
 | none,none=>True
 | _,_=>False
noncomputable def KV{κ:Type}:List (κ×V)->List (κ×Value)->Prop:=Paired λ(p:κ×V) (q:κ×Value)=>p.1=q.1/\aR p.2 q.2
noncomputable def kV:Key->V
 | .inl i=>.int i
 | .inr x=>.str x
set_option genInjectivity true in
inductive HO where
 | lst (xs:List V)
 | tup (xs:List V)
 | dK (kvs:List (Key×V))|dT (kvs:List (List Key×V))
 | set (S:Int->Bool) (n:Nat)
 | ins (C dx:Addr) (fs:List (Str×V))
 | own (x:Addr)
 | xd (fs:List (Str×V))
 | met (f x:Addr)
 | rng (lo hi:Int)
 | frz (o:Obj) (u:HO)
 | tbl (ps:Array Value)
 | ext (φ:Heap->Prop)
abbrev Hp:=Addr->Option HO
noncomputable def upd(H:Hp)(a:Addr)(o:HO):Hp:=λb=>if b=a then some o else H b
theorem bD{H:Hp}{a:Addr}{o:HO}:upd H a o a=some o:=by unfold upd;rw[if_pos rfl]
theorem aJ{H:Hp}{a b:Addr}{o:HO}(h:b≠a):upd H a o b=H b:=by unfold upd;rw[if_neg h]
theorem bE{H:Hp}{a b:Addr}{o:HO}(h:H a=some o)(h':H b=none):a≠b:=by
 intro e;subst e;rw[h] at h';cases h'
section
variable (P:Program) (w:World)
noncomputable def cO(H:Hp)(h:Heap)(a:Addr):HO->Prop
 | .lst xs=>xs.length<=sizeLine/\∃(its:List Value) (n:Nat),aI xs its/\h.get? a=some { cls:=.type "list",data:=.seq its.toArray n }
 | .tup xs=>xs.length<=sizeLine/\∃its:List Value,aI xs its/\IsTup h a its.toArray
 | .dK kvs=>kvs.length<=sizeLine/\(a==sysModules)=false/\∃vs,KV kvs vs/\h.DictOf (eD P w) a vs
 | .dT kvs=>kvs.length<=sizeLine/\(a==sysModules)=false/\∃xs:List (List Key×Addr×Value),
  Paired (λ(p:List Key×V) (q:List Key×Addr×Value)=>p.1=q.1/\H q.2.1=some (.tup (p.1.map kV))/\aR p.2 q.2.2) kvs xs /\
  ∃o es ep,h.get? a=some o/\o.ExactDict/\o.data=.dict es ep/\es.toList=xs.map (entryOfKey (tupleKind (eD P w)))/\(xs.map (·.1)).Nodup
 | .set S n=>h.SetOf (intKind P w) a S n
 | .ins C dx fs=>H dx=some (.own a)/\fs.length<=1000/\dx≠a/\h.get? a=some (PySem.W.instObj C dx) /\
  ∃mA,h.Ns1 dx mA/\(∀f,aGm (fs.lookup f) (mA f))/\PySem.Within mA (fs.map (·.1))
 | .own _=>∃o,h.get? a=some o
 | .xd fs=>∃mA,h.Ns1 a mA/\∀f,aGm (fs.lookup f) (mA f)
 | .rng lo hi=>∃t u v,h.get? a=some { cls:=.type "range",data:=.fields #[.int lo t,.int hi u,.int 1 v] }
 | .frz o u=>h.get? a=some o/\cO H h a u
 | .tbl ps=>h.get? a=some { cls:=.none,data:=.fields ps }
 | .met f x=>h.get? a=some (PySem.W.methodObj (.ref f) (.ref x))
 | .ext φ=>φ h/\(∃o,h.get? a=some o)/\∀h1 h2:Heap,φ h1->(∀o,h1.get? a=some o->h2.get? a=some o)->φ h2
noncomputable def HOk(H:Hp)(h:Heap):Prop:=∀a o,H a=some o->cO P w H h a o
end
section
variable {P:Program} {w:World} {H H':Hp} {h h':Heap} {a:Addr} {o:HO}
theorem cO.lt(x:cO P w H h a o):a<h.objs.size:=by
 cases o with
 | lst xs=>obtain⟨_,_,_,_,e⟩:=x;exact Heap.lt_size e
 | tup xs=>obtain⟨_,_,_,p⟩:=x;exact p.lt
 | dK kvs=>obtain⟨_,_,_,_,o,_,_,e,_⟩:=x;exact Heap.lt_size e
 | dT kvs=>obtain⟨_,_,_,_,o,_,_,e,_⟩:=x;exact Heap.lt_size e
 | set S n=>obtain⟨o,_,_,_,e,_⟩:=x;exact Heap.lt_size e
 | ins C dx fs=>obtain⟨_,_,_,e,_⟩:=x;exact Heap.lt_size e
 | own y=>obtain⟨_,e⟩:=x;exact Heap.lt_size e
 | xd fs=>obtain⟨_,⟨_,_,_,e,_⟩,_⟩:=x;exact Heap.lt_size e
 | rng lo hi=>obtain⟨_,_,_,e⟩:=x;exact Heap.lt_size e
 | frz ob u=>obtain⟨e,_⟩:=x;exact Heap.lt_size e
 | tbl ps=>exact Heap.lt_size (show h.get? a=some _ from x)
 | met f y=>exact Heap.lt_size (show h.get? a=some _ from x)
 | ext φ=>obtain⟨_,⟨_,e⟩,_⟩:=x;exact Heap.lt_size e
theorem Paired.mapP{α β:Type}{F G:α->β->Prop}:∀{l₁:List α} {l₂:List β},Paired F l₁ l₂->(∀a b,F a b->G a b)->Paired G l₁ l₂
 | _,_,.nil,_=>.nil
 | _,_,.cons r t,f=>.cons (f _ _ r) (Paired.mapP t f)
theorem cO.stay(x:cO P w H h a o)(k:∀b u,(b=a\/H b=some (.own a))->h.get? b=some u->h'.get? b=some u)
 (ho:∀b,H b=some (.own a)->H' b=some (.own a)) (ht:∀b xs,H b=some (.tup xs)->H' b=some (.tup xs)):cO P w H' h' a o:=by
 induction o with
 | lst xs=>obtain⟨z,its,n,r,e⟩:=x;exact⟨z,its,n,r,k _ _ (.inl rfl) e⟩
 | tup xs=>obtain⟨z,its,r,ob,e,c⟩:=x;exact⟨z,its,r,ob,k _ _ (.inl rfl) e,c⟩
 | dK kvs=>obtain⟨z,y,vs,r,ob,es,ep,e,c⟩:=x;exact⟨z,y,vs,r,ob,es,ep,k _ _ (.inl rfl) e,c⟩
 | dT kvs=>
  obtain⟨z,y,xs,r,ob,es,ep,e,c⟩:=x
  exact⟨z,y,xs,Paired.mapP r λp q z=>⟨z.1,ht _ _ z.2.1,z.2.2⟩,ob,es,ep,k _ _ (.inl rfl) e,c⟩
 | set S n=>obtain⟨ob,es,ep,t,e,c⟩:=x;exact⟨ob,es,ep,t,k _ _ (.inl rfl) e,c⟩
 | ins C dx fs=>
  obtain⟨d,z,ne,e,mA,⟨od,es,ep,e2,c⟩,r⟩:=x
  exact⟨ho _ d,z,ne,k _ _ (.inl rfl) e,mA,⟨od,es,ep,k _ _ (.inr d) e2,c⟩,r⟩
 | own y=>obtain⟨ob,e⟩:=x;exact⟨ob,k _ _ (.inl rfl) e⟩
 | xd fs=>obtain⟨mA,⟨od,es,ep,e,c⟩,r⟩:=x;exact⟨mA,⟨od,es,ep,k _ _ (.inl rfl) e,c⟩,r⟩
 | rng lo hi=>obtain⟨t,u,v,e⟩:=x;exact⟨t,u,v,k _ _ (.inl rfl) e⟩
 | frz ob u ih=>obtain⟨e,q⟩:=x;exact⟨k _ _ (.inl rfl) e,ih q⟩
 | tbl ps=>
  have e:h.get? a=some { cls:=.none,data:=.fields ps }:=x
  show h'.get? a=some { cls:=.none,data:=.fields ps }
  exact k a _ (.inl rfl) e
 | met f y=>
  have e:h.get? a=some (PySem.W.methodObj (.ref f) (.ref y)):=x
  show h'.get? a=some (PySem.W.methodObj (.ref f) (.ref y))
  exact k a _ (.inl rfl) e
 | ext φ=>obtain⟨p,⟨o,e⟩,st⟩:=x;exact⟨st _ _ p λo q=>k _ _ (.inl rfl) q,⟨o,k _ _ (.inl rfl) e⟩,st⟩
theorem HOk.lt(x:HOk P w H h)(e:H a=some o):a<h.objs.size:=(x a o e).lt
theorem HOk.fresh(x:HOk P w H h)(e:h.objs.size<=a):H a=none:=by
 cases q:H a with
 | none=>rfl
 | some u=>exact absurd (Nat.lt_of_lt_of_le (x.lt q) e) (Nat.lt_irrefl _)
theorem HOk.kept(x:HOk P w H h)(k:∀b u,h.get? b=some u->h'.get? b=some u):HOk P w H h':=λa o e=>
 (x a o e).stay (λb u _ q=>k b u q) (λ_ q=>q) λ_ _ q=>q
theorem HOk.laid(x:HOk P w H h)(k:∀b u,h.get? b=some u->h'.get? b=some u)(hp:h.objs.size<=a)(new:cO P w (upd H a o) h' a o):HOk P w (upd H a o) h':=λb u e=>by
 have hn:=x.fresh hp
 by_cases hb:b=a
 . subst hb;rw[bD] at e;cases e;exact new
 . rw[aJ hb] at e
   exact(x b u e).stay (λc v _ q=>k c v q) (λc q=>by rw[aJ (bE q hn)];exact q) λc xs q=>by rw[aJ (bE q hn)];exact q
end
noncomputable def Rd(H:Hp)(a:Addr)(u:HO):Prop:=H a=some u\/∃o,H a=some (.frz o u)
theorem Rd.ok{P:Program}{w:World}{H:Hp}{h:Heap}{a:Addr}{u:HO}(r:Rd H a u)(x:HOk P w H h):cO P w H h a u:=by
 rcases r with r|⟨o,r⟩
 . exact x a u r
 . obtain⟨_,q⟩:=x a _ r
   exact q
noncomputable def Mut:Option HO->Prop
 | some (.lst _)=>True
 | some (.dK _)=>True
 | some (.dT _)=>True
 | some (.set _ _)=>True
 | some (.ins _ _ _)=>True
 | some (.ext _)=>True
 | _=>False
section
variable {P:Program} {w:World} {H:Hp} {h h':Heap} {x e:Addr} {o':HO}
theorem HOk.write(ok:HOk P w H h)(mu:Mut (H x))(he:e=x\/H e=some (.own x))(k:∀b u,b≠e->h.get? b=some u->h'.get? b=some u)(heo:∃u,h'.get? e=some u)
 (new:cO P w (upd H x o') h' x o'):HOk P w (upd H x o') h':=λb u q=>by
 have nown:∀c y,H c=some (.own y)->c≠x:=λc y r z=>by subst z;rw[r] at mu;exact mu
 have ntup:∀c xs,H c=some (.tup xs)->c≠x:=λc xs r z=>by subst z;rw[r] at mu;exact mu
 by_cases hb:b=x
 . subst hb;rw[bD] at q;cases q;exact new
 . rw[aJ hb] at q
   by_cases hbe:b=e
   . have q':H b=some (.own x):=by
      rcases he with z|z
      . exact absurd (hbe.trans z) hb
      . rw[hbe];exact z
     rw[q] at q';cases q'
     obtain⟨v,hv⟩:=heo
     exact⟨v,by rw[hbe];exact hv⟩
   . refine(ok b u q).stay (λc v hc r=>k c v ?_ r) (λc r=>by rw[aJ (nown c b r)];exact r) λc xs r=>by rw[aJ (ntup c xs r)];exact r
     rcases hc with rfl|hc
     . exact hbe
     . rintro rfl
       rcases he with z|z
       . exact nown c b hc z
       . rw[hc] at z;cases z;exact hb rfl
end
structure Un (fs ex:List Addr) (H H':Hp) (h h':Heap):Prop where
 keep:∀b o,h.get? b=some o->H b=none->b∉fs->b∉ex->h'.get? b=some o
 slot:∀b o,h.get? b=some o->H b=none->b∈fs->b∉ex->∃sl,h'.get? b=some { o with slots:=sl }
 free:∀b o,h.get? b=some o->H b=none->b∉ex->H' b=none
 there:∀b o,h.get? b=some o->b∉ex->∃o',h'.get? b=some o'
 tups:∀b xs,H b=some (.tup xs)->H' b=some (.tup xs)
 frzs:∀b o u,H b=some (.frz o u)->H' b=some (.frz o u)
 tbls:∀b ps,H b=some (.tbl ps)->∃more,H' b=some (.tbl (ps++more))
section
variable {fs fs' ex ex':List Addr} {H H1 H2:Hp} {h h1 h2 h':Heap} {a x e:Addr} {o:HO}
theorem Un.any(u:Un fs ex H H1 h h1){b:Addr}{ob:Obj}(q:h.get? b=some ob)(n:H b=none)(hx:b∉ex):∃sl,h1.get? b=some { ob with slots:=sl }:=by
 by_cases hb:b∈fs
 . exact u.slot b ob q n hb hx
 . exact⟨ob.slots,u.keep b ob q n hb hx⟩
theorem Un.kept(k:∀b u,h.get? b=some u->h'.get? b=some u):Un fs ex H H h h':=
 ⟨λb ob q _ _ _=>k b ob q,λb ob q _ _ _=>⟨ob.slots,k b ob q⟩,λ_ _ _ n _=>n,λb ob q _=>⟨ob,k b ob q⟩,λ_ _ q=>q,λ_ _ _ q=>q,λ_ ps q=>⟨#[],by rw[q];simp⟩⟩
theorem Un.refl:Un fs ex H H h h:=Un.kept λ_ _ q=>q
theorem Un.laid(k:∀b u,h.get? b=some u->h'.get? b=some u)(hp:h.objs.size<=a)(hn:H a=none):Un fs ex H (upd H a o) h h' where
 keep:=λb u q _ _ _=>k b u q
 slot:=λb u q _ _ _=>⟨u.slots,k b u q⟩
 free:=λb u q n _=>by rw[aJ (Nat.ne_of_lt (Nat.lt_of_lt_of_le (Heap.lt_size q) hp))];exact n
 there:=λb u q _=>⟨u,k b u q⟩
 tups:=λb xs q=>by rw[aJ (bE q hn)];exact q
 frzs:=λb u xs q=>by rw[aJ (bE q hn)];exact q
 tbls:=λb ps q=>⟨#[],by rw[aJ (bE q hn),q];simp⟩
theorem Un.write(mu:Mut (H x))(he:e=x\/H e=some (.own x))(k:∀b u,b≠e->h.get? b=some u->h'.get? b=some u)(heo:∃u,h'.get? e=some u):Un fs ex H (upd H x o) h h':=by
 have hx:∀b,H b=none->b≠x:=λb n z=>by subst z;rw[n] at mu;exact mu
 have hb:∀b,H b=none->b≠e:=λb n z=>by
  subst z
  rcases he with r|r
  . exact hx b n r
  . rw[n] at r;cases r
 have hm:∀b u,H b=some u->¬ Mut (some u)->b≠x:=λb u q nm z=>by subst z;rw[q] at mu;exact nm mu
 refine⟨λb u q n _ _=>k b u (hb b n) q,λb u q n _ _=>⟨u.slots,k b u (hb b n) q⟩,λb u q n _=>by rw[aJ (hx b n)];exact n,λb u q _=>?_,
  λb xs q=>by rw[aJ (hm b _ q λz=>z)];exact q,λb u xs q=>by rw[aJ (hm b _ q λz=>z)];exact q,λb ps q=>⟨#[],by rw[aJ (hm b _ q λz=>z),q];simp⟩⟩
 by_cases hbe:b=e
 . subst hbe;exact heo
 . exact⟨u,k b u hbe q⟩
end
noncomputable def trk(h:Heap)(H:Hp):List Addr:=(List.range h.objs.size).filter λa=>(H a).isSome
noncomputable def oZ(h:Heap)(H:Hp):Heap:=PySem.W.hideAll h (trk h H)
theorem xQ(h:Heap)(H:Hp):(oZ h H).objs.size=h.objs.size:=PySem.W.hideAll_size _ _
theorem zI{h:Heap}{H:Hp}{b:Addr}{o:Obj}(e:h.get? b=some o)(n:H b=none):(oZ h H).get? b=some o:=
 PySem.W.hideAll_get _ e λhm=>by
  have q:(H b).isSome=true:=(List.mem_filter.mp hm).2
  rw[n] at q;simp at q
theorem aBS{h:Heap}{H:Hp}{b:Addr}{o:Obj}(e:(oZ h H).get? b=some o):h.get? b=some o/\H b=none:=by
 have e':h.get? b=some o:=PySem.W.of_hideAll (trk h H) e
 refine⟨e',?_⟩
 cases q:H b with
 | none=>rfl
 | some x=>
  have hm:b∈trk h H:=List.mem_filter.mpr ⟨List.mem_range.mpr (Heap.lt_size e'),by simp[q]⟩
  have z:(oZ h H).get? b=none:=PySem.W.hideAll_none (trk h H) hm
  rw[z] at e;cases e
noncomputable def aBT(g h:Heap)(L:Addr):List (Addr×Obj):=(List.range h.objs.size).filterMap λa=>if a=L\/(g.get? a).isSome=true then none else (h.get? a).map λo=>(a,o)
noncomputable def rest(g h:Heap)(L d:Addr):List (Addr×Obj):=(aBT g h L).filter λp=>decide (p.1≠d)
end L2
namespace L2
open PySem PySem.Spec PyProof.Rows
structure Mod (K:PySem.W.Frag) (mg:Str->Option Value) (base:Heap):Prop where
 kin:K.In base
 glob:base.Ns mainGlobals mg
 blt:∃mb,base.Ns builtinsNs mb/\∀x:Str,x ≠ "__name__" -> mb x=bootBuiltins x
 nolimit:base.NoLimit
set_option genInjectivity true in
structure Cx where
 prog:Program
 w:World
 K:PySem.W.Frag
 mg:Str->Option Value
 base:Heap
 A:Around
 N:List Str
 s₀:Shared
 H₀:Hp
 env:Env
 outer:List Env
 stack:List Env
 ex:List Addr
 fn:Str->Bool
 calm:Bool
 pn:List (Addr×Obj)
 xe:Value->Shared->Prop
noncomputable def frs(l:List Env):List Addr:=l.filterMap (·.frame)
abbrev Cx.fs(X:Cx):List Addr:=frs X.outer
noncomputable def Vis(sc:Scope)(x:Str):Prop:=sc.names.lookup x=some .local\/sc.names.lookup x=some .cell\/sc.names.lookup x=some .free
noncomputable def Loc(sc:Scope)(x:Str):Prop:=sc.names.lookup x=some .local\/sc.names.lookup x=some .cell
noncomputable def aIU(env:Env)(h:Heap)(m:Str->Option Value)(x:Str)(u:Value):Prop:=
 (env.kindOf x=some .local/\m x=some u)\/((env.kindOf x=some .cell\/env.kindOf x=some .free)/\∃c,env.cells.lookup x=some c/\h.IsCell c (some u))
structure Cx.Ok (X:Cx):Prop where
 mod:Mod X.K X.mg X.base
 kind:X.env.scope.kind=.function
 glob:X.env.globals=mainGlobals
 blt:X.env.builtins=builtinsNs
 above:X.s₀.heap.objs.size<=X.env.locals
 inj:∀x y c,X.env.cells.lookup x=some c->X.env.cells.lookup y=some c->x=y
 has:∀x,(X.env.kindOf x=some .cell\/X.env.kindOf x=some .free)->∃c,X.env.cells.lookup x=some c
 cab:∀x c,X.fn x=true->X.env.cells.lookup x=some c->X.s₀.heap.objs.size<=c
 hd:X.calm=true->X.A.handled=none
 frames:X.A.frames=some X.stack
 stk:X.stack=X.outer\/(X.stack=X.env::X.outer/\X.env.frame=some X.env.locals)
 exf:∀b∈X.ex,b≠X.env.locals/\∀x c,X.env.cells.lookup x=some c->c≠b
 bs:∀b o,X.base.get? b=some o->X.s₀.heap.get? b=some o/\X.H₀ b=none
 bsz:X.base.objs.size<=X.s₀.heap.objs.size
 noex:∀b o,X.base.get? b=some o->b∉X.ex
 exfs:∀b∈X.ex,b∉X.fs
 funs:X.s₀.heap.FunFrames X.base X.outer
 frf:∀b∈X.fs,X.H₀ b=none
structure Inv (X:Cx) (pins:List (Addr×Obj)) (σ:List (Option V)) (H:Hp) (s:Shared):Prop where
 ok:X.Ok
 os:s.os=X.s₀.os
 bare:AllBare s.gens
 base:Un X.fs X.ex X.H₀ H X.s₀.heap s.heap
 loc:∃m,s.heap.Ns X.env.locals m/\∀(i:Nat) (x:Str) (v:V),X.N[i]? = some x->σ[i]? = some (some v)->Vis X.env.scope x->∃u,aR v u/\aIU X.env s.heap m x u
 cell:∀x c,X.env.cells.lookup x=some c->∃v,s.heap.IsCell c v
 free:H X.env.locals=none
 freeC:∀x c,X.env.cells.lookup x=some c->H c=none
 pin:∀p∈X.pn++pins,s.heap.get? p.1=some p.2/\H p.1=none/\p.1≠X.env.locals/\p.1∉X.fs/\∀v,p.2.data≠.cell v
 hok:HOk X.prog X.w H s.heap
 len:σ.length=X.N.length
section
variable {X:Cx} {pins:List (Addr×Obj)} {σ:List (Option V)} {H H':Hp} {s:Shared} {h':Heap}
theorem Cx.Ok.nofr(ok:X.Ok){b:Addr}{o:Obj}(e:X.base.get? b=some o):b∉X.fs:=λhb=>by
 have:=(ok.funs.mem hb).1
 rw[e] at this;cases this
theorem Inv.bs(I:Inv X pins σ H s):∀b o,X.base.get? b=some o->s.heap.get? b=some o/\H b=none:=λb o e=>
 ⟨I.base.keep b o (I.ok.bs b o e).1 (I.ok.bs b o e).2 (I.ok.nofr e) (I.ok.noex b o e),I.base.free b o (I.ok.bs b o e).1 (I.ok.bs b o e).2 (I.ok.noex b o e)⟩
theorem Inv.bk(I:Inv X pins σ H s):∀b o,X.base.get? b=some o->s.heap.get? b=some o:=λb o e=>(I.bs b o e).1
theorem Inv.mod(I:Inv X pins σ H s):Mod X.K X.mg X.base:=I.ok.mod
theorem Inv.kIn(I:Inv X pins σ H s):X.K.In s.heap:=I.ok.mod.kin.keeps I.bk
theorem Inv.lt(I:Inv X pins σ H s):X.env.locals<s.heap.objs.size:=let ⟨_,hn,_⟩:=I.loc;hn.lt
theorem Inv.sz(I:Inv X pins σ H s):X.s₀.heap.objs.size<=s.heap.objs.size:=Nat.le_trans I.ok.above (Nat.le_of_lt I.lt)
theorem Inv.nofs(I:Inv X pins σ H s){a:Addr}(h:s.heap.objs.size<=a):a∉X.fs:=λhb=>by
 obtain⟨_,o,ho,_⟩:=I.ok.funs.mem hb
 exact absurd (Nat.lt_of_lt_of_le (Heap.lt_size ho) (Nat.le_trans I.sz h)) (Nat.lt_irrefl _)
theorem Inv.cne(I:Inv X pins σ H s):∀x c,X.env.cells.lookup x=some c->c≠X.env.locals:=λx c e z=>by
 obtain⟨v,o,ho,hd⟩:=I.cell x c e
 obtain⟨m,⟨o',es,ep,ho',hd',_⟩,_⟩:=I.loc
 rw[z,ho'] at ho;cases ho;rw[hd'] at hd;cases hd
theorem Inv.funs(I:Inv X pins σ H s):s.heap.FunFrames X.base X.outer:=by
 have all:∀(l:List Env),(∀b∈frs l,b∈X.fs)->X.s₀.heap.FunFrames X.base l->s.heap.FunFrames X.base l:=by
  intro l
  induction l with
  | nil=>intro _ _;trivial
  | cons env r ih=>
   intro hs hl
   obtain⟨hk,⟨L,o,hf,hn,ho,hd⟩,hr⟩:=hl
   have hL:L∈X.fs:=hs L (by unfold frs;rw[List.filterMap_cons,hf];exact List.mem_cons_self)
   obtain⟨sl,e⟩:=I.base.slot L o ho (I.ok.frf L hL) hL λz=>I.ok.exfs L z hL
   exact⟨hk,⟨L,_,hf,hn,e,hd⟩,ih (λb hb=>hs b (by unfold frs;rw[List.filterMap_cons,hf];exact List.mem_cons_of_mem _ hb)) hr⟩
 exact all X.outer (λ_ hb=>hb) I.ok.funs
theorem Inv.stack(I:Inv X pins σ H s):s.heap.FunFrames X.base X.stack:=by
 rcases I.ok.stk with e|⟨e,hf⟩
 . rw[e];exact I.funs
 . rw[e]
   obtain⟨m,hn,_⟩:=I.loc
   refine .cons (by rw[I.ok.kind];decide) hf hn ?_ I.funs
   exact Heap.get?_none_of_le (Nat.le_trans I.ok.bsz I.ok.above)
theorem Inv.stkSub(I:Inv X pins σ H s):∀b∈frs X.stack,b∈X.env.locals::X.fs:=λb hb=>by
 rcases I.ok.stk with e|⟨e,hf⟩
 . rw[e] at hb;exact List.mem_cons_of_mem _ hb
 . rw[e] at hb
   unfold frs at hb
   rw[List.filterMap_cons,hf] at hb
   exact hb
theorem Inv.stkFree(I:Inv X pins σ H s):∀b∈frs X.stack,H b=none:=λb hb=>by
 rcases List.mem_cons.mp (I.stkSub b hb) with e|hb
 . rw[e];exact I.free
 . obtain⟨_,o,ho,_⟩:=I.ok.funs.mem hb
   exact I.base.free b o ho (I.ok.frf b hb) λz=>I.ok.exfs b z hb
theorem Inv.step{g':Array GenState}{t':Nat}{d':Drawn}{ch:List Addr}(I:Inv X pins σ H s)
 (hch:∀b∈ch,(b∈X.ex\/X.s₀.heap.objs.size<=b)/\b≠X.env.locals/\(∀x c,X.env.cells.lookup x=some c->c≠b)/\∀p∈X.pn++pins,p.1≠b)
 (keep:∀b o,b≠X.env.locals->b∉X.fs->b∉ch->s.heap.get? b=some o->H b=none->h'.get? b=some o)
 (slot:∀b o,b≠X.env.locals->b∈X.fs->b∉ch->s.heap.get? b=some o->H b=none->∃sl,h'.get? b=some { o with slots:=sl }) (free:∀b o,b∉ch->s.heap.get? b=some o->H b=none->H' b=none)
 (there:∀b o,b∉ch->s.heap.get? b=some o->∃o',h'.get? b=some o')
 (tups:∀b xs,H b=some (.tup xs)->H' b=some (.tup xs)) (frzs:∀b o u,H b=some (.frz o u)->H' b=some (.frz o u)) (tbls:∀b ps,H b=some (.tbl ps)->∃more,H' b=some (.tbl (ps++more)))
 (ns:∀m,s.heap.Ns X.env.locals m->h'.Ns X.env.locals m) (hok:HOk X.prog X.w H' h') (hg:AllBare g') :
 Inv X pins σ H' { s with heap:=h',gens:=g',drawn:=d',toks:=t' }:=by
 have neL:∀b o,X.s₀.heap.get? b=some o->b≠X.env.locals:=λb o e=>Nat.ne_of_lt (Nat.lt_of_lt_of_le (Heap.lt_size e) I.ok.above)
 have neC:∀b o,X.s₀.heap.get? b=some o->b∉X.ex->b∉ch:=λb o e hx hb=>by
  rcases(hch b hb).1 with z|z
  . exact hx z
  . exact absurd (Nat.lt_of_lt_of_le (Heap.lt_size e) z) (Nat.lt_irrefl _)
 have cellK:∀x c,X.env.cells.lookup x=some c->∀v,s.heap.IsCell c v->h'.IsCell c v:=λx c e v ⟨o,ho,hd⟩=>by
  have nch:c∉ch:=λz=>(hch c z).2.2.1 x c e rfl
  by_cases hc:c∈X.fs
  . obtain⟨sl,q⟩:=slot c o (I.cne x c e) hc nch ho (I.freeC x c e)
    exact⟨_,q,hd⟩
  . exact⟨o,keep c o (I.cne x c e) hc nch ho (I.freeC x c e),hd⟩
 refine⟨I.ok,I.os,hg,⟨λb o e n hb hx=>?_,λb o e n hb hx=>?_,λb o e n hx=>?_,λb o e hx=>?_,λb xs e=>tups b xs (I.base.tups b xs e),λb o xs e=>frzs b o xs (I.base.frzs b o xs e),λb ps e=>?_⟩,?_,λx c e=>?_,?_,λx c e=>?_,λp hp=>?_,hok,I.len⟩
 . exact keep b o (neL b o e) hb (neC b o e hx) (I.base.keep b o e n hb hx) (I.base.free b o e n hx)
 . obtain⟨sl,e1⟩:=I.base.slot b o e n hb hx
   obtain⟨sl',e2⟩:=slot b _ (neL b o e) hb (neC b o e hx) e1 (I.base.free b o e n hx)
   exact⟨sl',e2⟩
 . obtain⟨o',e1⟩:=I.base.there b o e hx
   exact free b o' (neC b o e hx) e1 (I.base.free b o e n hx)
 . obtain⟨o',e1⟩:=I.base.there b o e hx
   exact there b o' (neC b o e hx) e1
 . obtain⟨m1,e1⟩:=I.base.tbls b ps e
   obtain⟨m2,e2⟩:=tbls b _ e1
   exact⟨m1++m2,by rw[e2,Array.append_assoc]⟩
 . obtain⟨m,hn,hl⟩:=I.loc
   refine⟨m,ns m hn,λi x v e1 e2 e3=>?_⟩
   obtain⟨u,r,l⟩:=hl i x v e1 e2 e3
   refine⟨u,r,?_⟩
   rcases l with l|⟨k,c,e,z⟩
   . exact .inl l
   . exact .inr ⟨k,c,e,cellK x c e _ z⟩
 . obtain⟨v,z⟩:=I.cell x c e
   exact⟨v,cellK x c e v z⟩
 . obtain⟨m,⟨o,_,_,ho,_⟩,_⟩:=I.loc
   exact free _ o (λz=>(hch _ z).2.1 rfl) ho I.free
 . obtain⟨v,o,ho,hd⟩:=I.cell x c e
   exact free c o (λz=>(hch c z).2.2.1 x c e rfl) ho (I.freeC x c e)
 . obtain⟨e,n,ne,nf,d⟩:=I.pin p hp
   have nch:p.1∉ch:=λz=>(hch p.1 z).2.2.2 p hp rfl
   exact⟨keep p.1 p.2 ne nf nch e n,free p.1 p.2 nch e n,ne,nf,d⟩
theorem Inv.un{t':Nat}(I:Inv X pins σ H s)(u:Un X.fs [] H H' s.heap h')(hok:HOk X.prog X.w H' h'):Inv X pins σ H' { s with heap:=h',toks:=t' }:=by
 obtain⟨m,⟨o,es,ep,ho,r⟩,_⟩:=id I.loc
 obtain⟨sl,hL⟩:=u.any ho I.free (by simp)
 exact I.step (g':=s.gens) (d':=s.drawn) (ch:=[]) (λ_ z=>nomatch z) (λb o _ hb _ e n=>u.keep b o e n hb (by simp)) (λb o _ hb _ e n=>u.slot b o e n hb (by simp)) (λb o _ e n=>u.free b o e n (by simp)) (λb o _ e=>u.there b o e (by simp)) u.tups u.frzs u.tbls (λm' hm=>by
  obtain⟨o',es',ep',ho',r'⟩:=hm
  rw[ho] at ho';cases ho'
  exact⟨_,es',ep',hL,r'⟩) hok I.bare
theorem Inv.call{g':Array GenState}{t':Nat}{d':Drawn}{ch:List Addr}(I:Inv X pins σ H s)(u:Un (frs X.stack) ch H H' s.heap h')(hok:HOk X.prog X.w H' h')(hg:AllBare g')
 (hch:∀b∈ch,(b∈X.ex\/X.s₀.heap.objs.size<=b)/\b≠X.env.locals/\(∀x c,X.env.cells.lookup x=some c->c≠b)/\∀p∈X.pn++pins,p.1≠b) :
 Inv X pins σ H' { s with heap:=h',gens:=g',drawn:=d',toks:=t' }:=by
 obtain⟨m,⟨o,es,ep,ho,r⟩,_⟩:=id I.loc
 obtain⟨sl,hL⟩:=u.any ho I.free λz=>(hch _ z).2.1 rfl
 exact I.step (ch:=ch) hch (λb o hL hb hc e n=>u.keep b o e n (λz=>(List.mem_cons.mp (I.stkSub b z)).elim hL hb) hc) (λb o _ _ hc e n=>u.any e n hc) (λb o hc e n=>u.free b o e n hc) (λb o hc e=>u.there b o e hc) u.tups u.frzs u.tbls (λm' hm=>by
  obtain⟨o',es',ep',ho',r'⟩:=hm
  rw[ho] at ho';cases ho'
  exact⟨_,es',ep',hL,r'⟩) hok hg
theorem Inv.turned{t':Nat}{it:Addr}(I:Inv X pins σ H s)(k:∀b o,b≠it->s.heap.get? b=some o->h'.get? b=some o)(hn:H it=none)(hL:it≠X.env.locals)
 (h1:it∈X.ex\/X.s₀.heap.objs.size<=it) (h2:∀x c,X.env.cells.lookup x=some c->c≠it) (h3:∀p∈X.pn++pins,p.1≠it):Inv X pins σ H { s with heap:=h',toks:=t' }:=by
 have nit:∀b u,H b=some u->b≠it:=λb u e z=>by rw[z,hn] at e;cases e
 refine I.step (g':=s.gens) (d':=s.drawn) (ch:=[it]) (λb hb=>?_) (λb o _ _ hc e _=>k b o (λz=>hc (by simp[z])) e) (λb o _ _ hc e _=>⟨o.slots,k b o (λz=>hc (by simp[z])) e⟩) (λ_ _ _ _ n=>n)
  (λb o hc e=>⟨o,k b o (λz=>hc (by simp[z])) e⟩) (λ_ _ e=>e) (λ_ _ _ e=>e) (λb ps e=>⟨#[],by rw[e];simp⟩) (λm hm=>?_) (λb u e=>?_) I.bare
 . have e:b=it:=by simpa using hb
   subst e
   exact⟨h1,hL,h2,h3⟩
 . obtain⟨o,es,ep,ho,r⟩:=hm
   exact⟨o,es,ep,k _ o (Ne.symm hL) ho,r⟩
 . refine(I.hok b u e).stay (λc v hc q=>k c v ?_ q) (λ_ q=>q) λ_ _ q=>q
   rcases hc with z|z
   . rw[z];exact nit b u e
   . exact nit c _ z
theorem Inv.tok(I:Inv X pins σ H s)(t:Nat):Inv X pins σ H { s with toks:=t }:=I.un (h':=s.heap) (t':=t) Un.refl I.hok
theorem Inv.kept{t':Nat}(I:Inv X pins σ H s)(k:∀b u,s.heap.get? b=some u->h'.get? b=some u):Inv X pins σ H { s with heap:=h',toks:=t' }:=I.un (Un.kept k) (I.hok.kept k)
theorem Inv.laid{a:Addr}{o:HO}{t':Nat}(I:Inv X pins σ H s)(k:∀b u,s.heap.get? b=some u->h'.get? b=some u)(hp:s.heap.objs.size<=a)(new:cO X.prog X.w (upd H a o) h' a o) :
 Inv X pins σ (upd H a o) { s with heap:=h',toks:=t' }:=I.un (Un.laid k hp (I.hok.fresh hp)) (I.hok.laid k hp new)
theorem Inv.write{x e:Addr}{o:HO}{t':Nat}(I:Inv X pins σ H s)(mu:Mut (H x))(he:e=x\/H e=some (.own x))(k:∀b u,b≠e->s.heap.get? b=some u->h'.get? b=some u)(heo:∃u,h'.get? e=some u)
 (new:cO X.prog X.w (upd H x o) h' x o):Inv X pins σ (upd H x o) { s with heap:=h',toks:=t' }:=I.un (Un.write mu he k heo) (I.hok.write mu he k heo new)
theorem Inv.pins_of{pins':List (Addr×Obj)}(I:Inv X pins σ H s)(h:∀p∈pins',s.heap.get? p.1=some p.2/\H p.1=none/\p.1≠X.env.locals/\p.1∉X.fs/\∀v,p.2.data≠.cell v):Inv X pins' σ H s:=
 ⟨I.ok,I.os,I.bare,I.base,I.loc,I.cell,I.free,I.freeC,λp hp=>(List.mem_append.mp hp).elim (λz=>I.pin p (List.mem_append_left _ z)) (h p),I.hok,I.len⟩
theorem qZ{N:List Str}(hN:N.Nodup){i j:Nat}{x:Str}(a:N[i]? = some x)(b:N[j]? = some x):i=j:=by
 obtain⟨h1,e1⟩:=List.getElem?_eq_some_iff.mp a
 obtain⟨h2,e2⟩:=List.getElem?_eq_some_iff.mp b
 exact(List.getElem_inj hN).mp (e1.trans e2.symm)
theorem nJ{M:Model}{A:Around}{E:Value->Shared->Prop}{i:Nat}{x:Str}{v:V}{u:Value}{Q:Unit->Shared->Prop}(I:Inv X pins σ H s)(hN:X.N.Nodup)(hi:X.N[i]? = some x)(hx:Loc X.env.scope x)(r:aR v u)
 (h:∀s',Inv X pins (σ.set i (some v)) H s'->(∃a,Heap.SameBut a s.heap s'.heap/\(a=X.env.locals\/X.env.cells.lookup x=some a))->Q () s') (hf:X.fn x=true\/X.env.scope.names.lookup x=some .local:=by first|exact .inl rfl|exact .inr rfl|assumption):wpAny M A (storeName X.env x u) Q E s:=by
 obtain⟨m,hn,hl⟩:=id I.loc
 have hcls:(X.env.scope.kind==.class||(X.env.scope.kind==.module&&X.env.locals != X.env.globals))=false:=by rw[I.ok.kind];rfl
 have hiσ:i<σ.length:=by rw[I.len];exact(List.getElem?_eq_some_iff.mp hi).1
 have cne:=I.cne
 have tracked:∀{a:Addr} {h':Heap},(∃o,s.heap.get? a=some o/\H a=none)->Heap.SameBut a s.heap h'->HOk X.prog X.w H h':=λ{a h'} ha hs b ob e=>by
  obtain⟨_,_,hfree⟩:=ha
  refine(I.hok b ob e).stay (λc w' hc q=>(hs.2 c ?_).trans q) (λ_ q=>q) λ_ _ q=>q
  rintro rfl
  rcases hc with rfl|hc
  . rw[hfree] at e;cases e
  . rw[hfree] at hc;cases hc
 rcases hx with hk|hk
 . refine wpAny_storeName_local hk hn (λh' hn' hs=>?_) hcls
   obtain⟨oL,_,_,hoL,_⟩:=id hn
   refine h _ ⟨I.ok,I.os,I.bare,⟨λb o e n hb hx=>?_,λb o e n hb hx=>?_,I.base.free,λb o e hx=>?_,I.base.tups,I.base.frzs,I.base.tbls⟩,⟨_,hn',λj y v' e1 e2 e3=>?_⟩,λy c e=>?_,I.free,I.freeC,λp hp=>?_,tracked ⟨oL,hoL,I.free⟩ hs,by simpa using I.len⟩ ⟨_,hs,.inl rfl⟩
   . exact(hs.2 b (Nat.ne_of_lt (Nat.lt_of_lt_of_le (Heap.lt_size e) I.ok.above))).trans (I.base.keep b o e n hb hx)
   . obtain⟨sl,e1⟩:=I.base.slot b o e n hb hx
     exact⟨sl,(hs.2 b (Nat.ne_of_lt (Nat.lt_of_lt_of_le (Heap.lt_size e) I.ok.above))).trans e1⟩
   . obtain⟨o',e1⟩:=I.base.there b o e hx
     exact⟨o',(hs.2 b (Nat.ne_of_lt (Nat.lt_of_lt_of_le (Heap.lt_size e) I.ok.above))).trans e1⟩
   . by_cases hj:j=i
     . subst hj
       rw[hi] at e1;cases e1
       rw[List.getElem?_set_self hiσ] at e2
       cases e2
       exact⟨u,r,.inl ⟨hk,by simp⟩⟩
     . rw[List.getElem?_set_ne (Ne.symm hj)] at e2
       obtain⟨u',r',q⟩:=hl j y v' e1 e2 e3
       refine⟨u',r',?_⟩
       rcases q with⟨k,e⟩|⟨k,c,e,z⟩
       . refine .inl ⟨k,?_⟩
         have:y≠x:=λe=>hj (qZ hN e1 (e▸hi))
         simp[this,e]
       . exact .inr ⟨k,c,e,z.sameBut hs (cne y c e)⟩
   . obtain⟨w',z⟩:=I.cell y c e
     exact⟨w',z.sameBut hs (cne y c e)⟩
   . obtain⟨e,n,ne,nf,d⟩:=I.pin p hp
     exact⟨(hs.2 p.1 ne).trans e,n,ne,nf,d⟩
 . have hfn:X.fn x=true:=by
    rcases hf with z|z
    . exact z
    . rw[z] at hk;cases hk
   obtain⟨c,hc⟩:=I.ok.has x (.inl hk)
   obtain⟨w',z⟩:=I.cell x c hc
   refine wpAny_storeName_cell I.ok.kind hk hc z (λh' hc' hs=>?_)
   obtain⟨oc,hoc,hocd⟩:=id z
   refine h { s with heap:=h' } ⟨I.ok,I.os,I.bare,⟨λb o e n hb hx=>?_,λb o e n hb hx=>?_,I.base.free,λb o e hx=>?_,I.base.tups,I.base.frzs,I.base.tbls⟩,⟨m,hn.sameBut hs (Ne.symm (cne x c hc)),λj y v' e1 e2 e3=>?_⟩,λy c' e=>?_,I.free,I.freeC,λp hp=>?_,tracked ⟨oc,hoc,I.freeC x c hc⟩ hs,by simpa using I.len⟩ ⟨c,hs,.inr hc⟩
   . exact(hs.2 b (Nat.ne_of_lt (Nat.lt_of_lt_of_le (Heap.lt_size e) (I.ok.cab x c hfn hc)))).trans (I.base.keep b o e n hb hx)
   . obtain⟨sl,e1⟩:=I.base.slot b o e n hb hx
     exact⟨sl,(hs.2 b (Nat.ne_of_lt (Nat.lt_of_lt_of_le (Heap.lt_size e) (I.ok.cab x c hfn hc)))).trans e1⟩
   . obtain⟨o',e1⟩:=I.base.there b o e hx
     exact⟨o',(hs.2 b (Nat.ne_of_lt (Nat.lt_of_lt_of_le (Heap.lt_size e) (I.ok.cab x c hfn hc)))).trans e1⟩
   . by_cases hj:j=i
     . subst hj
       rw[hi] at e1;cases e1
       rw[List.getElem?_set_self hiσ] at e2
       cases e2
       exact⟨u,r,.inr ⟨.inl hk,c,hc,hc'⟩⟩
     . rw[List.getElem?_set_ne (Ne.symm hj)] at e2
       obtain⟨u',r',q⟩:=hl j y v' e1 e2 e3
       refine⟨u',r',?_⟩
       rcases q with q|⟨k,c',e,z'⟩
       . exact .inl q
       . refine .inr ⟨k,c',e,z'.sameBut hs ?_⟩
         rintro rfl
         exact hj (qZ hN e1 (I.ok.inj _ _ _ e hc▸hi))
   . by_cases hcc:c'=c
     . subst hcc;exact⟨_,hc'⟩
     . obtain⟨w2,z2⟩:=I.cell y c' e
       exact⟨w2,z2.sameBut hs hcc⟩
   . obtain⟨e,n,ne,nf,d⟩:=I.pin p hp
     refine⟨(hs.2 p.1 ?_).trans e,n,ne,nf,d⟩
     intro q
     rw[q,hoc] at e
     have q':oc=p.2:=Option.some.inj e
     exact d w' (by rw[<-q'];exact hocd)
theorem rA{M:Model}{A:Around}{E:Value->Shared->Prop}{i:Nat}{x:Str}{v:V}{u:Value}{Q:Unit->Shared->Prop}(I:Inv X pins σ H s)(hN:X.N.Nodup)(hi:X.N[i]? = some x)(hx:Loc X.env.scope x)(r:aR v u)
 (h:∀s',Inv X pins (σ.set i (some v)) H s'->Q () s') (hf:X.fn x=true\/X.env.scope.names.lookup x=some .local:=by first|exact .inl rfl|exact .inr rfl|assumption):wpAny M A (storeName X.env x u) Q E s:=
 nJ I hN hi hx r (λs' I' _=>h s' I') hf
theorem Inv.call'{s':Shared}{ch:List Addr}(I:Inv X pins σ H s)(ho:s'.os=s.os)(u:Un (frs X.stack) ch H H' s.heap s'.heap)(hok:HOk X.prog X.w H' s'.heap)(hg:AllBare s'.gens)
 (hch:∀b∈ch,(b∈X.ex\/X.s₀.heap.objs.size<=b)/\b≠X.env.locals/\(∀x c,X.env.cells.lookup x=some c->c≠b)/\∀p∈X.pn++pins,p.1≠b):Inv X pins σ H' s':=by
 obtain⟨h',g',d',t',o'⟩:=s'
 have e:o'=s.os:=ho
 subst e
 exact I.call (g':=g') (t':=t') (d':=d') u hok hg hch
end
abbrev XK:=Value->Option Addr->Hp->Prop
abbrev St:=List (Option V)
abbrev VK:=V->Hp->Prop
abbrev TE:=St->Hp->VK->Prop
abbrev TT:=St->Hp->(Bool->Hp->Prop)->Prop
abbrev TA:=St->Hp->(List V->Hp->Prop)->Prop
structure Ends where
 nx:St->Hp->Prop
 rt:VK
 bk:St->Hp->Prop:=λ_ _=>False
 ct:St->Hp->Prop:=λ_ _=>False
abbrev TS:=Ends->St->Hp->Prop
noncomputable def EP(X:Cx)(pins:List (Addr×Obj))(σ:St)(Q:VK)(u:Value)(s':Shared):Prop:=∃v H',Inv X pins σ H' s'/\aR v u/\Q v H'
noncomputable def TP(X:Cx)(pins:List (Addr×Obj))(σ:St)(Q:Bool->Hp->Prop)(b:Bool)(s':Shared):Prop:=∃H',Inv X pins σ H' s'/\Q b H'
noncomputable def AP(X:Cx)(pins:List (Addr×Obj))(σ:St)(Q:List V->Hp->Prop)(us:List Value)(s':Shared):Prop:=∃vs H',Inv X pins σ H' s'/\aI vs us/\Q vs H'
noncomputable def SP(X:Cx)(pins:List (Addr×Obj))(D:Ends)(f:Flow)(s':Shared):Prop:=
 match f with
 | .next=>∃σ' H',Inv X pins σ' H' s'/\D.nx σ' H'
 | .brk=>∃σ' H',Inv X pins σ' H' s'/\D.bk σ' H'
 | .cont=>∃σ' H',Inv X pins σ' H' s'/\D.ct σ' H'
 | .ret u=>∃v σ' H',Inv X pins σ' H' s'/\aR v u/\D.rt v H'
noncomputable def PE(X:Cx)(e:Expr)(t:TE):Prop:=
 ∀(pins:List (Addr×Obj)) (s:Shared) (σ:St) (H:Hp) (Q:VK),Inv X pins σ H s->t σ H Q->wpAny (model X.prog X.w) X.A (eval e X.env) (EP X pins σ Q) X.xe s
noncomputable def PT(X:Cx)(e:Expr)(t:TT):Prop:=
 ∀(pins:List (Addr×Obj)) (s:Shared) (σ:St) (H:Hp) (Q:Bool->Hp->Prop),Inv X pins σ H s->t σ H Q->wpAny (model X.prog X.w) X.A (isTrue e X.env (eval e X.env)) (TP X pins σ Q) X.xe s
noncomputable def PW(X:Cx)(e:Expr)(t:TT):Prop:=
 ∀(whole:Sem Value) (pins:List (Addr×Obj)) (s:Shared) (σ:St) (H:Hp) (Q:Bool->Hp->Prop),Inv X pins σ H s->t σ H Q->wpAny (model X.prog X.w) X.A (isTrue e X.env whole) (TP X pins σ Q) X.xe s
theorem PW.pt{X:Cx}{e:Expr}{t:TT}(h:PW X e t):PT X e t:=h _
noncomputable def PA(X:Cx)(es:List Expr)(t:TA):Prop:=
 ∀(pos:Pos) (pins:List (Addr×Obj)) (s:Shared) (σ:St) (H:Hp) (Q:List V->Hp->Prop),Inv X pins σ H s->t σ H Q->wpAny (model X.prog X.w) X.A (spliced (backTo pos (starEach es X.env))) (AP X pins σ Q) X.xe s
noncomputable def PS(X:Cx)(st:Stmt)(t:TS):Prop:=
 ∀(pins:List (Addr×Obj)) (s:Shared) (σ:St) (H:Hp) (D:Ends),Inv X pins σ H s->t D σ H->wpAny (model X.prog X.w) X.A (exec st X.env) (SP X pins D) X.xe s
noncomputable def PSs(X:Cx)(st:List Stmt)(t:TS):Prop:=
 ∀(pins:List (Addr×Obj)) (s:Shared) (σ:St) (H:Hp) (D:Ends),Inv X pins σ H s->t D σ H->wpAny (model X.prog X.w) X.A (execs st X.env) (SP X pins D) X.xe s
theorem thn{α:Type}{t:Sem α}{Q Q':α->Shared->Prop}{M:Model}{A:Around}{E:Value->Shared->Prop}{s:Shared}(h:wpAny M A t Q E s)(hQ:∀a s,Q a s->Q' a s):wpAny M A t Q' E s:=wpAny_mono h hQ λ_ _ x=>x
end L2
namespace L2
open PySem PySem.Spec PyProof.Rows
section
variable {X:Cx}
noncomputable def aBU(i:Nat):TE:=λσ H Q=>∃v,σ[i]? = some (some v)/\Q v H
noncomputable def tC(v:V):TE:=λ_ H Q=>Q v H
theorem gJ{i:Nat}{x:Str}{pos:Pos}(hN:X.N[i]? = some x)(hv:Vis X.env.scope x)(hd:(x==("__debug__" : Str))=false:=by decide)(hcd:(x==("__classdict__" : Str))=false:=by decide):PE X (.Name x pos) (aBU i):=by
 intro pins s σ H Q I h
 obtain⟨v,e,h⟩:=h
 obtain⟨m,hn,hl⟩:=I.loc
 obtain⟨u,r,l⟩:=hl i x v hN e hv
 have fin:EP X pins σ Q u s:=⟨v,H,I,r,h⟩
 rcases l with⟨hk,hm⟩|⟨hk,c,hc,hcell⟩
 . exact wpAny_Name (wpAny_loadName_local I.ok.kind hk hn hm fin) hd
 . rcases hk with hk|hk
   . exact wpAny_Name (wpAny_loadName_cell I.ok.kind hk hc hcell fin) hd
   . exact wpAny_Name (wpAny_loadName_free I.ok.kind hk hc hcell fin hcd) hd
theorem aEi{i j pos}:PE X (.Constant (.int i) j pos) (tC (.int i)):=λ_ _ _ H _ I h=>wpAny_Constant_int ⟨.int i,H,I.tok _,⟨_,rfl⟩,h⟩
theorem aGn{b j pos}:PE X (.Constant (.bool b) j pos) (tC (.bl b)):=λ_ _ _ H _ I h=>Constant_bool ⟨.bl b,H,I,rfl,h⟩
theorem aEj{j pos}:PE X (.Constant .none j pos) (tC .non):=λ_ _ _ H _ I h=>Constant_none ⟨.non,H,I,rfl,h⟩
theorem aEk{x j pos}:PE X (.Constant (.str x) j pos) (tC (.str x)):=λ_ _ _ H _ I h=>Calls.Constant_str ⟨.str x,H,I.tok _,⟨_,rfl⟩,h⟩
noncomputable def Gl(X:Cx)(x:Str):Prop:=X.env.kindOf x=some .globalImplicit
theorem pA{E:Value->Shared->Prop}{pins:List (Addr×Obj)}{s:Shared}{σ:St}{H:Hp}{x:Str}{u:Value}{pos:Pos}{Q:Value->Shared->Prop}(I:Inv X pins σ H s)(hg:Gl X x)(hm:X.mg x=some u)(h:Q u s)
 (hd:(x==("__debug__" : Str))=false:=by decide):wpAny (model X.prog X.w) X.A (eval (.Name x pos) X.env) Q E s:=
 Calls.Name_function_global I.ok.kind hg (Calls.loadGlobal_global (by rw[I.ok.glob];exact I.mod.glob.keeps I.bk) hm h) hd
theorem dP{E:Value->Shared->Prop}{pins:List (Addr×Obj)}{s:Shared}{σ:St}{H:Hp}{x:Str}{u:Value}{pos:Pos}{Q:Value->Shared->Prop}(I:Inv X pins σ H s)(hg:Gl X x)(hm:X.mg x=none)(hv:bootBuiltins x=some u)(h:Q u s)
 (hn:x ≠ "__name__" := by decide) (hd:(x==("__debug__" : Str))=false:=by decide):wpAny (model X.prog X.w) X.A (eval (.Name x pos) X.env) Q E s:=by
 obtain⟨mb,h1,h2⟩:=I.mod.blt
 exact Calls.Name_function_global I.ok.kind hg (Calls.loadGlobal_builtin (by rw[I.ok.glob];exact I.mod.glob.keeps I.bk) hm (by rw[I.ok.blt];exact h1.keeps I.bk) ((h2 x hn).trans hv) h) hd
theorem aBV{x:Str}{v:V}{u:Value}{pos:Pos}(hg:Gl X x)(hm:X.mg x=some u)(r:aR v u)(hd:(x==("__debug__" : Str))=false:=by decide):PE X (.Name x pos) (tC v):=
 λ_ _ _ H _ I h=>pA I hg hm ⟨v,H,I,r,h⟩ hd
variable {a b:Expr} {ta tb:TE} {pos:Pos}
variable {tA tB':TT} {rest:List Expr}
noncomputable def aIV(t u:TT):TT:=λσ H Q=>t σ H λc H1=>if c=true then u σ H1 Q else Q false H1
noncomputable def tOr(t u:TT):TT:=λσ H Q=>t σ H λc H1=>if c=true then Q true H1 else u σ H1 Q
noncomputable def aIW(t:TT):TT:=λσ H Q=>t σ H λc H1=>Q (!c) H1
theorem aBW(ha:PT X a tA):PW X (.BoolOp .And [a] pos) tA:=by
 intro wh pins s σ H Q I h
 refine isTrue_and (thn (ha pins s σ H Q I h) λc s1 e=>?_)
 cases c with
 | true=>exact isTrue_and_nil e
 | false=>exact e
theorem aEl(ha:PT X a tA):PW X (.BoolOp .Or [a] pos) tA:=by
 intro wh pins s σ H Q I h
 refine isTrue_or (thn (ha pins s σ H Q I h) λc s1 e=>?_)
 cases c with
 | false=>exact isTrue_or_nil e
 | true=>exact e
theorem aEm(ha:PT X a tA)(hb:PW X (.BoolOp .And (b::rest) pos) tB'):PW X (.BoolOp .And (a::b::rest) pos) (aIV tA tB'):=by
 intro wh pins s σ H Q I h
 refine isTrue_and (thn (ha pins s σ H _ I h) λc s1 ⟨H1,I1,q1⟩=>?_)
 cases c with
 | true=>exact hb wh pins s1 σ H1 Q I1 q1
 | false=>exact⟨H1,I1,q1⟩
theorem aGo(ha:PT X a tA)(hb:PW X (.BoolOp .Or (b::rest) pos) tB'):PW X (.BoolOp .Or (a::b::rest) pos) (tOr tA tB'):=by
 intro wh pins s σ H Q I h
 refine isTrue_or (thn (ha pins s σ H _ I h) λc s1 ⟨H1,I1,q1⟩=>?_)
 cases c with
 | true=>exact⟨H1,I1,q1⟩
 | false=>exact hb wh pins s1 σ H1 Q I1 q1
theorem aEn(ha:PT X a tA):PT X (.UnaryOp .Not a pos) (aIW tA):=by
 intro pins s σ H Q I h
 exact isTrue_not (ha pins s σ H (λc H1=>Q (!c) H1) I h)
noncomputable def aGp(ta tb:TE):TE:=λσ H Q=>ta σ H λx H1=>∃c,x=.bl c/\if c=true then tb σ H1 Q else Q (.bl false) H1
noncomputable def aIX(ta tb:TE):TE:=λσ H Q=>ta σ H λx H1=>∃c,x=.bl c/\if c=true then Q (.bl true) H1 else tb σ H1 Q
theorem zJ{op}{t:TE}(h:PE X a t):PE X (.BoolOp op [a] pos) t:=λpins s σ H Q I hw=>BoolOp_one (h pins s σ H Q I hw)
theorem aEo(ha:PE X a ta)(hb:PE X (.BoolOp .And (b::rest) pos) tb):PE X (.BoolOp .And (a::b::rest) pos) (aGp ta tb):=by
 intro pins s σ H Q I h
 refine BoolOp_and (thn (ha pins s σ H _ I h) λv s1 ⟨x,H1,I1,r1,q1⟩=>?_)
 obtain⟨c,rfl,q1⟩:=q1
 cases r1
 refine wpAny_truthy_bool ?_
 cases c with
 | true=>exact hb pins s1 σ H1 Q I1 q1
 | false=>exact⟨.bl false,H1,I1,rfl,q1⟩
theorem aGq(ha:PE X a ta)(hb:PE X (.BoolOp .Or (b::rest) pos) tb):PE X (.BoolOp .Or (a::b::rest) pos) (aIX ta tb):=by
 intro pins s σ H Q I h
 refine BoolOp_or (thn (ha pins s σ H _ I h) λv s1 ⟨x,H1,I1,r1,q1⟩=>?_)
 obtain⟨c,rfl,q1⟩:=q1
 cases r1
 refine wpAny_truthy_bool ?_
 cases c with
 | false=>exact hb pins s1 σ H1 Q I1 q1
 | true=>exact⟨.bl true,H1,I1,rfl,q1⟩
noncomputable def tIf(t:TT)(ta tb:TE):TE:=λσ H Q=>t σ H λc H1=>if c=true then ta σ H1 Q else tb σ H1 Q
theorem zK{c:Expr}(hc:PT X c tA)(ha:PE X a ta)(hb:PE X b tb):PE X (.IfExp c a b pos) (tIf tA ta tb):=by
 intro pins s σ H Q I h
 refine wpAny_IfExp (thn (hc pins s σ H _ I h) λd s1 ⟨H1,I1,q1⟩=>?_)
 cases d with
 | true=>exact ha pins s1 σ H1 Q I1 q1
 | false=>exact hb pins s1 σ H1 Q I1 q1
end
end L2
namespace L2
open PySem PySem.Spec PyProof.Rows
noncomputable def SqL(K:PySem.W.Frag)(H:Hp)(a:Addr)(xs:List V):Prop:=
 Rd H a (.lst xs) \/
  ∃(o:Obj) (its:Array Value) (n:Nat),K.lookup a=some o/\o.cls=.type "list" /\ o.dict=none/\o.data=.seq its n/\its.size<=sizeLine/\aI xs its.toList
noncomputable def SqT(K:PySem.W.Frag)(H:Hp)(a:Addr)(xs:List V):Prop:=
 Rd H a (.tup xs) \/
  ∃(o:Obj) (its:Array Value) (n:Nat),K.lookup a=some o/\o.cls=.type "tuple" /\ o.data=.seq its n/\its.size<=sizeLine/\aI xs its.toList
noncomputable def aIY:Value->Option V
 | .none=>some .non
 | .bool b=>some (.bl b)
 | .int i _=>some (.int i)
 | .str x _=>some (.str x)
 | .bytes b _=>some (.byt b)
 | .float b _=>some (.flt b)
 | .ref a=>some (.ref a)
 | .type n=>some (.ty n)
 | _=>none
theorem aR.abs{x:V}{u:Value}(r:aR x u):aIY u=some x:=by
 cases x with
 | non=>cases r;rfl
 | bl _=>cases r;rfl
 | int _=>obtain⟨t,rfl⟩:=r;rfl
 | str _=>obtain⟨t,rfl⟩:=r;rfl
 | byt _=>obtain⟨t,rfl⟩:=r;rfl
 | flt _=>obtain⟨t,rfl⟩:=r;rfl
 | ref _=>cases r;rfl
 | ty _=>cases r;rfl
theorem aR.inj{x y:V}{u:Value}(r:aR x u)(q:aR y u):x=y:=Option.some.inj (r.abs.symm.trans q.abs)
theorem aI.inj:∀{xs ys:List V} {us:List Value},aI xs us->aI ys us->xs=ys
 | _,_,_,.nil,.nil=>rfl
 | _,_,_,.cons r t,.cons r' t'=>by rw[r.inj r',aI.inj t t']
section
variable {X:Cx} {pins:List (Addr×Obj)} {σ:St} {H:Hp} {s:Shared} {a:Addr} {xs ys:List V}
theorem SqL.of{K:PySem.W.Frag}(h:H a=some (.lst xs)):SqL K H a xs:=.inl (.inl h)
theorem SqT.of{K:PySem.W.Frag}(h:H a=some (.tup xs)):SqT K H a xs:=.inl (.inl h)
theorem Inv.list(I:Inv X pins σ H s)(h:SqL X.K H a xs):∃its:List Value,aI xs its/\PlainL s.heap a its.toArray/\xs.length<=sizeLine:=by
 rcases h with h|⟨o,its,n,hk,hc,hd,hs,hz,r⟩
 . obtain⟨z,its,n,r,e⟩:=h.ok I.hok
   exact⟨its,r,⟨_,n,e,rfl,rfl,rfl⟩,z⟩
 . refine⟨its.toList,r,⟨o,n,I.kIn a o hk,hc,hd,by simpa using hs⟩,?_⟩
   have e:=r.length
   simp only[Array.length_toList] at e
   omega
theorem Inv.tuple(I:Inv X pins σ H s)(h:SqT X.K H a xs):∃its:List Value,aI xs its/\IsTup s.heap a its.toArray/\xs.length<=sizeLine:=by
 rcases h with h|⟨o,its,n,hk,hc,hs,hz,r⟩
 . obtain⟨z,its,r,p⟩:=h.ok I.hok
   exact⟨its,r,p,z⟩
 . refine⟨its.toList,r,⟨o,I.kIn a o hk,hc,n,by simpa using hs⟩,?_⟩
   have e:=r.length
   simp only[Array.length_toList] at e
   omega
theorem Inv.list_inj(I:Inv X pins σ H s)(h:SqL X.K H a xs)(h':SqL X.K H a ys):xs=ys:=by
 obtain⟨its,r,⟨o,n,e,_,_,d⟩,_⟩:=I.list h
 obtain⟨its',r',⟨o',n',e',_,_,d'⟩,_⟩:=I.list h'
 rw[e] at e';cases e'
 rw[d] at d'
 injection d' with d1 _
 have:its=its':=by simpa using congrArg Array.toList d1
 subst this
 exact r.inj r'
theorem Inv.tuple_inj(I:Inv X pins σ H s)(h:SqT X.K H a xs)(h':SqT X.K H a ys):xs=ys:=by
 obtain⟨its,r,⟨o,e,_,n,d⟩,_⟩:=I.tuple h
 obtain⟨its',r',⟨o',e',_,n',d'⟩,_⟩:=I.tuple h'
 rw[e] at e';cases e'
 rw[d] at d'
 injection d' with d1 _
 have:its=its':=by simpa using congrArg Array.toList d1
 subst this
 exact r.inj r'
end
abbrev Cx.wish(X:Cx)(E:Value->Shared->Prop):Cx:={ X with xe:=E }
abbrev Cx.nox(X:Cx):Cx:=X.wish λ_ _=>False
theorem Cx.Ok.wish{X:Cx}(ok:X.Ok)(E:Value->Shared->Prop):(X.wish E).Ok:=
 ⟨ok.mod,ok.kind,ok.glob,ok.blt,ok.above,ok.inj,ok.has,ok.cab,ok.hd,ok.frames,ok.stk,ok.exf,ok.bs,ok.bsz,ok.noex,ok.exfs,ok.funs,ok.frf⟩
theorem Cx.Ok.unwish{X:Cx}{E:Value->Shared->Prop}(ok:(X.wish E).Ok):X.Ok:=
 ⟨ok.mod,ok.kind,ok.glob,ok.blt,ok.above,ok.inj,ok.has,ok.cab,ok.hd,ok.frames,ok.stk,ok.exf,ok.bs,ok.bsz,ok.noex,ok.exfs,ok.funs,ok.frf⟩
section
variable {X:Cx} {pins:List (Addr×Obj)} {σ:St} {H:Hp} {s:Shared} {E:Value->Shared->Prop}
theorem Inv.wish(I:Inv X pins σ H s)(E:Value->Shared->Prop):Inv (X.wish E) pins σ H s:=⟨I.ok.wish E,I.os,I.bare,I.base,I.loc,I.cell,I.free,I.freeC,I.pin,I.hok,I.len⟩
theorem Inv.unwish(I:Inv (X.wish E) pins σ H s):Inv X pins σ H s:=⟨I.ok.unwish,I.os,I.bare,I.base,I.loc,I.cell,I.free,I.freeC,I.pin,I.hok,I.len⟩
theorem SP.unwish{D:Ends}{f:Flow}{s':Shared}(h:SP (X.wish E) pins D f s'):SP X pins D f s':=by
 cases f with
 | next=>obtain⟨σ',H',I,q⟩:=h;exact⟨σ',H',I.unwish,q⟩
 | brk=>obtain⟨σ',H',I,q⟩:=h;exact⟨σ',H',I.unwish,q⟩
 | cont=>obtain⟨σ',H',I,q⟩:=h;exact⟨σ',H',I.unwish,q⟩
 | ret u=>obtain⟨v,σ',H',I,r,q⟩:=h;exact⟨v,σ',H',I.unwish,r,q⟩
theorem PSs.nox{st:List Stmt}{t:TS}(h:PSs X.nox st t):PSs X st t:=λpins s σ H D I hw=>
 wpAny_mono (h pins s σ H D (I.wish _) hw) (λ_ _ q=>q.unwish) λ_ _ z=>False.elim z
end
section
variable {X:Cx} {st:Stmt} {rest:List Stmt} {t u:TS} {e:Expr} {te:TE} {pos:Pos}
noncomputable def aDz:TS:=λD σ H=>D.nx σ H
noncomputable def aIZ(t u:TS):TS:=λD σ H=>t { D with nx:=u D } σ H
theorem aBX:PSs X [] aDz:=λ_ _ σ H _ I h=>wpAny_execs_nil ⟨σ,H,I,h⟩
theorem zL(h1:PS X st t)(h2:PSs X rest u):PSs X (st::rest) (aIZ t u):=by
 intro pins s σ H D I h
 refine wpAny_execs_cons (thn (h1 pins s σ H { D with nx:=u D } I h) λf s1 q=>?_)
 cases f with
 | next=>
  obtain⟨σ',H',I',q⟩:=q
  exact h2 pins s1 σ' H' D I' q
 | ret v=>exact q
 | brk=>exact q
 | cont=>exact q
noncomputable def aEp:TS:=λD σ H=>D.bk σ H
noncomputable def aGr:TS:=λD σ H=>D.ct σ H
theorem aBY:PS X (.Pass pos) aDz:=λ_ _ σ H _ I h=>wpAny_Pass ⟨σ,H,I,h⟩
theorem zM:PS X (.Break pos) aEp:=λ_ _ σ H _ I h=>wpAny_Break ⟨σ,H,I,h⟩
theorem rB:PS X (.Continue pos) aGr:=λ_ _ σ H _ I h=>wpAny_Continue ⟨σ,H,I,h⟩
theorem Inv.quiet{pins:List (Addr×Obj)}{σ:St}{H:Hp}{s:Shared}(I:Inv X pins σ H s):interactive X.env=false:=by simp[interactive,I.ok.kind]
noncomputable def aGs(te:TE):TS:=λD σ H=>te σ H λ_ H1=>D.nx σ H1
theorem gY(he:PE X e te)(hs:swapsWith e none pos.line X.env=pure false:=by rfl):PS X (.Expr e pos) (aGs te):=by
 intro pins s σ H D I h
 exact wpAny_Expr_any (thn (he pins s σ H _ I h) λv s1 ⟨x,H1,I1,r1,q1⟩=>⟨σ,H1,I1,q1⟩) I.quiet hs
noncomputable def aJa(te:TE):TS:=λD σ H=>te σ H D.rt
theorem zN(he:PE X e te):PS X (.Return (some e) pos) (aJa te):=by
 intro pins s σ H D I h
 exact wpAny_Return_some (thn (he pins s σ H _ I h) λv s1 ⟨x,H1,I1,r1,q1⟩=>⟨x,σ,H1,I1,r1,q1⟩)
noncomputable def aGt:TS:=λD _ H=>D.rt .non H
theorem aBZ:PS X (.Return none pos) aGt:=λ_ _ σ H _ I h=>wpAny_Return_none ⟨.non,σ,H,I,rfl,h⟩
noncomputable def aJb(c:TT)(t u:TS):TS:=λD σ H=>c σ H λb H1=>if b=true then t D σ H1 else u D σ H1
theorem aGu{c:Expr}{a b:List Stmt}{tc:TT}(hc:PT X c tc)(ha:PSs X a t)(hb:PSs X b u):PS X (.If c a b pos) (aJb tc t u):=by
 intro pins s σ H D I h
 refine wpAny_If (thn (hc pins s σ H _ I h) λd s1 ⟨H1,I1,q1⟩=>?_)
 cases d with
 | true=>exact ha pins s1 σ H1 D I1 q1
 | false=>exact hb pins s1 σ H1 D I1 q1
noncomputable def aEq:TS:=λ_ _ _=>False
theorem zO:PS X st aEq:=λ_ _ _ _ _ _ h=>h.elim
end
abbrev TG:=V->St->Hp->(St->Hp->Prop)->Prop
abbrev TGs:=List V->St->Hp->(St->Hp->Prop)->Prop
noncomputable def PG(X:Cx)(target:Expr)(t:TG):Prop:=
 ∀(pins:List (Addr×Obj)) (s:Shared) (σ:St) (H:Hp) (v:V) (u:Value) (Q:St->Hp->Prop),Inv X pins σ H s->aR v u->t v σ H Q ->
  wpAny (model X.prog X.w) X.A (assign target X.env u) (λ_ s'=>∃σ' H',Inv X pins σ' H' s'/\Q σ' H') X.xe s
noncomputable def PGs(X:Cx)(ts:List Expr)(t:TGs):Prop:=
 ∀(pins:List (Addr×Obj)) (s:Shared) (σ:St) (H:Hp) (vs:List V) (us:List Value) (Q:St->Hp->Prop),Inv X pins σ H s->aI vs us->t vs σ H Q ->
  wpAny (model X.prog X.w) X.A (assignInOrder ((assignEach ts X.env).map (·.2)) us) (λ_ s'=>∃σ' H',Inv X pins σ' H' s'/\Q σ' H') X.xe s
abbrev aEr:=V->V->V->Hp->(Hp->Prop)->Prop
noncomputable def aGv(X:Cx)(t:aEr):Prop:=
 ∀(pins:List (Addr×Obj)) (s:Shared) (σ:St) (H:Hp) (o i v:V) (ov iv u:Value) (Q:Hp->Prop),Inv X pins σ H s->aR o ov->aR i iv->aR v u->t o i v H Q ->
  wpAny (model X.prog X.w) X.A (setItem ov iv u) (λ_ s'=>∃H',Inv X pins σ H' s'/\Q H') X.xe s
section
variable {X:Cx} {pos:Pos}
noncomputable def nK(i:Nat):TG:=λv σ H Q=>Q (σ.set i (some v)) H
theorem vD{i:Nat}{x:Str}(hN:X.N.Nodup)(hi:X.N[i]? = some x)(hx:Loc X.env.scope x)(hf:X.fn x=true\/X.env.scope.names.lookup x=some .local:=by first|exact .inl rfl|exact .inr rfl|assumption):PG X (.Name x pos) (nK i):=by
 intro pins s σ H v u Q I r h
 exact wpAny_assign_Name (rA I hN hi hx r (λs' I'=>⟨_,H,I',h⟩) hf)
noncomputable def aGw:TGs:=λvs σ H Q=>vs=[]/\Q σ H
noncomputable def aDA(t:TG)(u:TGs):TGs:=λvs σ H Q=>∃v r,vs=v::r/\t v σ H λσ' H'=>u r σ' H' Q
theorem aCa:PGs X [] aGw:=by
 intro pins s σ H vs us Q I r h
 obtain⟨e,h⟩:=h
 subst e
 cases r
 exact assignInOrder_nil ⟨σ,H,I,h⟩
theorem zP{e:Expr}{es:List Expr}{t:TG}{u:TGs}(h1:PG X e t)(h2:PGs X es u)
 (hs:(assignEach (e::es) X.env).map (·.2)=assign e X.env::(assignEach es X.env).map (·.2):=by rfl):PGs X (e::es) (aDA t u):=by
 intro pins s σ H vs us Q I r h
 obtain⟨v,vr,e1,h⟩:=h
 subst e1
 cases r with
 | cons r rr=>
  rw[hs]
  refine assignInOrder_cons (thn (h1 pins s σ H _ _ _ I r h) λ_ s1 ⟨σ1,H1,I1,q1⟩=>?_)
  exact h2 pins s1 σ1 H1 _ _ Q I1 rr q1
noncomputable def aGx(K:PySem.W.Frag)(n:Nat)(t:TGs):TG:=λv σ H Q=>∃a xs,v=.ref a/\SqT K H a xs/\xs.length=n/\t xs σ H Q
theorem aEs{es:List Expr}{k:Nat}{t:TGs}{n:Nat}(hc:X.calm=true)(h:PGs X es t)
 (hn:(assignEach es X.env).length=n:=by rfl) (hst:(assignEach es X.env).findIdx? (·.1)=none:=by rfl):PG X (.Tuple es k pos) (aGx X.K n t):=by
 intro pins s σ H v u Q I r hw
 obtain⟨a,xs,e1,hq,hl,hw⟩:=hw
 subst e1
 cases r
 obtain⟨its,rv,ht,hz⟩:=I.tuple hq
 refine assign_Tuple_tuple (I.ok.hd hc) ht (by simp[hn,<-hl,rv.length]) hst λh' hx=>?_
 have I1:Inv X pins σ H { s with heap:=h' }:=I.kept (t':=s.toks) λb o e=>hx b o (Nat.ne_of_lt (Heap.lt_size e)) e
 exact h pins _ σ H xs _ Q I1 (by simpa using rv) hw
noncomputable def aJc(to ti:TE)(t:aEr):TG:=λv σ H Q=>to σ H λo H1=>ti σ H1 λi H2=>t o i v H2 λH3=>Q σ H3
theorem zQ{o i:Expr}{to ti:TE}{t:aEr}(ho:PE X o to)(hi:PE X i ti)(hs:aGv X t)
 (ha:∀v,assign (.Subscript o i pos) X.env v=(do
  let ov<-holding [v] (eval o X.env)
  let iv<-holding [v,ov] (eval i X.env)
  standAt pos
  holding [v,ov,iv] (setItem ov iv v)
  release [v,ov,iv] []):=by intro _;rfl):PG X (.Subscript o i pos) (aJc to ti t):=by
 intro pins s σ H v u Q I r h
 rw[ha]
 refine wpAny_bind (wpAny_holding (thn (ho pins s σ H _ I h) λov s1 ⟨x,H1,I1,r1,q1⟩=>?_))
 refine wpAny_bind (wpAny_holding (thn (hi pins s1 σ H1 _ I1 q1) λiv s2 ⟨y,H2,I2,r2,q2⟩=>?_))
 refine wpAny_bind (wpAny_standAt (wpAny_bind (wpAny_holding (thn (hs pins s2 σ H2 x y v ov iv u _ I2 r1 r2 r q2) λ_ s3 ⟨H3,I3,q3⟩=>?_))))
 exact wpAny_release ⟨σ,H3,I3,q3⟩
noncomputable def aCb(te:TE)(g:TG):TS:=λD σ H=>te σ H λx H1=>g x σ H1 D.nx
theorem pB{tg e:Expr}{te:TE}{g:TG}(he:PE X e te)(hg:PG X tg g)(hs:swapsWithSole [tg] e pos.line X.env=pure false:=by rfl)(hw:swappedStores [tg] e X.env=pure none:=by rfl)
 (h1:(assignEach [tg] X.env).map (·.2)=[assign tg X.env]:=by rfl):PS X (.Assign [tg] e pos) (aCb te g):=by
 intro pins s σ H D I h
 refine wpAny_Assign_stores (thn (he pins s σ H _ I h) λv s1 ⟨x,H1,I1,r1,q1⟩=>?_) hs hw
 rw[h1]
 exact thn (hg pins s1 σ H1 x v _ I1 r1 q1) λ_ s2 q=>q
theorem pC{i:Nat}{x:Str}{e:Expr}{te:TE}{pos':Pos}(hN:X.N.Nodup)(hi:X.N[i]? = some x)(hx:Loc X.env.scope x)(he:PE X e te)(hs:swapsWith e (some (.Name x pos')) pos.line X.env=pure false:=by rfl)(hf:X.fn x=true\/X.env.scope.names.lookup x=some .local:=by first|exact .inl rfl|exact .inr rfl|assumption) :
 PS X (.Assign [.Name x pos'] e pos) (aCb te (nK i)):=by
 intro pins s σ H D I h
 refine wpAny_Assign_Name (thn (he pins s σ H _ I h) λv s1 ⟨y,H1,I1,r1,q1⟩=>?_) hs
 exact rA I1 hN hi hx r1 (λs2 I2=>⟨_,H1,I2,q1⟩) hf
end
section
variable {X:Cx} {pos:Pos}
end
structure It where
 go:Nat->Hp->Prop
 yld:Nat->Hp->V->Hp->Prop
 stop:Nat->Hp->Prop
noncomputable def iR(X:Cx)(pins:List (Addr×Obj))(H:Hp)(b:Addr):Prop:=
 H b=none/\b≠X.env.locals/\b∉X.fs/\(b∈X.ex\/X.s₀.heap.objs.size<=b)/\(∀x c,X.env.cells.lookup x=some c->c≠b)/\∀p∈X.pn++pins,p.1≠b
theorem Inv.fpOk{X:Cx}{pins:List (Addr×Obj)}{σ:St}{H H':Hp}{s:Shared}{b:Addr}(I:Inv X pins σ H s)(hb:s.heap.objs.size<=b)(hn:H' b=none):iR X pins H' b:=by
 refine⟨hn,Nat.ne_of_gt (Nat.lt_of_lt_of_le I.lt hb),I.nofs hb,.inr (Nat.le_trans I.sz hb),λx c e z=>?_,λp hp z=>?_⟩
 . obtain⟨v,q⟩:=I.cell x c e
   exact absurd (Nat.lt_of_lt_of_le q.lt (by rw[z];exact hb)) (Nat.lt_irrefl _)
 . exact absurd (Nat.lt_of_lt_of_le (Heap.lt_size (I.pin p hp).1) (by rw[z];exact hb)) (Nat.lt_irrefl _)
structure xR (P:Program) (w:World) (K:PySem.W.Frag) (tg:Expr) (J:It) (fp:List Addr) (it:Addr) (tn:Nat->Heap->Prop):Prop where
 mem:it∈fp
 obj:∀i h,tn i h->∀b∈fp,∃o,h.get? b=some o/\∀v,o.data≠.cell v
 keep:∀i h h',tn i h->(∀b∈fp,∀o,h.get? b=some o->h'.get? b=some o)->tn i h'
 item:∀(X:Cx),X.prog=P->X.w=w->X.K=K->X.calm=true->∀(i:Nat) (pins:List (Addr×Obj)) (s:Shared) (σ:St) (H:Hp) (E:Value->Shared->Prop),Inv X pins σ H s->(∀b∈fp,iR X pins H b)->tn i s.heap->J.go i H ->
  wpAny (model P w) X.A (pyNext (.ref it)) (λr s1=>∃u,r=some u /\
   wpAny (model P w) X.A (letOwnedTupleGo tg (.ref it) u) (λ_ s2=>∃x H',Inv X pins σ H' s2/\aR x u/\J.yld i H x H'/\tn (i+1) s2.heap/\∀b∈fp,H' b=none) E s1) E s
 done:∀(X:Cx),X.prog=P->X.w=w->X.K=K->X.calm=true->∀(i:Nat) (pins:List (Addr×Obj)) (s:Shared) (σ:St) (H:Hp) (E:Value->Shared->Prop),Inv X pins σ H s->(∀b∈fp,iR X pins H b)->tn i s.heap->J.stop i H ->
  wpAny (model P w) X.A (pyNext (.ref it)) (λr s1=>r=none/\Inv X pins σ H s1) E s
 self:∀(A:Around) (i:Nat) (s:Shared) (Q:Value->Shared->Prop) (E:Value->Shared->Prop),tn i s.heap->Q (.ref it) s->wpAny (model P w) A (pyIter (.ref it)) Q E s
abbrev TI:=St->Hp->(It->Hp->Prop)->Prop
noncomputable def PIE(X:Cx)(pins:List (Addr×Obj))(σ:St)(tg:Expr)(R:It->Hp->Prop)(itv:Value)(s2:Shared):Prop:=
 ∃(it:Addr) (fp:List Addr) (tn:Nat->Heap->Prop) (J:It) (H':Hp),itv=.ref it/\Inv X pins σ H' s2/\xR X.prog X.w X.K tg J fp it tn/\tn 0 s2.heap/\(∀b∈fp,iR X pins H' b)/\R J H'
noncomputable def PI(X:Cx)(tg iter:Expr)(wi:TI):Prop:=
 ∀(pins:List (Addr×Obj)) (s:Shared) (σ:St) (H:Hp) (R:It->Hp->Prop),Inv X pins σ H s->wi σ H R ->
  wpAny (model X.prog X.w) X.A (eval iter X.env) (λv s1=>wpAny (model X.prog X.w) X.A (pyIter v) (PIE X pins σ tg R) X.xe s1) X.xe s
theorem kK{M:Model}{A:Around}{E:Value->Shared->Prop}{s:Shared}{tg:Expr}{it:Addr}{u:Value}{o:Obj}{n:String}{vs:Array Value}{Q:Unit->Shared->Prop}(ho:s.heap.get? it=some o)(hc:o.cls=.type n)(hd:o.data=.fields vs)
 (hn:["enumerate", "zip", "dict_itemiterator", "dict_reverseitemiterator", "odict_iterator", "itertools.zip_longest", "itertools.pairwise"].contains n=false) (hQ:Q () s):wpAny M A (letOwnedTupleGo tg (.ref it) u) Q E s:=by
 unfold letOwnedTupleGo
 cases tg <;> first
  | exact wpAny_pure hQ
  | (cases u <;> first
   | exact wpAny_pure hQ
   | (refine wpAny_bind (wpAny_load ho ?_)
      rw[hc,hd]
      show wpAny M A (if (["enumerate", "zip", "dict_itemiterator", "dict_reverseitemiterator", "odict_iterator", "itertools.zip_longest", "itertools.pairwise"].contains n&&vs[0]?==some (rawInt _))=true then _ else _) Q E s
      rw[if_neg (by intro h;rw[hn,Bool.false_and] at h;cases h)]
      exact wpAny_pure hQ))
noncomputable def Itl(K:PySem.W.Frag)(a:Addr):It:=
 ⟨λi H=>∃xs x,SqL K H a xs/\xs[i]? = some x,λi H x H'=>H'=H/\∀xs,SqL K H a xs->xs[i]? = some x,λi H=>∃xs,SqL K H a xs/\xs.length<=i⟩
noncomputable def Itt(K:PySem.W.Frag)(a:Addr):It:=
 ⟨λi H=>∃xs x,SqT K H a xs/\xs[i]? = some x,λi H x H'=>H'=H/\∀xs,SqT K H a xs->xs[i]? = some x,λi H=>∃xs,SqT K H a xs/\xs.length<=i⟩
noncomputable def Itr(lo:Int)(n:Nat):It:=⟨λi _=>i<n,λi H x H'=>H'=H/\x=.int (lo+i),λi _=>n<=i⟩
theorem xS{P:Program}{w:World}{K:PySem.W.Frag}{tg:Expr}(a it:Addr):xR P w K tg (Itl K a) [it] it (λi h=>h.IsListIter it a i) where
 mem:=by simp
 obj:=λi h st b hb=>by
  have e:b=it:=by simpa using hb
  subst e
  obtain⟨o,e,c,d⟩:=st
  exact⟨o,e,λv z=>by rw[d] at z;cases z⟩
 keep:=λi h h' st k=>st.at λo e=>k it (by simp) o e
 item:=by
  intro X hP hw hK hc i pins s σ H E I hf st hg
  subst hP hw hK
  obtain⟨xs,x,hq,hx⟩:=hg
  obtain⟨its,rv,p,hz⟩:=I.list hq
  obtain⟨u,hu,ru⟩:=rv.get hx
  obtain⟨f0,f1,f2,f3,f4,f5⟩:=hf it (by simp)
  refine wpAny_pyNext_list_item st p.isList (x:=u) (by simpa using hu) λh' st' sb=>?_
  have I1:Inv X pins σ H { s with heap:=h' }:=I.turned (t':=s.toks) (λb o hb e=>(sb.2 b hb).trans e) f0 f1 f3 f4 f5
  obtain⟨o,e,c,d⟩:=id st'
  exact⟨u,rfl,kK (s:={ s with heap:=h' }) e c d (by decide) ⟨x,H,I1,ru,⟨rfl,λys hy=>by rw[I.list_inj hy hq];exact hx⟩,st',λb hb=>(hf b hb).1⟩⟩
 done:=by
  intro X hP hw hK hc i pins s σ H E I hf st hg
  subst hP hw hK
  obtain⟨xs,hq,hx⟩:=hg
  obtain⟨its,rv,p,hz⟩:=I.list hq
  obtain⟨f0,f1,f2,f3,f4,f5⟩:=hf it (by simp)
  have hl:=rv.length
  exact wpAny_pyNext_list_end (I.ok.hd hc) st p.isList (by simp;omega) λh' eb=>⟨rfl,I.turned (t':=s.toks) (λb o hb e=>eb b o hb e) f0 f1 f3 f4 f5⟩
 self:=λ_ _ _ _ _ st h=>wpAny_pyIter_listiter st h
theorem tR{P:Program}{w:World}{K:PySem.W.Frag}{tg:Expr}(a it:Addr):xR P w K tg (Itt K a) [it] it (λi h=>h.IsTupleIter it a i) where
 mem:=by simp
 obj:=λi h st b hb=>by
  have e:b=it:=by simpa using hb
  subst e
  obtain⟨o,e,c,d⟩:=st
  exact⟨o,e,λv z=>by rw[d] at z;cases z⟩
 keep:=λi h h' st k=>st.at λo e=>k it (by simp) o e
 item:=by
  intro X hP hw hK hc i pins s σ H E I hf st hg
  subst hP hw hK
  obtain⟨xs,x,hq,hx⟩:=hg
  obtain⟨its,rv,p,hz⟩:=I.tuple hq
  obtain⟨u,hu,ru⟩:=rv.get hx
  obtain⟨f0,f1,f2,f3,f4,f5⟩:=hf it (by simp)
  refine wpAny_pyNext_tuple_item st (show s.heap.IsTuple a its.toArray from p) (x:=u) (by simpa using hu) λh' st' sb=>?_
  have I1:Inv X pins σ H { s with heap:=h' }:=I.turned (t':=s.toks) (λb o hb e=>(sb.2 b hb).trans e) f0 f1 f3 f4 f5
  obtain⟨o,e,c,d⟩:=id st'
  exact⟨u,rfl,kK (s:={ s with heap:=h' }) e c d (by decide) ⟨x,H,I1,ru,⟨rfl,λys hy=>by rw[I.tuple_inj hy hq];exact hx⟩,st',λb hb=>(hf b hb).1⟩⟩
 done:=by
  intro X hP hw hK hc i pins s σ H E I hf st hg
  subst hP hw hK
  obtain⟨xs,hq,hx⟩:=hg
  obtain⟨its,rv,p,hz⟩:=I.tuple hq
  obtain⟨f0,f1,f2,f3,f4,f5⟩:=hf it (by simp)
  have hl:=rv.length
  exact wpAny_pyNext_tuple_end (I.ok.hd hc) st (show s.heap.IsTuple a its.toArray from p) (by simp;omega) λh' eb=>⟨rfl,I.turned (t':=s.toks) (λb o hb e=>eb b o hb e) f0 f1 f3 f4 f5⟩
 self:=λ_ _ _ _ _ st h=>wpAny_pyIter_tupleiter st h
theorem tS{P:Program}{w:World}{K:PySem.W.Frag}{tg:Expr}(it:Addr)(lo:Int)(n:Nat):xR P w K tg (Itr lo n) [it] it (λi h=>IsRangeIter h it (lo+(i:Nat)*1) ((n:Int)-(i:Nat)) 1) where
 mem:=by simp
 obj:=λi h st b hb=>by
  have e:b=it:=by simpa using hb
  subst e
  exact⟨_,st,λv z=>by
   have z':Data.fields _=Data.cell v:=z
   cases z'⟩
 keep:=λi h h' st k=>k it (by simp) _ st
 item:=by
  intro X hP hw hK hc i pins s σ H E I hf st hg
  subst hP hw hK
  obtain⟨f0,f1,f2,f3,f4,f5⟩:=hf it (by simp)
  have W:=Walks.range (prog:=X.prog) (w:=X.w) (I.ok.hd hc) it lo 1 n
  refine W.item i s _ _ hg st λv h' tk hv st' kk=>?_
  obtain⟨t,rfl⟩:=hv
  have I1:Inv X pins σ H { s with heap:=h',toks:=tk }:=I.turned (λb o hb e=>kk b o (by simpa using hb) e) f0 f1 f3 f4 f5
  refine⟨_,rfl,kK (s:={ s with heap:=h',toks:=tk }) (n:= "range_iterator") st' rfl rfl (by decide) ⟨.int (lo+i),H,I1,⟨t,?_⟩,⟨rfl,rfl⟩,st',λb hb=>(hf b hb).1⟩⟩
  rw[Int.mul_one]
 done:=by
  intro X hP hw hK hc i pins s σ H E I hf st hg
  subst hP hw hK
  obtain⟨f0,f1,f2,f3,f4,f5⟩:=hf it (by simp)
  exact wpAny_pyNext_range_end (I.ok.hd hc) st (by have:n<=i:=hg;omega) λh' eb=>⟨rfl,I.turned (t':=s.toks) (λb o hb e=>eb b o hb e) f0 f1 f3 f4 f5⟩
 self:=λ_ _ _ _ _ st h=>wpAny_pyIter_rangeiter st h
end L2
namespace L2
open PySem PySem.Spec PyProof.Rows
section
variable {X:Cx} {tg:Expr}
theorem rC{pins:List (Addr×Obj)}{σ:St}{H:Hp}{s:Shared}{R:It->Hp->Prop}{E:Value->Shared->Prop}{lo hi:Int}{t u v:Tok}{tk:Nat}(I:Inv X pins σ H s)(h1:-(2 ^ 62)<=lo)(h2:lo<2 ^ 62)(h3:-(2 ^ 62)<=hi)(h4:hi<2 ^ 62)
 (q:R (Itr lo (hi-lo).toNat) H):wpAny (model X.prog X.w) X.A (pyIter (.ref s.heap.objs.size)) (PIE X pins σ tg R) E { s with heap:=s.heap.push { cls:=.type "range",data:=.fields #[.int lo t,.int hi u,.int 1 v] },toks:=tk }:=by
 refine wpAny_pyIter_range (IsRange.new ..) (small_one h1 h2 h3 h4) ?_
 have I1:Inv X pins σ H { s with heap:=s.heap.push { cls:=.type "range",data:=.fields #[.int lo t,.int hi u,.int 1 v] },toks:=tk }:=I.kept λb o e=>Heap.get?_push_of_some _ e
 refine⟨(s.heap.push { cls:=.type "range",data:=.fields #[.int lo t,.int hi u,.int 1 v] }).objs.size,[(s.heap.push { cls:=.type "range",data:=.fields #[.int lo t,.int hi u,.int 1 v] }).objs.size],_,_,H,rfl,
  I1.kept (t':=tk) λb o e=>Heap.get?_push_of_some _ e,tS _ lo (hi-lo).toNat,?_,λb hb=>?_,q⟩
 . have e1:lo+((0:Nat):Int)*1=lo:=by simp
   have e2:(((hi-lo).toNat:Nat):Int)-((0:Nat):Int)=Builtin.Range.rangeSize lo hi 1:=by rw[rangeSize_one];split <;> omega
   show IsRangeIter _ _ (lo+((0:Nat):Int)*1) ((((hi-lo).toNat:Nat):Int)-((0:Nat):Int)) 1
   rw[e1,e2]
   exact Heap.get?_push_size _ rfl
 . have e:b=(s.heap.push { cls:=.type "range",data:=.fields #[.int lo t,.int hi u,.int 1 v] }).objs.size:=by simpa using hb
   subst e
   exact I1.fpOk (Nat.le_refl _) (I1.hok.fresh (Nat.le_refl _))
noncomputable def aGy(ta:TA):TI:=λσ H R=>ta σ H λvs H1=>∃j:Int,vs=[.int j]/\-(2 ^ 62)<=j/\j<2 ^ 62/\R (Itr 0 j.toNat) H1
noncomputable def aGz(ta:TA):TI:=λσ H R=>ta σ H λvs H1=>∃i j:Int,vs=[.int i,.int j]/\(-(2 ^ 62)<=i/\i<2 ^ 62/\-(2 ^ 62)<=j/\j<2 ^ 62)/\R (Itr i (j-i).toNat) H1
theorem xT{a:Expr}{ta:TA}{p pos:Pos}(hg:Gl X "range")(hm:X.mg "range" = none)(ha:PA X [a] ta)(hs:starEach [a] X.env=[(false,eval a X.env)]:=by rfl):PI X tg (.Call (.Name "range" p) [a] [] pos) (aGy ta):=by
 intro pins s σ H R I h
 refine Call_ (dP I hg hm boot_range (PyProof.Rows.callWith_type1 (thn (ha pos pins s σ H _ I h) λus s1 ⟨vs,H1,I1,r1,q1⟩=>?_) hs rfl))
 obtain⟨j,e,q1,q2,q⟩:=q1
 subst e
 cases r1 with
 | cons r rr=>
  cases rr
  obtain⟨t,rfl⟩:=r
  exact call_range_1 (rC I1 (by omega) (by omega) q1 q2 (by simpa using q))
theorem xU{a b:Expr}{ta:TA}{p pos:Pos}(hg:Gl X "range")(hm:X.mg "range" = none)(ha:PA X [a,b] ta)(hs:starEach [a,b] X.env=[(false,eval a X.env),(false,eval b X.env)]:=by rfl)(hs2:starEach [b] X.env=[(false,eval b X.env)]:=by rfl) :
 PI X tg (.Call (.Name "range" p) [a,b] [] pos) (aGz ta):=by
 intro pins s σ H R I h
 refine Call_ (dP I hg hm boot_range (PyProof.Rows.callWith_type1 (thn (ha pos pins s σ H _ I h) λus s1 ⟨vs,H1,I1,r1,q1⟩=>?_) (by rw[hs,hs2]) (by rw[hs2];rfl)))
 obtain⟨i,j,e,⟨q1,q2,q3,q4⟩,q⟩:=q1
 subst e
 cases r1 with
 | cons r rr=>
  cases rr with
  | cons r' rr=>
   cases rr
   obtain⟨t,rfl⟩:=r
   obtain⟨t',rfl⟩:=r'
   exact call_range_2 (rC I1 q1 q2 q3 q4 q)
noncomputable def aJd(wi:TI)(g:TG)(tb:TS):TS:=λD σ H=>wi σ H λJ H1=>∃W:Nat->Nat->St->Hp->Prop,(∃m,W 0 m σ H1)/\∀i m σ H,W i m σ H ->
 (J.stop i H/\D.nx σ H)\/(J.go i H/\∃N:St->Hp->Prop,(∀σ' H',N σ' H'->∃m',m'<m/\W (i+1) m' σ' H')/\∀x H',J.yld i H x H'->g x σ H' λσ2 H2=>tb { D with nx:=N,ct:=N,bk:=D.nx } σ2 H2)
noncomputable def kL(fp:List Addr)(h:Heap):List (Addr×Obj):=fp.filterMap λb=>(h.get? b).map λo=>(b,o)
theorem eE{fp:List Addr}{h:Heap}{b:Addr}{o:Obj}(hb:b∈fp)(e:h.get? b=some o):(b,o)∈kL fp h:=List.mem_filterMap.mpr ⟨b,hb,by rw[e];rfl⟩
theorem xV{fp:List Addr}{h:Heap}{p:Addr×Obj}(hp:p∈kL fp h):p.1∈fp/\h.get? p.1=some p.2:=by
 obtain⟨b,hb,e⟩:=List.mem_filterMap.mp hp
 cases q:h.get? b with
 | none=>rw[q] at e;cases e
 | some o=>
  rw[q] at e
  have e':(b,o)=p:=Option.some.inj e
  subst e'
  exact⟨hb,q⟩
theorem Inv.pinned{pins:List (Addr×Obj)}{σ:St}{H:Hp}{s:Shared}{fp:List Addr}(I:Inv X pins σ H s)(hf:∀b∈fp,iR X pins H b)(ho:∀b∈fp,∃o,s.heap.get? b=some o/\∀v,o.data≠.cell v):Inv X (pins++kL fp s.heap) σ H s:=
 I.pins_of λp hp=>(List.mem_append.mp hp).elim (λz=>I.pin p (List.mem_append_right _ z)) λz=>by
  obtain⟨hb,e⟩:=xV z
  obtain⟨f0,f1,f2,_⟩:=hf p.1 hb
  obtain⟨o,e',d⟩:=ho p.1 hb
  rw[e] at e';cases e'
  exact⟨e,f0,f1,f2,d⟩
theorem Inv.unpinned{pins pl:List (Addr×Obj)}{σ:St}{H:Hp}{s:Shared}(I:Inv X (pins++pl) σ H s):Inv X pins σ H s:=I.pins_of λp hp=>I.pin p (List.mem_append_right _ (List.mem_append_left _ hp))
theorem aEt{iter:Expr}{body:List Stmt}{wi:TI}{g:TG}{tb:TS}{pos:Pos}(hp:PassesOwn (model X.prog X.w) X.A X.env X.xe)(hc:X.calm=true)(hi:PI X tg iter wi)(hg:PG X tg g)(hb:PSs X body tb)
 (hs:∀x,foldedSetIterable iter X.env x=pure x:=by intro _;rfl):PS X (.For tg iter body [] pos) (aJd wi g tb):=by
 intro pins s σ H D I h
 refine wpAny_For (thn (hi pins s σ H _ I h) λv s1 h1=>thn h1 λitv s2 h2=>?_) hs
 obtain⟨it,fp,tn,J,H2,e,I2,T,st2,f2,W,⟨m0,w0⟩,turn⟩:=h2
 subst e
 have stat:∀{H':Hp},(∀b∈fp,H' b=none)->∀b∈fp,iR X pins H' b:=λhn b hb=>⟨hn b hb,(f2 b hb).2⟩
 refine codeAny_forLoop_any (λn s'=>∃i σ' H',Inv X pins σ' H' s'/\tn i s'.heap/\(∀b∈fp,H' b=none)/\W i n σ' H') ?_ m0 ⟨0,σ,H2,I2,st2,λb hb=>(f2 b hb).1,w0⟩
 rintro n s3 ⟨i,σ3,H3,I3,st3,fr3,w3⟩
 rcases turn i n σ3 H3 w3 with⟨stop,qn⟩|⟨go,N,hN,step⟩
 . refine wpAny_passesOwn hp (thn (T.done X rfl rfl rfl hc i pins s3 σ3 H3 X.xe I3 (stat fr3) st3 stop) λr s4 ⟨hr,I4⟩=>?_)
   subst hr
   exact wpAny_execs_nil ⟨σ3,H3,I4,qn⟩
 . refine wpAny_passesOwn hp (thn (T.item X rfl rfl rfl hc i pins s3 σ3 H3 X.xe I3 (stat fr3) st3 go) λr s4 ⟨u,hr,h4⟩=>?_)
   subst hr
   refine wpAny_passesOwn hp (thn h4 λ_ s5 ⟨x,H5,I5,r5,y5,st5,fr5⟩=>?_)
   have I5':=I5.pinned (stat fr5) (T.obj _ _ st5)
   refine wpAny_passesOwn hp (thn (hg _ s5 σ3 H5 x u _ I5' r5 (step x H5 y5)) λ_ s6 ⟨σ6,H6,I6,q6⟩=>?_)
   refine wpAny_passesOwn hp (thn (hb _ s6 σ6 H6 _ I6 q6) λf s7 q7=>?_)
   have again:∀{σ7:St} {H7:Hp},Inv X (pins++kL fp s5.heap) σ7 H7 s7->N σ7 H7->∃m,m<n/\∃i σ' H',Inv X pins σ' H' s7/\tn i s7.heap/\(∀b∈fp,H' b=none)/\W i m σ' H':=λ{σ7 H7} I7 n7=>by
    obtain⟨m',hm,w7⟩:=hN σ7 H7 n7
    refine⟨m',hm,i+1,σ7,H7,I7.unpinned,T.keep _ _ _ st5 λb hb o e=>(I7.pin (b,o) (List.mem_append_right _ (List.mem_append_right _ (eE hb e)))).1,λb hb=>?_,w7⟩
    obtain⟨o,e,d⟩:=T.obj _ _ st5 b hb
    exact(I7.pin (b,o) (List.mem_append_right _ (List.mem_append_right _ (eE hb e)))).2.1
   cases f with
   | next=>obtain⟨σ7,H7,I7,n7⟩:=q7;exact again I7 n7
   | cont=>obtain⟨σ7,H7,I7,n7⟩:=q7;exact again I7 n7
   | brk=>obtain⟨σ7,H7,I7,q7⟩:=q7;exact⟨σ7,H7,I7.unpinned,q7⟩
   | ret v=>obtain⟨x7,σ7,H7,I7,r7,q7⟩:=q7;exact⟨x7,σ7,H7,I7.unpinned,r7,q7⟩
end
end L2
namespace L2
open PySem PySem.Spec PyProof.Rows
abbrev R2:=V->V->Hp->VK->Prop
noncomputable def OpR(X:Cx)(f:Value->Value->Sem Value)(r:R2):Prop:=
 ∀(pins:List (Addr×Obj)) (s:Shared) (σ:St) (H:Hp) (x y:V) (v u:Value) (Q:VK),Inv X pins σ H s->aR x v->aR y u->r x y H Q ->
  wpAny (model X.prog X.w) X.A (f v u) (EP X pins σ Q) X.xe s
noncomputable def gG(X:Cx)(f:Value)(r:List V->Hp->VK->Prop):Prop:=
 ∀(pins:List (Addr×Obj)) (s:Shared) (σ:St) (H:Hp) (xs:List V) (us:List Value) (Q:VK),Inv X pins σ H s->aI xs us->r xs H Q ->
  wpAny (model X.prog X.w) X.A (call f us) (EP X pins σ Q) X.xe s
noncomputable def aJe(X:Cx)(r:V->Hp->(Bool->Hp->Prop)->Prop):Prop:=
 ∀(pins:List (Addr×Obj)) (s:Shared) (σ:St) (H:Hp) (x:V) (v:Value) (Q:Bool->Hp->Prop),Inv X pins σ H s->aR x v->r x H Q ->
  wpAny (model X.prog X.w) X.A (truthy v) (TP X pins σ Q) X.xe s
noncomputable def tOp(r:R2)(ta tb:TE):TE:=λσ H Q=>ta σ H λx H1=>tb σ H1 λy H2=>r x y H2 Q
noncomputable def rI(C:Int->Int->Prop)(g:Int->Int->V):R2:=λx y H Q=>∃i j,x=.int i/\y=.int j/\C i j/\Q (g i j) H
noncomputable def rI0(g:Int->Int->V):R2:=λx y H Q=>∃i j,x=.int i/\y=.int j/\Q (g i j) H
section
variable {X:Cx} {a b c:Expr} {ta tb tc:TE} {pos:Pos}
theorem aGA(ha:PE X a ta)(hb:PE X b tb){pins:List (Addr×Obj)}{s:Shared}{σ:St}{H:Hp}{R:V->V->Hp->Prop}(I:Inv X pins σ H s)
 (h:ta σ H λx H1=>tb σ H1 λy H2=>R x y H2) {Q:Value->Shared->Prop} {f:Value->Value->Sem Value}
 (hf:∀v u s2 x y H2,Inv X pins σ H2 s2->aR x v->aR y u->R x y H2->wpAny (model X.prog X.w) X.A (f v u) Q X.xe s2) :
 wpAny (model X.prog X.w) X.A (eval a X.env) (λv s₁=>wpAny (model X.prog X.w) X.A (eval b X.env) (λu s₂=>wpAny (model X.prog X.w) X.A (f v u) Q X.xe s₂) X.xe s₁) X.xe s:=by
 refine thn (ha pins s σ H _ I h) λv s1 ⟨x,H1,I1,r1,q1⟩=>?_
 refine thn (hb pins s1 σ H1 _ I1 q1) λu s2 ⟨y,H2,I2,r2,q2⟩=>?_
 exact hf v u s2 x y H2 I2 r1 r2 q2
theorem opI{f:Value->Value->Sem Value}{C:Int->Int->Prop}{g:Int->Int->Int}
 (rule:∀(i j:Int) (t u:Tok) (s:Shared) (Q:Value->Shared->Prop) (E:Value->Shared->Prop),C i j->Q (.int (g i j) s.toks) { s with toks:=s.toks+1 }->wpAny (model X.prog X.w) X.A (f (.int i t) (.int j u)) Q E s) :
 OpR X f (rI C λi j=>.int (g i j)):=by
 intro pins s σ H x y v u Q I rx ry h
 obtain⟨i,j,rfl,rfl,hc,q⟩:=h
 obtain⟨t,rfl⟩:=rx
 obtain⟨t',rfl⟩:=ry
 exact rule i j t t' s _ _ hc ⟨.int (g i j),H,I.tok _,⟨_,rfl⟩,q⟩
theorem aGB{f:Value->Value->Sem Value}{g:Int->Int->Int}
 (rule:∀(i j:Int) (t u:Tok) (s:Shared) (Q:Value->Shared->Prop) (E:Value->Shared->Prop),Q (.int (g i j) s.toks) { s with toks:=s.toks+1 }->wpAny (model X.prog X.w) X.A (f (.int i t) (.int j u)) Q E s) :
 OpR X f (rI0 λi j=>.int (g i j)):=by
 intro pins s σ H x y v u Q I rx ry h
 obtain⟨i,j,rfl,rfl,q⟩:=h
 obtain⟨t,rfl⟩:=rx
 obtain⟨t',rfl⟩:=ry
 exact rule i j t t' s _ _ ⟨.int (g i j),H,I.tok _,⟨_,rfl⟩,q⟩
theorem aCc{f:Value->Value->Sem Value}{g:Int->Int->Bool}
 (rule:∀(i j:Int) (t u:Tok) (s:Shared) (Q:Value->Shared->Prop) (E:Value->Shared->Prop),Q (.bool (g i j)) s->wpAny (model X.prog X.w) X.A (f (.int i t) (.int j u)) Q E s) :
 OpR X f (rI0 λi j=>.bl (g i j)):=by
 intro pins s σ H x y v u Q I rx ry h
 obtain⟨i,j,rfl,rfl,q⟩:=h
 obtain⟨t,rfl⟩:=rx
 obtain⟨t',rfl⟩:=ry
 exact rule i j t t' s _ _ ⟨.bl (g i j),H,I,rfl,q⟩
noncomputable def aJf(i j:Int):Prop:=0<j/\j<1073741824
noncomputable def aJg(i j:Int):Prop:=0<=j/\j<=1000000/\i.natAbs<2 ^ 64
noncomputable def aEu(i j:Int):Prop:=(-(2 ^ 64)<i/\i<2 ^ 64)\/(-(2 ^ 64)<j/\j<2 ^ 64)
theorem aEu.ok{i j:Int}(h:aEu i j):IntMulOk i j:=by
 rcases h with⟨h1,h2⟩|⟨h1,h2⟩
 . exact .of_left (intBits_le_64 h1 h2)
 . exact .of_right (intBits_le_64 h1 h2)
theorem aEv:OpR X (binaryOp .Add) (rI0 λi j=>.int (i+j)):=aGB λ_ _ _ _ _ _ _ q=>add_int q
theorem aEw:OpR X (binaryOp .Sub) (rI0 λi j=>.int (i-j)):=aGB λ_ _ _ _ _ _ _ q=>sub_int q
theorem aEx:OpR X (binaryOp .Mult) (rI aEu λi j=>.int (i*j)):=opI λ_ _ _ _ _ _ _ hc q=>mul_int q hc.ok
theorem aCd:OpR X (binaryOp .FloorDiv) (rI aJf λi j=>.int (i / j)):=opI λi j _ _ _ _ _ hc q=>by
 have h1:(0:Int)<j:=hc.1
 have h2:j<1073741824:=hc.2
 exact floordiv_int (by omega) (by rw[Int.fdiv_eq_ediv_of_nonneg i (by omega)];exact q) (.inl (PyProof.noPylong_small (by omega)))
theorem aEy:OpR X (binaryOp .Mod) (rI (λ_ j=>0<j) λi j=>.int (i % j)):=opI λi j _ _ _ _ _ hc q=>by
 have h1:(0:Int)<j:=hc
 exact mod_int' (by omega) (by rw[Int.fmod_eq_emod_of_nonneg i (by omega)];exact q)
theorem aEz:OpR X (binaryOp .Pow) (rI aJg λi j=>.int (i ^ j.toNat)):=opI λ_ _ _ _ _ _ _ hc q=>pow_int_small hc.1 hc.2.1 hc.2.2 q
end
section
variable {X:Cx} {a b c:Expr} {ta tb tc:TE} {pos:Pos}
theorem tT{pins:List (Addr×Obj)}{σ:St}{H:Hp}{s:Shared}{Q:VK}{k k':Bool}(I:Inv X pins σ H s)(q:Q (.bl k) H)(e:k=k'):EP X pins σ Q (.bool k') s:=by
 subst e
 exact⟨.bl k,H,I,rfl,q⟩
theorem aGC:OpR X (compareOp .Lt) (rI0 λi j=>.bl (decide (i<j))):=aCc λ_ _ _ _ _ _ _ q=>lt_int q
theorem aGD:OpR X (compareOp .LtE) (rI0 λi j=>.bl (decide (i<=j))):=aCc λ_ _ _ _ _ _ _ q=>le_int q
theorem aGE:OpR X (compareOp .Gt) (rI0 λi j=>.bl (decide (j<i))):=aCc λ_ _ _ _ _ _ _ q=>gt_int q
theorem aGF:OpR X (compareOp .GtE) (rI0 λi j=>.bl (decide (j<=i))):=aCc λ_ _ _ _ _ _ _ q=>ge_int q
theorem xW:OpR X (compareOp .In) (λx y H Q=>∃i j,x=.str i/\y=.str j/\Q (.bl (!(Builtin.Str.occurrences j i 0 j.length 1).isEmpty)) H):=by
 intro pins s σ H x y v u Q I rx ry h
 obtain⟨i,j,rfl,rfl,q⟩:=h
 obtain⟨t,rfl⟩:=rx
 obtain⟨t',rfl⟩:=ry
 exact in_str (tT I q rfl)
theorem aEA:OpR X (compareOp .Is) (λx y H Q=>y=.non/\Q (.bl (decide (x=.non))) H):=by
 intro pins s σ H x y v u Q I rx ry h
 obtain⟨rfl,q⟩:=h
 cases ry
 refine is_none_gen (tT I q ?_)
 cases x <;> first
  | (cases rx;rfl)
  | (obtain⟨t,rfl⟩:=rx;rfl)
theorem aCe:OpR X (compareOp .IsNot) (λx y H Q=>y=.non/\Q (.bl (!decide (x=.non))) H):=by
 intro pins s σ H x y v u Q I rx ry h
 obtain⟨rfl,q⟩:=h
 cases ry
 refine isnot_none_gen (tT I q ?_)
 cases x <;> first
  | (cases rx;rfl)
  | (obtain⟨t,rfl⟩:=rx;rfl)
theorem vE{op:CmpOp}{r:R2}(ho:OpR X (compareOp op) r)(ha:PE X a ta)(hb:PE X b tb)(hm:behindInMarks op b=false):PE X (.Compare a [op] [b] pos) (tOp r ta tb):=by
 intro pins s σ H Q I h
 exact wpAny_Compare1 (aGA ha hb I h λv u s2 x y H2 I2 rx ry q=>ho pins s2 σ H2 x y v u Q I2 rx ry q) hm
noncomputable def aGG(t:TE):TT:=λσ H Q=>t σ H λx H'=>∃k,x=.bl k/\Q k H'
theorem vF{op:CmpOp}{r:R2}(ho:OpR X (compareOp op) r)(ha:PE X a ta)(hb:PE X b tb)(hm:behindInMarks op b=false):PT X (.Compare a [op] [b] pos) (aGG (tOp r ta tb)):=by
 intro pins s σ H Q I h
 refine wpAny_isTrue_Compare1 (thn (ha pins s σ H _ I h) λv s1 ⟨x,H1,I1,r1,q1⟩=>thn (hb pins s1 σ H1 _ I1 q1) λu s2 ⟨y,H2,I2,r2,q2⟩=>
  thn (ho pins s2 σ H2 x y v u _ I2 r1 r2 q2) λc s3 ⟨z,H3,I3,r3,k,e,q3⟩=>?_) hm
 subst e
 cases r3
 exact wpAny_truthy_bool ⟨H3,I3,q3⟩
noncomputable def aCf(K:PySem.W.Frag)(x:V)(H:Hp)(k:Bool):Prop:=
 match x with
 | .non=>k=false
 | .bl b=>k=b
 | .int i=>k=(i != 0)
 | .str y=>y.length<=sizeLine/\k=((y.length:Int) != 0)
 | .byt y=>y.size<=sizeLine/\k=((y.size:Int) != 0)
 | .ref p=>(∃xs,SqL K H p xs/\k=!xs.isEmpty)\/(∃xs,SqT K H p xs/\k=!xs.isEmpty)\/∃kvs,H p=some (.dK kvs)/\k=!kvs.isEmpty
 | _=>False
theorem tU{κ:Type}{kvs:List (κ×V)}{vs:List (κ×Value)}(r:KV kvs vs):(!vs.isEmpty)=!kvs.isEmpty:=by
 cases r <;> rfl
theorem kM{xs:List V}{its:List Value}(r:aI xs its):(!its.toArray.isEmpty)=!xs.isEmpty:=by
 cases r <;> simp
theorem iS:(sizeLine:Nat)<2 ^ 63:=by rw[sizeLine_eq];decide
theorem zR:aJe X (λx H Q=>∃k,aCf X.K x H k/\Q k H):=by
 intro pins s σ H x v Q I rx h
 obtain⟨k,e,q⟩:=h
 have hl:=iS
 have hs:sizeLine=16777216:=sizeLine_eq
 cases x with
 | non=>
  cases rx
  have e':k=false:=e
  subst e'
  exact truthy_none ⟨H,I,q⟩
 | bl b=>
  cases rx
  have e':k=b:=e
  subst e'
  exact wpAny_truthy_bool ⟨H,I,q⟩
 | int i=>
  obtain⟨t,rfl⟩:=rx
  have e':k=(i != 0):=e
  subst e'
  exact PySem.P.truthy_int ⟨H,I,q⟩
 | str y=>
  obtain⟨t,rfl⟩:=rx
  obtain⟨hy,e'⟩:y.length<=sizeLine/\k=((y.length:Int) != 0):=e
  subst e'
  exact PySem.P.truthy_str (by omega) ⟨H,I.tok _,q⟩
 | byt y=>
  obtain⟨t,rfl⟩:=rx
  obtain⟨hy,e'⟩:y.size<=sizeLine/\k=((y.size:Int) != 0):=e
  subst e'
  exact PySem.W.truthy_bytes (by omega) ⟨H,I.tok _,q⟩
 | ref p=>
  cases rx
  have e':(∃xs,SqL X.K H p xs/\k=!xs.isEmpty)\/(∃xs,SqT X.K H p xs/\k=!xs.isEmpty)\/∃kvs,H p=some (.dK kvs)/\k=!kvs.isEmpty:=e
  rcases e' with⟨xs,hx,e'⟩|⟨xs,hx,e'⟩|⟨kvs,hx,e'⟩
  . subst e'
    obtain⟨its,r,pl,hz⟩:=I.list hx
    have hlen:=r.length
    exact wpAny_truthy_list pl.isList (by simp only[List.size_toArray];omega) ⟨H,I.tok _,by rw[kM r];exact q⟩
  . subst e'
    obtain⟨its,r,pl,hz⟩:=I.tuple hx
    have hlen:=r.length
    exact truthy_tuple pl (by simp only[List.size_toArray];omega) ⟨H,I.tok _,by rw[kM r];exact q⟩
  . subst e'
    obtain⟨hz,hS,vs,r,m⟩:kvs.length<=sizeLine/\(p==sysModules)=false/\∃vs,KV kvs vs/\s.heap.DictOf (eD X.prog X.w) p vs:=I.hok p _ hx
    have hlen:kvs.length=vs.length:=Paired.length r
    exact wpAny_truthy_dict hS m (by omega) ⟨H,I.tok _,by rw[tU r];exact q⟩
 | _=>exact(show False from e).elim
theorem zS(ha:PE X a ta)(he:∀whole,isTrue a X.env whole=(do let v<-whole;standAt a.pos;holding [v] (truthy v))) :
 PT X a (λσ H Q=>ta σ H λx H'=>∃k,aCf X.K x H' k/\Q k H'):=by
 intro pins s σ H Q I h
 exact isTrue_plain (thn (ha pins s σ H _ I h) λv s1 ⟨x,H1,I1,r1,q1⟩=>zR pins s1 σ H1 x v Q I1 r1 q1) (he _)
theorem tV:OpR X (binaryOp .Add) (λx y H Q=>∃i j,x=.str i/\y=.str j/\i.length+j.length<=sizeLine/\Q (.str (i++j)) H):=by
 intro pins s σ H x y v u Q I rx ry h
 obtain⟨i,j,rfl,rfl,hz,q⟩:=h
 obtain⟨t,rfl⟩:=rx
 obtain⟨t',rfl⟩:=ry
 exact add_str (λt' tk=>⟨.str (i++j),H,I.tok _,⟨_,rfl⟩,q⟩) hz
theorem zT{x:V}{us:List Value}(r:aI [x] us):∃u,us=[u]/\aR x u:=by
 cases r with
 | cons r1 r2=>cases r2;exact⟨_,rfl,r1⟩
end
end L2
namespace L2
open PySem PySem.Spec PyProof.Rows
section
variable {prog:Program} {w:World} {A:Around} {E:Value->Shared->Prop} {s:Shared} {K:PySem.W.Frag} {x dx C f:Addr} {mA:Str->Option Value} {name:Str} {v:Value}
end
section
variable {P:Program} {w:World} {H H':Hp} {h h':Heap} {a C dx:Addr} {fs fs':List (Str×V)}
end
section
variable {X:Cx} {pins:List (Addr×Obj)} {σ:St} {H:Hp} {s:Shared} {a C dx:Addr} {fs:List (Str×V)} {f:Str} {v:V} {A:Around} {E:Value->Shared->Prop}
end
section
variable {X:Cx} {o e value:Expr} {f:Str} {pos pos' tpos:Pos} {ta tv:TE}
end
section
variable {X:Cx} {pins:List (Addr×Obj)} {σ:St} {H:Hp} {s:Shared} {A:Around} {E:Value->Shared->Prop} {Q:Value->Shared->Prop} {c:Value} {b:Bool}
end
end L2
namespace L2
open PySem PySem.Spec PyProof.Rows
structure gK (k:Nat) (A:Around):Prop where
 hd:A.handled=none
 gd:A.guards=some []
 dp:A.depth+3*k+5<recursionLimit
 un:A.units+16*k+200<cLine
theorem gK.deeper{k:Nat}{A:Around}(r:gK (k+1) A)(env:Env):gK k (A.deeper env):=
 ⟨r.hd,r.gd,by have:=r.dp;show A.depth+1+3*k+5<_;omega,by have:=r.un;show A.units+3+16*k+200<_;omega⟩
theorem gK.depth{k:Nat}{A:Around}(r:gK k A):A.depth<recursionLimit:=by have:=r.dp;omega
noncomputable def aGH:TA:=λ_ H Q=>Q [] H
noncomputable def aGI(ta:TE)(tr:TA):TA:=λσ H Q=>ta σ H λx H1=>tr σ H1 λxs H2=>Q (x::xs) H2
section
variable {X:Cx} {e:Expr} {es:List Expr} {te:TE} {t:TA} {pos:Pos}
theorem iT:PA X [] aGH:=λ_ _ _ _ H Q I h=>Calls.spliced_nil ⟨[],H,I,.nil,h⟩
theorem eF(ha:PE X e te)(hr:PA X es t)(hs:starEach (e::es) X.env=(false,eval e X.env)::starEach es X.env:=by rfl):PA X (e::es) (aGI te t):=by
 intro pos pins s σ H Q I h
 rw[hs]
 show wpAny _ _ (spliced ((false,eval e X.env)::backTo pos (starEach es X.env))) _ _ s
 refine Calls.spliced_cons (thn (ha pins s σ H _ I h) λu s1 ⟨x,H1,I1,r1,q1⟩=>?_)
 exact thn (hr pos pins s1 σ H1 _ I1 q1) λus s2 ⟨xs,H2,I2,r2,q2⟩=>⟨x::xs,H2,I2,.cons r1 r2,q2⟩
noncomputable def aJh(t:TA):TE:=λσ H Q=>t σ H λxs H1=>xs.length<=sizeLine/\∀p,H1 p=none->Q (.ref p) (upd H1 p (.tup xs))
noncomputable def aJi(t:TA):TE:=λσ H Q=>t σ H λxs H1=>xs.length<=sizeLine/\∀p,H1 p=none->Q (.ref p) (upd H1 p (.lst xs))
theorem aEB{x1}(h:PA X es t):PE X (.Tuple es x1 pos) (aJh t):=by
 intro pins s σ H Q I hq
 refine wpAny_Tuple_spliced (thn (h pos pins s σ H _ I hq) λus s1 ⟨xs,H1,I1,r,z,q⟩=>⟨by rw[<-r.length];exact z,?_⟩)
 have hf:H1 s1.heap.objs.size=none:=I1.hok.fresh (Nat.le_refl _)
 refine⟨.ref s1.heap.objs.size,upd H1 s1.heap.objs.size (.tup xs),I1.laid (t':=s1.toks) (λb u e=>Heap.get?_push_of_some _ e) (Nat.le_refl _) ?_,rfl,q _ hf⟩
 exact⟨z,us,r,⟨_,Heap.get?_push_size _ rfl,rfl,_,rfl⟩⟩
theorem aEC(h:PA X es t):PE X (.List es pos) (aJi t):=by
 intro pins s σ H Q I hq
 refine wpAny_List_spliced (thn (h pos pins s σ H _ I hq) λus s1 ⟨xs,H1,I1,r,z,q⟩=>⟨by rw[<-r.length];exact z,?_⟩)
 have hf:H1 s1.heap.objs.size=none:=I1.hok.fresh (Nat.le_refl _)
 refine⟨.ref s1.heap.objs.size,upd H1 s1.heap.objs.size (.lst xs),I1.laid (t':=s1.toks) (λb u e=>Heap.get?_push_of_some _ e) (Nat.le_refl _) ?_,rfl,q _ hf⟩
 exact⟨z,us,0,r,Heap.get?_push_size _ rfl⟩
end
abbrev Sp:=List V->Hp->VK->XK->Prop
abbrev CXT:=List Env->Hp->Shared->XK->Value->Shared->Prop
structure aCg (P:Program) (w:World) (K:PySem.W.Frag) (mg:Str->Option Value) (base:Heap) (A:Around) (outer:List Env) (s:Shared) (H:Hp):Prop where
 frames:A.frames=some outer
 mod:Mod K mg base
 bs:∀b o,base.get? b=some o->s.heap.get? b=some o/\H b=none
 bsz:base.objs.size<=s.heap.objs.size
 funs:s.heap.FunFrames base outer
 frf:∀b∈frs outer,H b=none
 hok:HOk P w H s.heap
 bare:AllBare s.gens
noncomputable def CE(outer:List Env)(P:Program)(w:World)(H:Hp)(s:Shared)(Q:VK)(u:Value)(s':Shared):Prop:=
 ∃v H',s'.os=s.os/\AllBare s'.gens/\Un (frs outer) [] H H' s.heap s'.heap/\HOk P w H' s'.heap/\aR v u/\Q v H'
noncomputable def CR(CX:CXT)(outer:List Env)(P:Program)(w:World)(H:Hp)(s:Shared)(Q:VK)(E:XK)(r:Result)(s':Shared):Prop:=
 match r with
 | .ok (.ret u)=>CE outer P w H s Q u s'
 | .ok _=>False
 | .error e=>CX outer H s E e s'
structure jS (P:Program) (w:World) (K:PySem.W.Frag) (mg:Str->Option Value) (base:Heap) (CX:CXT) (k:Nat) (f:Addr) (fd:FuncData) (ps:List Str) (sp:Sp):Prop where
 len:∀vs H Q E,sp vs H Q E->vs.length=ps.length
 run:∀(A:Around) (outer:List Env) (s:Shared) (H:Hp) (args:Args) (us:List Value) (vs:List V) (Q:VK) (E:XK),gK k A->aCg P w K mg base A outer s H->BindsTo s fd args (ps.zip us)->aI vs us->sp vs H Q E ->
  codeAny (model P w) A (.call (.ref f) args) (CR CX outer P w H s Q E) s
section
variable {X:Cx} {pins:List (Addr×Obj)} {σ:St} {H:Hp} {s s':Shared}
theorem Inv.env0(I:Inv X pins σ H s):aCg X.prog X.w X.K X.mg X.base X.A X.stack s H:=
 ⟨I.ok.frames,I.ok.mod,I.bs,Nat.le_trans I.ok.bsz I.sz,I.stack,I.stkFree,I.hok,I.bare⟩
theorem Inv.after{Q:VK}{u:Value}(I:Inv X pins σ H s)(h:CE X.stack X.prog X.w H s Q u s'):EP X pins σ Q u s':=by
 obtain⟨v,H',os,bare,un,hok,r,q⟩:=h
 obtain⟨hh,g,d,t,os'⟩:=s'
 obtain rfl:os'=s.os:=os
 exact⟨v,H',I.call (h':=hh) (g':=g) (d':=d) (t':=t) (ch:=[]) un hok bare (λb z=>absurd z (by simp)),r,q⟩
end
noncomputable def aDB(sp:Sp)(dvs:List V)(E:XK)(t:TA):TE:=λσ H Q=>t σ H λvs H1=>sp (vs++dvs) H1 Q E
noncomputable def gH(K:PySem.W.Frag)(fd:FuncData)(ps:List Str)(ds:List Value):Prop:=
 ∀(s:Shared) (us:List Value),K.In s.heap->(us++ds).length=ps.length->BindsTo s fd ⟨us,[]⟩ (ps.zip (us++ds))
theorem gH.all{K:PySem.W.Frag}{fd:FuncData}{ps:List Str}(h:∀us:List Value,us.length=ps.length->bindArgs fd ⟨us,[]⟩=pure (ps.zip us)):gH K fd ps []:=λs us _ hl=>by
 rw[List.append_nil] at hl ⊢
 exact .of_eq (h us hl)
noncomputable def pD(CX:CXT)(X:Cx)(E:XK):Prop:=∀(pins:List (Addr×Obj)) (σ:St) (H:Hp) (s:Shared) (e:Value) (s':Shared),Inv X pins σ H s->CX X.stack H s E e s'->X.xe e s'
section
variable {X:Cx} {CX:CXT} {k:Nat} {f C:Addr} {fd:FuncData} {ps:List Str} {sp:Sp} {dvs:List V} {ds:List Value} {E:XK} {x m:Str} {p pos apos:Pos} {e o:Expr} {es:List Expr} {ta:TE} {t:TA}
theorem zU{pins:List (Addr×Obj)}{σ:St}{H:Hp}{s:Shared}{Q:VK}{us:List Value}{vs:List V}(F:jS X.prog X.w X.K X.mg X.base CX k f fd ps sp)(hr:gK k X.A)(hb:gH X.K fd ps ds)(hd:aI dvs ds)(hx:pD CX X E)
 (I:Inv X pins σ H s) (r:aI vs us) (h:sp (vs++dvs) H Q E):wpAny (model X.prog X.w) X.A (call (.ref f) us) (EP X pins σ Q) X.xe s:=by
 have r2:aI (vs++dvs) (us++ds):=r.append hd
 have hl:(us++ds).length=ps.length:=by rw[<-r2.length];exact F.len _ _ _ _ h
 refine wpAny_call (codeAny_mono (F.run X.A X.stack s H ⟨us,[]⟩ (us++ds) (vs++dvs) Q E hr I.env0 (hb s us I.kIn hl) r2 h) λr s' hq=>?_)
 cases r with
 | error e=>exact hx pins σ H s e s' I hq
 | ok fl=>
  cases fl with
  | ret u=>exact I.after hq
  | next=>exact False.elim hq
  | brk=>exact False.elim hq
  | cont=>exact False.elim hq
theorem aCh(F:jS X.prog X.w X.K X.mg X.base CX k f fd ps sp)(hr:gK k X.A)(hg:Gl X x)(hm:X.mg x=some (.ref f))(hk:PySem.W.keepIn X.K (.ref f)=true)(hb:gH X.K fd ps ds)(hd:aI dvs ds)(hx:pD CX X E)
 (ha:PA X (e::es) t) (hdb:(x==("__debug__" : Str))=false:=by decide) (he:starEach (e::es) X.env=(false,eval e X.env)::starEach es X.env:=by rfl) (hpl:(backTo pos (starEach es X.env)).any (·.1)=false:=by rfl) :
 PE X (.Call (.Name x p) (e::es) [] pos) (aDB sp dvs E t):=by
 intro pins s σ H Q I h
 refine wpAny_Call_Name_kw (pA I hg hm ?_ hdb)
 refine PySem.W.callWith_K (h₀:=X.base) I.ok.mod.kin hk (thn (ha pos pins s σ H _ I h) λus s1 ⟨vs,H1,I1,r,q⟩=>⟨I1.kIn,?_⟩) he hpl
 exact zU F hr hb hd hx I1 r q
theorem zV(F:jS X.prog X.w X.K X.mg X.base CX k f fd ps sp)(hr:gK k X.A)(hg:Gl X x)(hm:X.mg x=some (.ref f))(hk:PySem.W.keepIn X.K (.ref f)=true)(hb:gH X.K fd ps ds)(hd:aI dvs ds)(hx:pD CX X E)
 (hdb:(x==("__debug__" : Str))=false:=by decide):PE X (.Call (.Name x p) [] [] pos) (aDB sp dvs E aGH):=by
 intro pins s σ H Q I h
 refine wpAny_Call_Name_kw (pA I hg hm ?_ hdb)
 exact PySem.W.callWith_K0 I.kIn hk (zU (us:=[]) F hr hb hd hx I .nil h)
end
section
variable {X:Cx} {CX:CXT} {k:Nat} {f C:Addr} {fd:FuncData} {ps ks:List Str} {sp:Sp} {E:XK} {x m:Str} {p pos apos kpos:Pos} {e o:Expr} {es:List Expr} {kws:List Keyword} {te ta:TE} {t tk:TA} {nm:Option Str}
variable {g:List Value->List Value->List Value} {gV:List V->List V->List V}
end
structure jZ (N P:List Str) (sc:Scope):Prop where
 kind:sc.kind=.function
 co:sc.isCoroutine=false
 gen:sc.isGenerator=false
 nd:N.Nodup
 pre:N.take P.length=P
 par:∀x∈P,sc.names.lookup x=some .local\/sc.names.lookup x=some .cell
 nofree:∀y∈sc.names,y.2≠.free
theorem nL{kindOf:Str->Option NameKind}{x:Str}:∀{binds:List (Str×Value)} {m:Str->Option Value},(∀v,(x,v)∉binds)->bindL kindOf binds m x=m x
 | [],_,_=>rfl
 | (n,v)::r,m,h=>by
  unfold bindL
  rw[nL λw hw=>h w (List.mem_cons_of_mem _ hw)]
  split
  . have:x≠n:=by rintro rfl;exact h v List.mem_cons_self
    simp[this]
  . rfl
theorem nM{kindOf:Str->Option NameKind}{x:Str}:∀{binds:List (Str×Value)} {m:Str->Option Value},(∀v,(x,v)∉binds)->bindC kindOf binds m x=m x
 | [],_,_=>rfl
 | (n,v)::r,m,h=>by
  unfold bindC
  rw[nM λw hw=>h w (List.mem_cons_of_mem _ hw)]
  split
  . rfl
  . have:x≠n:=by rintro rfl;exact h v List.mem_cons_self
    simp[this]
theorem nN{kindOf:Str->Option NameKind}{x:Str}{v:Value}:∀{P:List Str} {vs:List Value} {i:Nat} {m:Str->Option Value},P.Nodup->P[i]? = some x->vs[i]? = some v->kindOf x=some .local ->
 bindL kindOf (P.zip vs) m x=some v
 | [],_,_,_,_,h,_,_=>by simp at h
 | _::_,[],_,_,_,_,h,_=>by simp at h
 | p::P,w::vs,0,m,nd,h1,h2,hk=>by
  simp at h1 h2;subst h1;subst h2
  show bindL kindOf ((p,w)::P.zip vs) m p=_
  unfold bindL
  rw[nL λv hv=>(List.nodup_cons.mp nd).1 (List.of_mem_zip hv).1,if_pos hk]
  simp
 | p::P,w::vs,i+1,m,nd,h1,h2,hk=>by
  show bindL kindOf ((p,w)::P.zip vs) m x=_
  unfold bindL
  exact nN (i:=i) (List.nodup_cons.mp nd).2 (by simpa using h1) (by simpa using h2) hk
theorem nO{kindOf:Str->Option NameKind}{x:Str}{v:Value}:∀{P:List Str} {vs:List Value} {i:Nat} {m:Str->Option Value},P.Nodup->P[i]? = some x->vs[i]? = some v->kindOf x≠some .local ->
 bindC kindOf (P.zip vs) m x=some v
 | [],_,_,_,_,h,_,_=>by simp at h
 | _::_,[],_,_,_,_,h,_=>by simp at h
 | p::P,w::vs,0,m,nd,h1,h2,hk=>by
  simp at h1 h2;subst h1;subst h2
  show bindC kindOf ((p,w)::P.zip vs) m p=_
  unfold bindC
  rw[nM λv hv=>(List.nodup_cons.mp nd).1 (List.of_mem_zip hv).1,if_neg hk]
  simp
 | p::P,w::vs,i+1,m,nd,h1,h2,hk=>by
  show bindC kindOf ((p,w)::P.zip vs) m x=_
  unfold bindC
  exact nO (i:=i) (List.nodup_cons.mp nd).2 (by simpa using h1) (by simpa using h2) hk
noncomputable def start(N:List Str)(vs:List V):St:=vs.map some++List.replicate (N.length-vs.length) none
noncomputable def tW(CX:CXT)(P:Program)(w:World)(K:PySem.W.Frag)(mg:Str->Option Value)(base:Heap)(N:List Str)(qual:Str)(scope:Scope)(f:Addr)(cd:Value)(A:Around)(outer:List Env)(s:Shared)(H:Hp)(E:XK):Cx where
 prog:=P
 w:=w
 K:=K
 mg:=mg
 base:=base
 A:=A.deeper (envOfC qual scope s.heap.objs.size f cd)
 N:=N
 s₀:=s
 H₀:=H
 env:=envOfC qual scope s.heap.objs.size f cd
 outer:=outer
 stack:=envOfC qual scope s.heap.objs.size f cd::outer
 ex:=[]
 calm:=true
 fn:=λ_=>true
 pn:=[]
 xe:=λe s'=>wpAny (model P w) (A.deeper (envOfC qual scope s.heap.objs.size f cd)) (leaving (envOfC qual scope s.heap.objs.size f cd) e) (λ_ s''=>CX outer H s E e s'') (λe' s''=>CX outer H s E e' s'') s'
theorem rD{sc:Scope}{n:Nat}{x:Str}(h:sc.names.lookup x=some .cell):∃c,(cellsFrom n sc.names []).lookup x=some c:=by
 have q:=PySem.W.cellsFrom_some sc.names n [] (.inl h)
 exact Option.isSome_iff_exists.mp q
theorem xX{CX:CXT}{P:Program}{w:World}{K:PySem.W.Frag}{mg:Str->Option Value}{base:Heap}{N ps:List Str}{qual:Str}{scope:Scope}{f:Addr}{cd:Value}{A:Around}{outer:List Env}{s s1:Shared}{H:Hp}{E:XK}{us:List Value}{vs:List V}
 (S:jZ N ps scope) (hd:A.handled=none) (e0:aCg P w K mg base A outer s H) (hl:vs.length=ps.length) (r:aI vs us)
 (x:InCallC s s.heap.objs.size (bindL (envOfC qual scope s.heap.objs.size f cd).kindOf (ps.zip us) λ_=>none) (cellsFrom (s.heap.objs.size+1) scope.names []) (bindC (envOfC qual scope s.heap.objs.size f cd).kindOf (ps.zip us) λ_=>none) s1) :
 Inv (tW CX P w K mg base N qual scope f cd A outer s H E) [] (start N vs) H s1:=by
 have hpl:ps.length<=N.length:=by have:=congrArg List.length S.pre;rw[List.length_take] at this;omega
 obtain⟨h1,tk,rfl,hk⟩:=x.done
 have noA:∀b:Addr,b∉(tW CX P w K mg base N qual scope f cd A outer s H E).ex:=λb z=>absurd (show b∈([]:List Addr) from z) (by simp)
 refine⟨⟨e0.mod,S.kind,rfl,rfl,Nat.le_refl _,λy z c h1 h2=>?_,λy hy=>?_,λy c _ h=>?_,λ_=>hd,Around.frames_deeper e0.frames,.inr ⟨rfl,rfl⟩,λb z=>absurd z (noA b),e0.bs,e0.bsz,λb _ _=>noA b,λb z=>absurd z (noA b),e0.funs,e0.frf⟩,
  rfl,e0.bare,Un.kept hk,⟨_,x.toInCall.ns,λi y v h1 h2 h3=>?_⟩,λy c h=>⟨_,x.cell y c h⟩,e0.hok.fresh (Nat.le_refl _),λy c h=>?_,λp hp=>absurd (show p∈([]:List (Addr×Obj)) from hp) (by simp),e0.hok.kept hk,?_⟩
 . exact name_of_addr x.apart (PySem.mem_of_lookup h1) (PySem.mem_of_lookup h2)
 . have hy:scope.names.lookup y=some .cell\/scope.names.lookup y=some .free:=hy
   rcases hy with hy|hy
   . exact rD hy
   . exact absurd rfl (S.nofree _ (PySem.mem_of_lookup hy))
 . exact Nat.le_of_lt (x.above y c (PySem.mem_of_lookup h))
 . have hi:i<vs.length:=by
    unfold start at h2
    by_cases hi:i<vs.length
    . exact hi
    . rw[List.getElem?_append_right (by simpa using hi)] at h2
      rw[List.getElem?_replicate] at h2
      split at h2 <;> cases h2
   have ha:vs[i]? = some v:=by
    unfold start at h2
    rw[List.getElem?_append_left (by simpa using hi),List.getElem?_map] at h2
    cases e:vs[i]? with
    | none=>rw[e] at h2;cases h2
    | some a=>rw[e] at h2;cases h2;rfl
   obtain⟨u,hu,rv⟩:=r.get ha
   have hp:ps[i]? = some y:=by
    rw[<-S.pre,List.getElem?_take_of_lt (by omega)];exact h1
   have ndP:ps.Nodup:=by rw[<-S.pre];exact S.nd.sublist (List.take_sublist _ _)
   refine⟨u,rv,?_⟩
   rcases S.par y (List.mem_of_getElem? hp) with k|k
   . exact .inl ⟨k,nN ndP hp hu k⟩
   . obtain⟨c,e⟩:=rD (n:=s.heap.objs.size+1) k
     refine .inr ⟨.inl k,c,e,?_⟩
     have q:=x.cell y c e
     rw[nO ndP hp hu (by show scope.names.lookup y≠_;rw[k];decide)] at q
     exact q
 . exact e0.hok.fresh (Nat.le_of_lt (x.above y c (PySem.mem_of_lookup h)))
 . unfold start
   show _=N.length
   rw[List.length_append,List.length_map,List.length_replicate]
   omega
theorem aGJ{CX:CXT}{P:Program}{w:World}{K:PySem.W.Frag}{mg:Str->Option Value}{base:Heap}{k:Nat}{f:Addr}{name qual:Str}{params:Arguments}{body:List Stmt}{scope:Scope}{dV kV doc pm cdv ct oc:Value}{an od:Option Addr}
 {osl:Array (Option Value)} {N ps:List Str} {sp:Sp} (lk:K.lookup f=some ⟨oc,od,.func (PySem.W.fnOf name qual params body scope dV kV doc pm an cdv ct),osl⟩) (hcd:PySem.W.codeIn K cdv qual=true) (S:jZ N ps scope)
 (len:∀vs H Q E,sp vs H Q E->vs.length=ps.length)
 (hbody:∀(A:Around) (outer:List Env) (s:Shared) (H:Hp) (vs:List V) (Q:VK) (E:XK),gK k (A.deeper (envOfC qual scope s.heap.objs.size f cdv))->sp vs H Q E ->
  ∃t,PSs (tW CX P w K mg base N qual scope f cdv A outer s H E) body t/\t { nx:=λ_ H'=>Q .non H',rt:=Q } (start N vs) H) :
 jS P w K mg base CX (k+1) f (PySem.W.fnOf name qual params body scope dV kV doc pm an cdv ct) ps sp:=by
 refine⟨len,λA outer s H args us vs Q E hr e0 hb r hsp=>?_⟩
 have hl:=len _ _ _ _ hsp
 have KX:K.In s.heap:=e0.mod.kin.keeps λb o e=>(e0.bs b o e).1
 have lim:s.heap.NoLimit:=e0.mod.nolimit.keeps λb o e=>(e0.bs b o e).1
 have hkind:∀y∈ps.zip us,scope.names.lookup y.1=some .local\/(scope.names.lookup y.1=some .cell/\((cellsFrom (s.heap.objs.size+1) scope.names []).lookup y.1).isSome=true):=λ⟨n,v⟩ hy=>by
  rcases S.par n (List.of_mem_zip hy).1 with q|q
  . exact .inl q
  . exact .inr ⟨q,PySem.W.cellsFrom_some _ _ _ (.inl q)⟩
 refine codeAny_call_function hr.depth (KX _ _ lk) rfl S.co S.gen rfl (PySem.W.codeRec_of KX hcd) (hb _ _ _ _ ?_)
 refine wpAny_newFunctionEnv_cells S.kind hkind λenv he s1 x=>?_
 subst he
 refine⟨lim.keeps x.toInCall.keep,codeAny_func ?_⟩
 obtain⟨t,ht,hq⟩:=hbody A outer s H vs Q E (hr.deeper _) hsp
 have I:Inv (tW CX P w K mg base N qual scope f cdv A outer s H E) [] (start N vs) H s1:=xX S hr.hd e0 hl r x
 refine wpAny_mono (ht [] s1 (start N vs) H _ I hq) (λfl s' hs=>?_) λe s' hs=>hs
 have fin:∀{σ':St} {H':Hp} {v:V} {u:Value},Inv (tW CX P w K mg base N qual scope f cdv A outer s H E) [] σ' H' s'->aR v u->Q v H'->CE outer P w H s Q u s':=
  λ{σ' H' v u} J rv q=>⟨v,H',J.os,J.bare,J.base,J.hok,rv,q⟩
 cases fl with
 | ret u=>
  obtain⟨v,σ',H',J,rv,q⟩:=hs
  exact fin J rv q
 | next=>
  obtain⟨σ',H',J,q⟩:=hs
  exact fin (v:=V.non) (u:=Value.none) J rfl q
 | brk=>
  obtain⟨_,_,_,q⟩:=hs
  exact False.elim q
 | cont=>
  obtain⟨_,_,_,q⟩:=hs
  exact False.elim q
end L2
namespace L2
open PySem PySem.Spec PyProof.Rows
section
variable {X:Cx} {x:Str} {p pos:Pos} {e:Expr} {es:List Expr} {t:TA} {id T:String} {r:List V->Hp->VK->Prop}
noncomputable def tCB(r:List V->Hp->VK->Prop)(t:TA):TE:=λσ H Q=>t σ H λvs H1=>r vs H1 Q
theorem zW(hc:gG X (.builtin id) r)(hg:Gl X x)(hm:X.mg x=none)(hv:bootBuiltins x=some (.builtin id))(ha:PA X (e::es) t)(hn:x ≠ "__name__" := by decide)(hdb:(x==("__debug__" : Str))=false:=by decide)
 (he:starEach (e::es) X.env=(false,eval e X.env)::starEach es X.env:=by rfl) (hpl:(backTo pos (starEach es X.env)).any (·.1)=false:=by rfl):PE X (.Call (.Name x p) (e::es) [] pos) (tCB r t):=by
 intro pins s σ H Q I h
 refine wpAny_Call_Name_kw (dP I hg hm hv ?_ hn hdb)
 exact PyProof.Rows.callWith_builtin1 (thn (ha pos pins s σ H _ I h) λus s1 ⟨vs,H1,I1,r1,q1⟩=>hc pins s1 σ H1 vs us Q I1 r1 q1) he hpl
theorem xY(hc:gG X (.type T) r)(hg:Gl X x)(hm:X.mg x=none)(hv:bootBuiltins x=some (.type T))(ha:PA X (e::es) t)(hn:x ≠ "__name__" := by decide)(hdb:(x==("__debug__" : Str))=false:=by decide)
 (he:starEach (e::es) X.env=(false,eval e X.env)::starEach es X.env:=by rfl) (hpl:(backTo pos (starEach es X.env)).any (·.1)=false:=by rfl):PE X (.Call (.Name x p) (e::es) [] pos) (tCB r t):=by
 intro pins s σ H Q I h
 refine wpAny_Call_Name_kw (dP I hg hm hv ?_ hn hdb)
 exact PyProof.Rows.callWith_type1 (thn (ha pos pins s σ H _ I h) λus s1 ⟨vs,H1,I1,r1,q1⟩=>hc pins s1 σ H1 vs us Q I1 r1 q1) he hpl
end
end L2
namespace HT
open PySem PyProof.Rows
noncomputable def lexLt:List Int->List Int->Bool
 | [],[]=>false
 | [],_::_=>true
 | _::_,[]=>false
 | x::xs,y::ys=>if x=y then lexLt xs ys else decide (x<y)
theorem lexLt_cons(x y:Int)(xs ys:List Int):lexLt (x::xs) (y::ys)=if x=y then lexLt xs ys else decide (x<y):=rfl
theorem gI:lexLt [] []=false:=rfl
theorem eX(y:Int)(ys:List Int):lexLt [] (y::ys)=true:=rfl
theorem eY(x:Int)(xs:List Int):lexLt (x::xs) []=false:=rfl
theorem rE(A:Around)(s:Shared)(a:Int)(t:Tok)(c:Int)(u:Tok):∃e,SeqAt.EqAt A s (.int a t) (.int c u) e/\(e=true↔a=c):=
 ⟨(a==c),SeqAt.EqAt.int_int a t c u,by simp⟩
theorem zX(A:Around)(s:Shared)(a:Int)(t:Tok)(c:Int)(u:Tok)(prog:Program)(w:World)(E:Value->Shared->Prop)(Q:Value->Shared->Prop)(h:Q (.bool (decide (a<c))) s) :
 wpAny (model prog w) A (richCompare .Lt (.int a t) (.int c u)) Q E s:=
 (PyProof.Rows.lt_int h:wpAny (model prog w) A (compareOp .Lt (.int a t) (.int c u)) Q E s)
section
open PySem.SeqAt
open PySem.AutoSeq1 (wpAny_loadPart')
open PySem.MeetsSeq PySem.MeetsSeq2 PySem.MeetsSeq3
theorem nA(l b:Addr)(items items2:Array Value)(n n2:Nat)(dd dd2:Option Addr)(sl sl2:Array (Option Value))(ns ms:List Int)(hi:IntsAre items.toList ns)(hj:IntsAre items2.toList ms) :
 Meets (Builtin.«tuple.__lt__» ⟨[.ref l,.ref b],[]⟩)
  (λ_ R s=>s.heap.get? l=some { cls:=.type "tuple",dict:=dd,data:=.seq items n,slots:=sl }/\s.heap.get? b=some { cls:=.type "tuple",dict:=dd2,data:=.seq items2 n2,slots:=sl2 } /\
   R (.ok (.ret (.bool (lexLt ns ms)))) s):=
 .of_wp λprog w A R s h=>by
  obtain⟨hp,g,d,tk,os⟩:=s;obtain⟨hl,hb,h⟩:=h
  have f2:=AutoSeq1.sub_tuple_tuple
  have z1:items.size=ns.length:=by rw[<-hi.length];simp
  have z2:items2.size=ms.length:=by rw[<-hj.length];simp
  wp_walk using wpAny_loadPart' hl,wpAny_loadPart' hb,wpAny_forIn_list _ (λrest b s'=>b.1=none/\s'=⟨hp,g,d,tk,os⟩/\∃(vs ws:List Value) (ns' ms':List Int),rest=vs.zip ws /\
   IntsAre vs ns'/\IntsAre ws ms'/\ns'.length+items2.size=ms'.length+items.size/\R (.ok (.ret (.bool (lexLt ns' ms')))) ⟨hp,g,d,tk,os⟩) _
  case turn=>
   rintro ⟨y,x⟩ rest b s' ⟨hb',rfl,vs,ws,ns',ms',hz,hvi,hwi,hlen,hR⟩
   cases hvi with
   | nil=>rw[List.zip_nil_left] at hz;cases hz
   | cons a t hvi'=>
    cases hwi with
    | nil=>rw[List.zip_nil_right] at hz;cases hz
    | cons c u hwi'=>
     rw[List.zip_cons_cons] at hz
     injection hz with hyx hrest
     injection hyx with hy hx
     subst hy hx
     rw[lexLt_cons] at hR
     simp only[List.length_cons] at hlen
     obtain⟨e,he,hiff⟩:=rE A.in1 ⟨hp,g,d,tk,os⟩ a t c u
     refine wpAny_bind (he prog w _ _ ?_)
     cases e with
     | true=>
      rw[if_pos (hiff.mp rfl)] at hR
      wp_walk
      exact⟨rfl,rfl,_,_,_,_,hrest,hvi',hwi',by omega,hR⟩
     | false=>
      rw[if_neg (λq=>absurd (hiff.mpr q) Bool.false_ne_true)] at hR
      have hri:=zX A.in1 ⟨hp,g,d,tk,os⟩ a t c u prog w
      wp_walk using hri
      exact⟨_,rfl,by simpa using hR⟩
  case fin=>
   rintro ⟨b1,b2⟩ s' ⟨hb',rfl,vs,ws,ns',ms',hz,hvi,hwi,hlen,hR⟩
   simp only at hb'
   subst hb'
   have hv:lexLt ns' ms'=decide (items.size<items2.size):=by
    cases hvi with
    | nil=>
     cases hwi with
     | nil=>
      simp only[List.length_nil] at hlen
      rw[gI]
      exact(decide_eq_false (by omega)).symm
     | cons c u hw=>
      simp only[List.length_nil,List.length_cons] at hlen
      rw[eX]
      exact(decide_eq_true (by omega)).symm
    | cons a t hv=>
     cases hwi with
     | nil=>
      simp only[List.length_nil,List.length_cons] at hlen
      rw[eY]
      exact(decide_eq_false (by omega)).symm
     | cons c u hw=>
      rw[List.zip_cons_cons] at hz
      cases hz
   rw[hv] at hR
   wp_walk
   exact⟨_,rfl,by simpa[Builtin.Tuple.tupleCompareSizes] using hR⟩
  case h=>
   exact⟨rfl,rfl,items.toList,items2.toList,ns,ms,rfl,hi,hj,by omega,h⟩
end
section
variable {prog:Program} {w:World} {A:Around} {E:Value->Shared->Prop} {s:Shared}
theorem lt_tupInts{l b:Addr}{items items2:Array Value}{ns ms:List Int}{Q:Value->Shared->Prop}(hl:IsTup s.heap l items)(hb:IsTup s.heap b items2)(hi:IntsAre items.toList ns)(hj:IntsAre items2.toList ms)
 (hu:A.units<cLine) (h:Q (.bool (lexLt ns ms)) s):wpAny (model prog w) A (compareOp .Lt (.ref l) (.ref b)) Q E s:=by
 obtain⟨⟨cls,dd,data,sl⟩,ho,hc,n,hd⟩:=id hl
 obtain⟨⟨cls2,dd2,data2,sl2⟩,ho2,hc2,n2,hd2⟩:=id hb
 simp only at hc hd hc2 hd2
 subst hc hd hc2 hd2
 exact richCompare_meets_room (op:=.Lt) ⟨_,ho,rfl⟩ ⟨_,ho2,rfl⟩ PySem.F.slot_tuple_lt PySem.F.entry_tuple_lt (PySem.F.args_tuple_lt_2 _ _) (nA l b items items2 n n2 dd dd2 sl sl2 ns ms hi hj)
  ⟨ho,ho2,show Value.bool (lexLt ns ms)≠Value.notImplemented/\Q (.bool (lexLt ns ms)) s from⟨(λx=>nomatch x),h⟩⟩ hu
theorem cat_tup{t b:Addr}{vs ws:List Value}{Q:Value->Shared->Prop}(ht:IsTup s.heap t vs.toArray)(hb:IsTup s.heap b ws.toArray)(hv:vs≠[])
 (h1:ws=[]->Q (.ref t) s) (h2:ws≠[]->Q (.ref s.heap.objs.size) { s with heap:=s.heap.push { cls:=.type "tuple",data:=.seq (vs++ws).toArray } })
 (hsz:vs.length+ws.length<=sizeLine):wpAny (model prog w) A (binaryOp .Add (.ref t) (.ref b)) Q E s:=by
 obtain⟨⟨cls,dd,data,sl⟩,ho,hc,n,hd⟩:=id ht
 obtain⟨⟨cls2,dd2,data2,sl2⟩,ho2,hc2,n2,hd2⟩:=id hb
 simp only at hc hd hc2 hd2
 subst hc hd hc2 hd2
 have e:vs.toArray++ws.toArray=(vs++ws).toArray:=by simp
 by_cases hw:ws=[]
 . exact concat_meets ⟨_,ho,rfl⟩ ⟨_,ho2,rfl⟩ noFill_tuple_add seq_tuple_add PySem.F.slot_tuple_add PySem.F.entry_tuple_add (PySem.F.args_tuple_add_2 _ _)
    (tuple_addW1 t b vs.toArray ws.toArray n n2 dd dd2 sl sl2 (by simpa using hv) (by simp[hw])) ⟨ho,ho2,h1 hw⟩
 . refine concat_meets ⟨_,ho,rfl⟩ ⟨_,ho2,rfl⟩ noFill_tuple_add seq_tuple_add PySem.F.slot_tuple_add PySem.F.entry_tuple_add (PySem.F.args_tuple_add_2 _ _)
    (tuple_addW2 t b vs.toArray ws.toArray n n2 dd dd2 sl sl2 (by simpa using hv) (by simpa using hw) (by rw[List.size_toArray,List.size_toArray];exact hsz)) ⟨ho,ho2,?_⟩
   rw[e]
   exact h2 hw
noncomputable def sIx(n d:Nat):Option Int->Nat
 | none=>d
 | some v=>if v<0 then (v+(n:Int)).toNat else min v.toNat n
theorem aED(n d:Nat)(hd:d<=n)(o:Option Int):sIx n d o<=n:=by
 cases o with
 | none=>exact hd
 | some v=>
  show(if v<0 then (v+(n:Int)).toNat else min v.toNat n)<=n
  by_cases hv:v<0
  . rw[if_pos hv];omega
  . rw[if_neg hv];exact Nat.min_le_right _ _
theorem vG(v:Int)(n d:Nat):(if v<0 then max (v+(n:Int)) 0 else min v (n:Int))=((sIx n d (some v):Nat):Int):=by
 show(if v<0 then max (v+(n:Int)) 0 else min v (n:Int))=(((if v<0 then (v+(n:Int)).toNat else min v.toNat n):Nat):Int)
 by_cases hv:v<0
 . simp only[if_pos hv];omega
 . simp only[if_neg hv];omega
theorem tX(lo hi:Option Int)(n:Nat):Builtin.Slice.sliceAdjust lo hi 1 (n:Int)=(((sIx n 0 lo:Nat):Int),((sIx n n hi:Nat):Int)):=by
 have h1:¬ ((1:Int)<0):=by omega
 unfold Builtin.Slice.sliceAdjust
 simp only[h1,if_false]
 refine Prod.ext ?_ ?_
 . cases lo with
   | none=>rfl
   | some v=>exact vG v n 0
 . cases hi with
   | none=>rfl
   | some v=>exact vG v n n
theorem tY(i j:Nat):Builtin.Slice.slicePlaces (i:Int) (j:Int) 1=j-i:=by
 unfold Builtin.Slice.slicePlaces
 have h1:(1:Int)>0:=by omega
 simp only[h1,if_true,Int.ediv_one]
 split <;> omega
theorem kO{v:Value}{o:Option Int}{Q:Option Int->Shared->Prop}(p:IsPart v o)(h:Q o s):wpAny (model prog w) A (Builtin.Slice.slicePartIndex v) Q E s:=by
 cases p with
 | none=>exact slicePart_none h
 | int i t=>exact slicePart_int h
theorem sliceApplied_gen{sl:Addr}{vl vu:Value}{lo hi:Option Int}{n:Nat}{Q:Int×Int×Nat->Shared->Prop}(hs:s.heap.IsSliceOf sl vl vu .none)(pl:IsPart vl lo)(pu:IsPart vu hi)
 (h:Q (((sIx n 0 lo:Nat):Int),1,sIx n n hi-sIx n 0 lo) s):wpAny (model prog w) A (Builtin.Slice.sliceApplied (.ref sl) (pure (n:Int))) Q E s:=by
 obtain⟨os,hos,hcs,hds⟩:=id hs
 unfold Builtin.Slice.sliceApplied Builtin.Slice.sliceFields
 refine wpAny_bind (wpAny_bind (wpAny_field hos hds (x:=vl) rfl (wpAny_bind (wpAny_field hos hds (x:=vu) rfl (wpAny_bind (wpAny_field hos hds (x:=.none) rfl (wpAny_pure ?_)))))))
 refine wpAny_bind (slicePart_none ?_)
 show wpAny _ _ (if ((1:Int)==0)=true then _ else _) _ _ s
 rw[if_neg (by decide)]
 refine wpAny_bind (kO pl (wpAny_bind (kO pu (wpAny_bind (wpAny_pure ?_)))))
 show wpAny _ _ (match Builtin.Slice.sliceAdjust lo hi 1 (n:Int) with|(lo,hi)=>pure (lo,(1:Int),Builtin.Slice.slicePlaces lo hi 1)) _ _ s
 rw[tX lo hi n]
 show wpAny _ _ (pure (((sIx n 0 lo:Nat):Int),(1:Int),Builtin.Slice.slicePlaces ((sIx n 0 lo:Nat):Int) ((sIx n n hi:Nat):Int) 1)) _ _ s
 rw[tY]
 exact wpAny_pure h
theorem zY(xs:Array Value)(i k:Nat):((List.range k).filterMap λ(m:Nat)=>xs[((i:Int)+(m:Int)*1).toNat]?).toArray=((xs.toList.drop i).take k).toArray:=by
 have e:(λ(m:Nat)=>xs[((i:Int)+(m:Int)*1).toNat]?)=λm=>xs[i+m]? := by
  funext m
  have:((i:Int)+(m:Int)*1).toNat=i+m:=by omega
  rw[this]
 rw[e]
 have:=pick_run xs i k
 rw[List.filterMap_map] at this
 have e2:((λx=>xs[x]?)∘λx=>i+x)=λm=>xs[i+m]? := rfl
 rw[e2] at this
 rw[this]
theorem getItem_tuple_cut{t sl:Addr}{items:Array Value}{vl vu:Value}{lo hi:Option Int}{Q:Value->Shared->Prop}(ht:IsTup s.heap t items)(hs:s.heap.IsSliceOf sl vl vu .none)(pl:IsPart vl lo)(pu:IsPart vu hi)
 (hw:¬ (sIx items.size 0 lo=0/\sIx items.size items.size hi=items.size))
 (h:Q (.ref s.heap.objs.size) { s with heap:=s.heap.push { cls:=.type "tuple",data:=.seq ((items.toList.drop (sIx items.size 0 lo)).take (sIx items.size items.size hi-sIx items.size 0 lo)).toArray } })
 (hsz:items.size<=sizeLine):wpAny (model prog w) A (getItem (.ref t) (.ref sl)) Q E s:=by
 have htake:sizeOk (.seq ((items.toList.drop (sIx items.size 0 lo)).take (sIx items.size items.size hi-sIx items.size 0 lo)).toArray):=by
  show((items.toList.drop (sIx items.size 0 lo)).take (sIx items.size items.size hi-sIx items.size 0 lo)).toArray.size<=sizeLine
  rw[List.size_toArray,List.length_take,List.length_drop,Array.length_toList]
  omega
 have hj:sIx items.size items.size hi<=items.size:=aED _ _ (Nat.le_refl _) hi
 obtain⟨os,hos,hcs,hds⟩:=id hs
 have hTs:s.TypeIs (.ref sl) "slice" := ⟨os,hos,hcs⟩
 unfold getItem
 try with_reducible refine wpAny_holding ?_
 first|refine wpAny_bind (wpAny_pure ?_)|skip
 refine wpAny_bind (wpAny_sequenceKey ht.typeIs (by decide) ?_)
 refine wpAny_bind (wpAny_callSpecial?_slot (name:=Str.ofString "__getitem__") ht.typeIs PyProof.Rows.slot_tuple_getitem
  (wpAny_call_entry PyProof.Rows.slot_tuple_getitem ht.typeIs entry_tuple_getitem ?_ (args_tuple_getitem _ _)))
 show wpAny _ _ (Builtin.Tuple.tupleItemsOf (.ref t) >>= _) _ _ s
 refine wpAny_bind (tupleItemsOf_ ht ?_)
 refine wpAny_bind (wpAny_typeOf hTs ?_)
 rw[if_pos (by decide)]
 refine wpAny_bind (sliceApplied_gen hs pl pu ?_)
 have hno:¬ ((((sIx items.size 0 lo:Nat):Int)==0&&(1:Int)==1&&(sIx items.size items.size hi-sIx items.size 0 lo)==items.size)=true):=by
  intro q
  rw[Bool.and_eq_true,Bool.and_eq_true] at q
  have q1:((sIx items.size 0 lo:Nat):Int)=0:=eq_of_beq q.1.1
  have q2:sIx items.size items.size hi-sIx items.size 0 lo=items.size:=eq_of_beq q.2
  exact hw ⟨by omega,by omega⟩
 show wpAny _ _ (if (((sIx items.size 0 lo:Nat):Int)==0&&(1:Int)==1&&(sIx items.size items.size hi-sIx items.size 0 lo)==items.size)=true then _ else _) _ _ s
 rw[if_neg hno,zY]
 first
  | exact wpAny_bind (m:=Builtin.Tuple.tupleExact _) (wpAny_newObj_type (wpAny_pure ⟨_,rfl,wpAny_pure h⟩) htake)
  | exact wpAny_bind (m:=Builtin.Tuple.tupleExact _) (wpAny_newObj_type (wpAny_bind (wpAny_pure (wpAny_pure ⟨_,rfl,wpAny_pure h⟩))) htake)
  | exact wpAny_bind (wpAny_bind (m:=Builtin.Tuple.tupleExact _) (wpAny_newObj_type (wpAny_pure (wpAny_pure ⟨_,rfl,wpAny_pure h⟩)) htake))
  | exact wpAny_bind (wpAny_bind (m:=Builtin.Tuple.tupleExact _) (wpAny_newObj_type (wpAny_pure ⟨_,rfl,wpAny_pure h⟩) htake))
end
end HT
namespace L2
open PySem PySem.Spec PyProof.Rows
abbrev TO:=St->Hp->(Option Int->Hp->Prop)->Prop
noncomputable def PO(X:Cx)(e:Option Expr)(t:TO):Prop:=
 ∀(pins:List (Addr×Obj)) (s:Shared) (σ:St) (H:Hp) (Q:Option Int->Hp->Prop),Inv X pins σ H s->t σ H Q ->
  wpAny (model X.prog X.w) X.A (evalPart e X.env) (λu s'=>∃o H',Inv X pins σ H' s'/\IsPart u o/\Q o H') X.xe s
noncomputable def aCi:TO:=λ_ H Q=>Q none H
noncomputable def aGK(t:TE):TO:=λσ H Q=>t σ H λx H1=>∃i,x=.int i/\Q (some i) H1
theorem eG{ns:List Int}:∀{us:List Value},aI (ns.map V.int) us->IntsAre us ns:=by
 induction ns with
 | nil=>intro us r;rw[List.map_nil] at r;cases r;exact .nil
 | cons n ns ih=>
  intro us r
  rw[List.map_cons] at r
  cases r with
  | cons r1 r2=>
   obtain⟨t,e⟩:=r1
   subst e
   exact .cons n t (ih r2)
section
variable {X:Cx} {e:Expr} {te:TE} {lo hi:Option Expr} {tl th:TO} {pos p2:Pos}
theorem aCj:PO X none aCi:=by
 intro pins s σ H Q I h
 rw[evalPart_none]
 exact wpAny_pure ⟨none,H,I,.none,h⟩
theorem aCk(h:PE X e te):PO X (some e) (aGK te):=by
 intro pins s σ H Q I hw
 rw[evalPart_some]
 refine thn (h pins s σ H _ I hw) λu s1 ⟨x,H1,I1,r1,q1⟩=>?_
 obtain⟨i,rfl,q⟩:=q1
 obtain⟨t,rfl⟩:=r1
 exact⟨some i,H1,I1,.int i t,q⟩
noncomputable def SlR(X:Cx)(r:V->Option Int->Option Int->Hp->VK->Prop):Prop:=
 ∀(pins:List (Addr×Obj)) (s:Shared) (σ:St) (H:Hp) (x:V) (v vl vu:Value) (lo hi:Option Int) (sl:Addr) (Q:VK),Inv X pins σ H s->aR x v->s.heap.IsSliceOf sl vl vu .none->IsPart vl lo->IsPart vu hi->r x lo hi H Q ->
  ∃T id,typeLookup (.type T) "__getitem__" = pure (some (.builtin id))/\s.TypeIs v T/\wpAny (model X.prog X.w) X.A (getItem v (.ref sl)) (EP X pins σ Q) X.xe s
theorem SlR.or{r r':V->Option Int->Option Int->Hp->VK->Prop}(h:SlR X r)(h':SlR X r'):SlR X (λx lo hi H Q=>r x lo hi H Q\/r' x lo hi H Q):=by
 intro pins s σ H x v vl vu lo hi sl Q I rx hs pl pu q
 rcases q with q|q
 . exact h pins s σ H x v vl vu lo hi sl Q I rx hs pl pu q
 . exact h' pins s σ H x v vl vu lo hi sl Q I rx hs pl pu q
noncomputable def tSl(r:V->Option Int->Option Int->Hp->VK->Prop)(te:TE)(tl th:TO):TE:=λσ H Q=>te σ H λx H1=>tl σ H1 λl H2=>th σ H2 λu H3=>r x l u H3 Q
theorem zZ{r:V->Option Int->Option Int->Hp->VK->Prop}(hr:SlR X r)(he:PE X e te)(hl:PO X lo tl)(hu:PO X hi th):PE X (.Subscript e (.Slice lo hi none p2) pos) (tSl r te tl th):=by
 intro pins s σ H Q I h
 refine Subscript_ (thn (he pins s σ H _ I h) λv s1 ⟨x,H1,I1,r1,q1⟩=>?_)
 refine wpAny_Slice (thn (hl pins s1 σ H1 _ I1 q1) λvl s2 ⟨l,H2,I2,pl,q2⟩=>thn (hu pins s2 σ H2 _ I2 q2) λvu s3 ⟨u,H3,I3,pu,q3⟩=>?_)
 rw[evalPart_none]
 refine wpAny_pure ?_
 have I4:Inv X pins σ H3 { s3 with heap:=s3.heap.push { cls:=.type "slice",data:=.fields #[vl,vu,.none] } }:=I3.kept (t':=s3.toks) λb ob q=>Heap.get?_push_of_some _ q
 obtain⟨T,id,hT,ht,hg⟩:=hr pins { s3 with heap:=s3.heap.push { cls:=.type "slice",data:=.fields #[vl,vu,.none] } } σ H3 x v vl vu l u s3.heap.objs.size Q I4 r1 (Heap.IsSliceOf.new ..) pl pu q3
 show wpAny (model X.prog X.w) X.A (subscriptTail e (.Slice lo hi none p2) v (.ref s3.heap.objs.size)) (EP X pins σ Q) X.xe { s3 with heap:=s3.heap.push { cls:=.type "slice",data:=.fields #[vl,vu,.none] } }
 exact tail_any (ops:=[.ref s3.heap.objs.size,v]) ht hT hg (by with_unfolding_all rfl)
noncomputable def rF(xs:List V)(lo hi:Option Int):List V:=(xs.drop (HT.sIx xs.length 0 lo)).take (HT.sIx xs.length xs.length hi-HT.sIx xs.length 0 lo)
theorem jM(xs:List V)(lo hi:Option Int):(rF xs lo hi).length<=xs.length:=by
 unfold rF
 rw[List.length_take,List.length_drop]
 omega
noncomputable def aAa(K:PySem.W.Frag):V->Option Int->Option Int->Hp->VK->Prop:=λx lo hi H Q=>∃a xs,x=.ref a/\SqT K H a xs /\
 ¬ (HT.sIx xs.length 0 lo=0/\HT.sIx xs.length xs.length hi=xs.length)/\∀p,H p=none->Q (.ref p) (upd H p (.tup (rF xs lo hi)))
theorem aEE:SlR X (aAa X.K):=by
 intro pins s σ H x v vl vu lo hi sl Q I rx hs pl pu h
 obtain⟨a,xs,rfl,hx,hw,q⟩:=h
 cases rx
 obtain⟨its,r,ht,hz⟩:=I.tuple hx
 have hlen:its.toArray.size=xs.length:=by rw[List.size_toArray];exact r.length.symm
 refine⟨"tuple",_,PyProof.Rows.slot_tuple_getitem.lookup,ht.typeIs,?_⟩
 refine HT.getItem_tuple_cut ht hs pl pu (by rw[hlen];exact hw) ?_ (by rw[hlen];exact hz)
 rw[hlen]
 refine⟨.ref s.heap.objs.size,_,I.laid (t':=s.toks) (o:=.tup (rF xs lo hi)) (λb ob q=>Heap.get?_push_of_some _ q) (Nat.le_refl _) ?_,rfl,q _ (I.hok.fresh (Nat.le_refl _))⟩
 exact⟨Nat.le_trans (jM xs lo hi) hz,_,(r.drop (HT.sIx xs.length 0 lo)).take (HT.sIx xs.length xs.length hi-HT.sIx xs.length 0 lo),IsTup.new _ _⟩
noncomputable def aJj(K:PySem.W.Frag):R2:=λx y H Q=>∃a b ns ms,x=.ref a/\y=.ref b/\SqT K H a (ns.map V.int)/\SqT K H b (ms.map V.int)/\Q (.bl (HT.lexLt ns ms)) H
theorem aEF(hu:X.A.units<cLine):OpR X (compareOp .Lt) (aJj X.K):=by
 intro pins s σ H x y v u Q I rx ry h
 obtain⟨a,b,ns,ms,rfl,rfl,ha,hb,q⟩:=h
 cases rx
 cases ry
 obtain⟨its,r1,p1,_⟩:=I.tuple ha
 obtain⟨its2,r2,p2,_⟩:=I.tuple hb
 have i1:IntsAre its.toArray.toList ns:=eG r1
 have i2:IntsAre its2.toArray.toList ms:=eG r2
 exact HT.lt_tupInts p1 p2 i1 i2 hu ⟨.bl (HT.lexLt ns ms),H,I,rfl,q⟩
noncomputable def aGL(K:PySem.W.Frag):R2:=λx y H Q=>∃a b xs ys,x=.ref a/\y=.ref b/\SqT K H a xs/\SqT K H b ys/\xs≠[]/\xs.length+ys.length<=sizeLine /\
 (ys=[]->Q (.ref a) H)/\(ys≠[]->∀p,H p=none->Q (.ref p) (upd H p (.tup (xs++ys))))
theorem aI.nil_iff{xs:List V}{us:List Value}(r:aI xs us):us=[]↔xs=[]:=by
 cases r with
 | nil=>simp
 | cons _ _=>simp
theorem aCl:OpR X (binaryOp .Add) (aGL X.K):=by
 intro pins s σ H x y v u Q I rx ry h
 obtain⟨a,b,xs,ys,rfl,rfl,ha,hb,hx,hz,q1,q2⟩:=h
 cases rx
 cases ry
 obtain⟨its,r1,p1,_⟩:=I.tuple ha
 obtain⟨its2,r2,p2,_⟩:=I.tuple hb
 refine HT.cat_tup p1 p2 (λz=>hx (r1.nil_iff.mp z)) (λz=>⟨.ref a,H,I,rfl,q1 (r2.nil_iff.mp z)⟩) (λz=>?_) (by rw[<-r1.length,<-r2.length];exact hz)
 refine⟨.ref s.heap.objs.size,_,I.laid (t':=s.toks) (o:=.tup (xs++ys)) (λb ob q=>Heap.get?_push_of_some _ q) (Nat.le_refl _) ?_,rfl,q2 (λw=>z (r2.nil_iff.mpr w)) _ (I.hok.fresh (Nat.le_refl _))⟩
 exact⟨by rw[List.length_append];exact hz,_,r1.append r2,IsTup.new _ _⟩
end
end L2
namespace L2
open PySem PySem.Spec PyProof.Rows
noncomputable def ixN(n:Nat)(i:Int):Option Nat:=if 0<=i then (if i<n then some i.toNat else none) else if -(n:Int)<=i then some (i+n).toNat else none
noncomputable def atI{α:Type}(xs:List α)(i:Int):Option α:=(ixN xs.length i).bind λj=>xs[j]?
theorem aCm{n:Nat}{i:Int}{j:Nat}(h:ixN n i=some j):seqIndex? i n=some j/\j<n/\-(n:Int)<=i/\i<n:=by
 unfold ixN at h
 by_cases h0:0<=i
 . rw[if_pos h0] at h
   by_cases h1:i<n
   . rw[if_pos h1] at h
     have e:i.toNat=j:=Option.some.inj h
     exact⟨by rw[seqIndex_of h0 h1,e],by omega,by omega,h1⟩
   . rw[if_neg h1] at h;cases h
 . rw[if_neg h0] at h
   by_cases h1:-(n:Int)<=i
   . rw[if_pos h1] at h
     have e:(i+n).toNat=j:=Option.some.inj h
     exact⟨by rw[seqIndex_neg (by omega) h1,e],by omega,h1,by omega⟩
   . rw[if_neg h1] at h;cases h
theorem pE{α:Type}{xs:List α}{i:Int}{v:α}(h:atI xs i=some v):∃j,seqIndex? i xs.length=some j/\xs[j]? = some v/\j<xs.length/\-(xs.length:Int)<=i/\i<xs.length:=by
 unfold atI at h
 cases e:ixN xs.length i with
 | none=>rw[e] at h;cases h
 | some j=>
  rw[e] at h
  obtain⟨h1,h2,h3,h4⟩:=aCm e
  exact⟨j,h1,h,h2,h3,h4⟩
noncomputable def vH(b:Expr):Prop:=∀o i,subscripted b false o i=operate [o,i] (getItem o i)
noncomputable def IxR(X:Cx)(r:R2):Prop:=
 ∀(value slice:Expr) (pins:List (Addr×Obj)) (s:Shared) (σ:St) (H:Hp) (x y:V) (v u:Value) (Q:VK),Inv X pins σ H s->aR x v->aR y u->r x y H Q ->
  subscripted slice false v u=operate [v,u] (getItem v u)->wpAny (model X.prog X.w) X.A (subscriptTail value slice v u) (EP X pins σ Q) X.xe s
noncomputable def MtR(X:Cx)(id:String)(r:V->List V->Hp->VK->Prop):Prop:=
 ∀(pins:List (Addr×Obj)) (s:Shared) (σ:St) (H:Hp) (x:V) (xs:List V) (v:Value) (us:List Value) (Q:VK),Inv X pins σ H s->aR x v->aI xs us->r x xs H Q ->
  wpAny (model X.prog X.w) X.A (call (.builtin id) (v::us)) (EP X pins σ Q) X.xe s
section
variable {X:Cx} {a b:Expr} {ta tb:TE} {pos:Pos}
theorem IxR.or{r r':R2}(h:IxR X r)(h':IxR X r'):IxR X (λx y H Q=>r x y H Q\/r' x y H Q):=by
 intro value slice pins s σ H x y v u Q I rx ry q hs
 rcases q with q|q
 . exact h value slice pins s σ H x y v u Q I rx ry q hs
 . exact h' value slice pins s σ H x y v u Q I rx ry q hs
theorem aGM{r:R2}(hr:IxR X r)(ha:PE X a ta)(hb:PE X b tb)(hs:vH b):PE X (.Subscript a b pos) (tOp r ta tb):=by
 intro pins s σ H Q I h
 exact Subscript_ (aGA ha hb I h λv u s2 x y H2 I2 rx ry q=>hr a b pins s2 σ H2 x y v u Q I2 rx ry q (hs _ _))
noncomputable def aGN(K:PySem.W.Frag):R2:=λx y H Q=>∃p xs i v,x=.ref p/\y=.int i/\SqL K H p xs/\atI xs i=some v/\Q v H
noncomputable def aGO(K:PySem.W.Frag):R2:=λx y H Q=>∃p xs i v,x=.ref p/\y=.int i/\SqT K H p xs/\atI xs i=some v/\Q v H
noncomputable def aGP:R2:=λx y H Q=>∃z i c,x=.str z/\y=.int i/\z.length<=sizeLine/\atI z.cps.toList i=some c/\Q (.str ⟨#[c]⟩) H
theorem aCn:IxR X (aGN X.K):=by
 intro value slice pins s σ H x y v u Q I rx ry h hs
 obtain⟨p,xs,i,z,rfl,rfl,hq,he,q⟩:=h
 cases rx
 obtain⟨t,rfl⟩:=ry
 obtain⟨its,r,pl,hz⟩:=I.list hq
 obtain⟨j,h1,h2,h3,h4,h5⟩:=pE he
 obtain⟨w,ew,rw'⟩:=r.get h2
 have hl:=r.length
 have hn:=iS
 have fin:EP X pins σ Q w s:=⟨z,H,I,rw',q⟩
 by_cases h0:0<=i
 . have hj:i.toNat=j:=by
    rw[seqIndex_of h0 h5] at h1
    exact Option.some.inj h1
   exact item_listR pl.isList h0 (by omega) (by rw[hj];simpa using ew) fin hs
 . have hj:(i+(its.toArray.size:Int)).toNat=j:=by
    rw[seqIndex_neg (by omega) h4] at h1
    rw[List.size_toArray,<-hl]
    exact Option.some.inj h1
   exact subscriptTail_builtinR (x:=w) pl.isList.typeIs slot_list_getitem.lookup
    (wpAny_getItem_list_neg (Q:=λr s'=>r=w/\EP X pins σ Q r s') pl.isList (by omega) (by rw[List.size_toArray] <;> omega) (by omega) (by rw[hj];simpa using ew) ⟨rfl,fin⟩) hs
theorem aEG:IxR X (aGO X.K):=by
 intro value slice pins s σ H x y v u Q I rx ry h hs
 obtain⟨p,xs,i,z,rfl,rfl,hq,he,q⟩:=h
 cases rx
 obtain⟨t,rfl⟩:=ry
 obtain⟨its,r,pl,hz⟩:=I.tuple hq
 obtain⟨j,h1,h2,h3,h4,h5⟩:=pE he
 obtain⟨w,ew,rw'⟩:=r.get h2
 have hl:=r.length
 have hn:=iS
 have fin:EP X pins σ Q w s:=⟨z,H,I,rw',q⟩
 exact subscriptTail_builtinR (x:=w) pl.typeIs slot_tuple_getitem.lookup
  (getItem_tuple (j:=j) (Q:=λr s'=>r=w/\EP X pins σ Q r s') pl (by omega) (by omega) (by rw[List.size_toArray,<-hl];exact h1) (by simpa using ew) ⟨rfl,fin⟩) hs
theorem aEH:IxR X aGP:=by
 intro value slice pins s σ H x y v u Q I rx ry h hs
 obtain⟨z,i,c,rfl,rfl,hz,he,q⟩:=h
 obtain⟨t,rfl⟩:=rx
 obtain⟨t',rfl⟩:=ry
 obtain⟨j,h1,h2,h3,h4,h5⟩:=pE he
 have hl:z.cps.toList.length=z.length:=by simp[Str.length]
 rw[hl] at h1 h4 h5
 have hn:=iS
 exact tail_any (typeIs_str s z t) slot_str_getitem.lookup (getItem_str (c:=c) (by
  have e1:decide (i < -(2 ^ 63:Int))=false:=decide_eq_false (by omega)
  have e2:decide (i ≥ 2 ^ 63)=false:=decide_eq_false (by omega)
  rw[e1,e2,Bool.or_false]) (by rw[h1];simpa using h2) ⟨.str ⟨#[c]⟩,H,I.tok _,⟨_,rfl⟩,q⟩) hs
noncomputable def rIx(K:PySem.W.Frag):R2:=λx y H Q=>aGN K x y H Q\/aGO K x y H Q\/aGP x y H Q
theorem aEI:IxR X (rIx X.K):=aCn.or (aEG.or aEH)
theorem Inv.lst{pins:List (Addr×Obj)}{σ:St}{H:Hp}{s:Shared}{p:Addr}{xs:List V}(I:Inv X pins σ H s)(h:H p=some (.lst xs)) :
 ∃(its:List Value) (n:Nat),aI xs its/\s.heap.get? p=some { cls:=.type "list",data:=.seq its.toArray n }/\xs.length<=sizeLine:=by
 obtain⟨z,its,n,r,e⟩:=I.hok p _ h
 exact⟨its,n,r,e,z⟩
theorem pF(lo hi:Option Int)(n:Nat):(sliceBounds lo hi none n).1=((HT.sIx n 0 lo:Nat):Int)/\(sliceBounds lo hi none n).2.1=((HT.sIx n n hi:Nat):Int)/\(sliceBounds lo hi none n).2.2=1:=by
 refine⟨?_,?_,rfl⟩
 . cases lo with
   | none=>simp[sliceBounds,HT.sIx]
   | some i=>
    simp only[sliceBounds,HT.sIx,Option.getD_none,show(1:Int)>0 by decide,if_true]
    by_cases h:i<0
    . simp only[h,if_true] <;> omega
    . simp only[h,if_false] <;> omega
 . cases hi with
   | none=>simp[sliceBounds,HT.sIx]
   | some i=>
    simp only[sliceBounds,HT.sIx,Option.getD_none,show(1:Int)>0 by decide,if_true]
    by_cases h:i<0
    . simp only[h,if_true] <;> omega
    . simp only[h,if_false] <;> omega
theorem nB(its:List Value)(lo hi:Option Int):slicePick its.toArray lo hi none=((its.drop (HT.sIx its.length 0 lo)).take (HT.sIx its.length its.length hi-HT.sIx its.length 0 lo)).toArray:=by
 obtain⟨h1,h2,h3⟩:=pF lo hi its.toArray.size
 unfold slicePick
 rw[h1,h2,h3]
 simp only[sliceRange_one,pick_run,List.size_toArray] <;> rfl
noncomputable def aAb(K:PySem.W.Frag):V->Option Int->Option Int->Hp->VK->Prop:=λx lo hi H Q=>∃a xs,x=.ref a/\SqL K H a xs/\∀p,H p=none->Q (.ref p) (upd H p (.lst (rF xs lo hi)))
theorem aCo:SlR X (aAb X.K):=by
 intro pins s σ H x v vl vu lo hi sl Q I rx hs pl pu h
 obtain⟨a,xs,rfl,hx,q⟩:=h
 cases rx
 obtain⟨its,r,ht,hz⟩:=I.list hx
 have hlen:=r.length
 refine⟨"list",_,slot_list_getitem.lookup,ht.isList.typeIs,?_⟩
 refine wpAny_getItem_list_slice ht.isList hs pl pu .none (by simp) ?_ (by rw[List.size_toArray] <;> omega)
 rw[nB,<-hlen]
 refine⟨.ref s.heap.objs.size,_,I.laid (t':=s.toks) (o:=.lst (rF xs lo hi)) (λb ob q=>Heap.get?_push_of_some _ q) (Nat.le_refl _) ?_,rfl,q _ (I.hok.fresh (Nat.le_refl _))⟩
 exact⟨Nat.le_trans (jM xs lo hi) hz,_,0,(r.drop (HT.sIx xs.length 0 lo)).take (HT.sIx xs.length xs.length hi-HT.sIx xs.length 0 lo),Heap.get?_push_size _ rfl⟩
theorem pG:OpR X (compareOp .NotIn) (λx y H Q=>∃i j,x=.str i/\y=.str j/\Q (.bl (!(!(Builtin.Str.occurrences j i 0 j.length 1).isEmpty))) H):=by
 intro pins s σ H x y v u Q I rx ry h
 obtain⟨i,j,rfl,rfl,q⟩:=h
 obtain⟨t,rfl⟩:=rx
 obtain⟨t',rfl⟩:=ry
 exact notIn_str ⟨.bl _,H,I,rfl,q⟩
theorem pH:gG X (.builtin "len") (λxs H Q=>∃p ys,xs=[.ref p]/\(SqL X.K H p ys\/SqT X.K H p ys)/\Q (.int ys.length) H):=by
 intro pins s σ H xs us Q I r h
 obtain⟨p,ys,rfl,hq,q⟩:=h
 obtain⟨u,rfl,rx⟩:=zT r
 cases rx
 have hn:=iS
 rcases hq with hq|hq
 . obtain⟨its,r',pl,hz⟩:=I.list hq
   have hlen:=r'.length
   exact Calls.call_len_list pl.isList (by simp only[List.size_toArray] <;> omega) ⟨.int ys.length,H,I.tok _,⟨s.toks+1,by rw[List.size_toArray,hlen]⟩,q⟩
 . obtain⟨its,r',pl,hz⟩:=I.tuple hq
   have hlen:=r'.length
   exact len_tuple pl (by simp only[List.size_toArray] <;> omega) ⟨.int ys.length,H,I.tok _,⟨s.toks+1,by rw[List.size_toArray,hlen]⟩,q⟩
theorem pI:gG X (.builtin "len") (λxs H Q=>∃z,xs=[.str z]/\z.length<=sizeLine/\Q (.int z.length) H):=by
 intro pins s σ H xs us Q I r h
 obtain⟨z,rfl,hz,q⟩:=h
 obtain⟨u,rfl,t,rfl⟩:=zT r
 have hn:=iS
 exact len_str (by omega) ⟨.int z.length,H,I.tok _,⟨_,rfl⟩,q⟩
theorem gG.or{f:Value}{r r':List V->Hp->VK->Prop}(h:gG X f r)(h':gG X f r'):gG X f (λxs H Q=>r xs H Q\/r' xs H Q):=by
 intro pins s σ H xs us Q I rs q
 rcases q with q|q
 . exact h pins s σ H xs us Q I rs q
 . exact h' pins s σ H xs us Q I rs q
theorem pJ:gG X (.type "list") (λxs H Q=>∃p ys,xs=[.ref p]/\(SqL X.K H p ys\/SqT X.K H p ys)/\∀l,H l=none->Q (.ref l) (upd H l (.lst ys))):=by
 intro pins s σ H xs us Q I r h
 obtain⟨p,ys,rfl,hq,q⟩:=h
 obtain⟨u,rfl,rx⟩:=zT r
 cases rx
 have fin:∀(its:List Value),aI ys its->ys.length<=sizeLine->∀(h':Heap) (c':Nat),(∀b o',s.heap.get? b=some o'->h'.get? b=some o') ->
  h'.get? s.heap.objs.size=some { cls:=.type "list",dict:=none,data:=.seq its.toArray c',slots:=#[] }->EP X pins σ Q (.ref s.heap.objs.size) { s with heap:=h' }:=λits r' hz h' c' kp e=>
  ⟨.ref s.heap.objs.size,_,I.laid (t':=s.toks) kp (Nat.le_refl _) (show cO X.prog X.w _ h' _ (.lst ys) from⟨hz,its,c',r',e⟩),rfl,q _ (I.hok.fresh (Nat.le_refl _))⟩
 rcases hq with hq|hq
 . obtain⟨its,r',pl,hz⟩:=I.list hq
   have hlen:=r'.length
   obtain⟨o,ho,hc,n,hd⟩:=pl.isList
   exact call_list_seq p (.inl rfl) ho hc hd (λh' c' kp e=>fin its r' hz h' c' kp e) (by simp only[List.size_toArray] <;> omega)
 . obtain⟨its,r',pl,hz⟩:=I.tuple hq
   have hlen:=r'.length
   obtain⟨o,ho,hc,n,hd⟩:=pl
   exact call_list_seq p (.inr rfl) ho hc hd (λh' c' kp e=>fin its r' hz h' c' kp e) (by simp only[List.size_toArray] <;> omega)
noncomputable def tyV(K:PySem.W.Frag)(T:String)(x:V)(H:Hp):Prop:=match x with
 | .str _=>T = "str"
 | .int _=>T = "int"
 | .ref p=>(T = "list" /\ ∃xs,SqL K H p xs)\/(T = "tuple" /\ ∃o,K.lookup p=some o/\o.cls=.type "tuple" /\ o.dict=none) \/
  (T = "dict" /\ ((∃kvs,H p=some (.dK kvs))\/∃kvs,H p=some (.dT kvs)))\/(T = "set" /\ ∃S n,H p=some (.set S n))
 | _=>False
theorem aAc{pins:List (Addr×Obj)}{σ:St}{H:Hp}{s:Shared}{T:String}{x:V}{v:Value}(I:Inv X pins σ H s)(r:aR x v)(ty:tyV X.K T x H) :
 s.TypeIs v T/\∀a,v=.ref a->∃ob,s.heap.get? a=some ob/\ob.dict=none:=by
 cases x with
 | str z=>
  obtain⟨t,rfl⟩:=r
  cases(show T = "str" from ty)
  exact⟨typeIs_str s z t,λ_ e=>nomatch e⟩
 | int i=>
  obtain⟨t,rfl⟩:=r
  cases(show T = "int" from ty)
  exact⟨typeIs_int s i t,λ_ e=>nomatch e⟩
 | ref p=>
  cases r
  rcases ty with⟨rfl,xs,hq⟩|⟨rfl,o,hk,hc,hd⟩|⟨rfl,hk⟩|⟨rfl,S,n,hk⟩
  . obtain⟨its,_,pl,_⟩:=I.list hq
    refine⟨pl.isList.typeIs,λa e=>?_⟩
    cases e
    obtain⟨o,n,e,c,hd,_⟩:=pl
    exact⟨o,e,hd⟩
  . refine⟨⟨o,I.kIn p o hk,hc⟩,λa e=>?_⟩
    cases e
    exact⟨o,I.kIn _ o hk,hd⟩
  . have z:∃o,s.heap.get? p=some o/\o.ExactDict:=by
     rcases hk with⟨kvs,hk⟩|⟨kvs,hk⟩
     . obtain⟨_,_,_,_,o,_,_,e,ex,_⟩:=I.hok p _ hk
       exact⟨o,e,ex⟩
     . obtain⟨_,_,_,_,o,_,_,e,ex,_⟩:=I.hok p _ hk
       exact⟨o,e,ex⟩
    obtain⟨o,e,ex⟩:=z
    refine⟨⟨o,e,ex.1⟩,λa e2=>?_⟩
    cases e2
    exact⟨o,e,ex.2.1⟩
  . obtain⟨o,_,_,_,e,ex,_⟩:=I.hok p _ hk
    refine⟨⟨o,e,ex.1⟩,λa e2=>?_⟩
    cases e2
    exact⟨o,e,ex.2.1⟩
 | _=>exact False.elim ty
noncomputable def aJk(K:PySem.W.Frag)(T:String)(r:V->List V->Hp->VK->Prop)(to:TE):TE:=λσ H Q=>to σ H λx H1=>tyV K T x H1/\r x [] H1 Q
noncomputable def tBM(K:PySem.W.Frag)(T:String)(r:V->List V->Hp->VK->Prop)(to:TE)(t:TA):TE:=λσ H Q=>to σ H λx H1=>tyV K T x H1/\t σ H1 λxs H2=>r x xs H2 Q
variable {o e:Expr} {es:List Expr} {to:TE} {t:TA} {name:Str} {apos cpos:Pos} {T id:String} {r:V->List V->Hp->VK->Prop}
theorem aAd(pa:PlainAttrs T)(slot:Slot T name id)(hty:typeOf (.builtin id)=pure (.type "method_descriptor"))(hm:MtR X id r)(ho:PE X o to)
 (hbase:attributeBase o name X.env (eval o X.env)=eval o X.env:=by rfl) (hline:(apos.endLine==cpos.line)=true:=by rfl):PE X (.Call (.Attribute o name apos) [] [] cpos) (aJk X.K T r to):=by
 intro pins s σ H Q I h
 refine wpAny_Call_method0_late hbase hline (thn (ho pins s σ H _ I h) λv s1 ⟨x,H1,I1,r1,ty,q1⟩=>?_)
 obtain⟨h1,h2⟩:=aAc I1 r1 ty
 exact⟨T,id,pa,slot,hty,h1,h2,Calls.callWith_builtin rfl (PySem.evalArgs_none (hm pins s1 σ H1 x [] v [] Q I1 r1 .nil q1))⟩
theorem aDC(pa:PlainAttrs T)(slot:Slot T name id)(hty:typeOf (.builtin id)=pure (.type "method_descriptor"))(hm:MtR X id r)(ho:PE X o to)(ha:PA X (e::es) t)
 (hbase:attributeBase o name X.env (eval o X.env)=eval o X.env:=by rfl)
 (hfew:((backTo cpos (starEach (e::es) X.env)).all (λx=>!x.1)&&(backToKw cpos (keywordEach [] X.env)).all (λx=>x.1.isSome)
  && decide ((e::es).length+([]:List Keyword).length+(if ([]:List Keyword).isEmpty then 0 else 1)<30))=true:=by rfl)
 (hline:(apos.endLine==cpos.line)=true:=by rfl) (hs:starEach (e::es) X.env=(false,eval e X.env)::starEach es X.env:=by rfl) (hplain:(backTo cpos (starEach es X.env)).any (·.1)=false:=by rfl) :
 PE X (.Call (.Attribute o name apos) (e::es) [] cpos) (tBM X.K T r to t):=by
 intro pins s σ H Q I h
 refine wpAny_Call_method_late hbase hfew hline rfl (thn (ho pins s σ H _ I h) λv s1 ⟨x,H1,I1,r1,ty,q1⟩=>?_)
 obtain⟨h1,h2⟩:=aAc I1 r1 ty
 refine⟨T,id,pa,slot,hty,h1,h2,?_⟩
 have hA:=ha cpos pins s1 σ H1 _ I1 q1
 rw[hs] at hA ⊢
 refine Calls.callWith_builtin (by show(false||(backTo cpos (starEach es X.env)).any (·.1))=false;rw[hplain] <;> rfl) (Calls.evalArgs_plain ?_)
 exact thn hA λus s2 ⟨vs,H2,I2,r2,q2⟩=>hm pins s2 σ H2 x vs v us Q I2 r1 r2 q2
end
end L2
namespace L2
open PySem PySem.Spec PyProof.Rows
noncomputable def MtM(X:Cx)(id:String)(r:V->List V->Hp->VK->Prop):Prop:=
 ∀(pins:List (Addr×Obj)) (s:Shared) (σ:St) (H:Hp) (x:V) (xs:List V) (v:Value) (us:List Value) (Q:VK),Inv X pins σ H s->aR x v->aI xs us->r x xs H Q ->
  wpAny (model X.prog X.w) X.A (call (.builtin id) (v::us)) (EP X pins σ Q) X.xe s
theorem aI.one:∀{x:V} {us:List Value},aI [x] us->∃u,us=[u]/\aR x u:=by
 intro x us h
 cases h with|cons r t=>cases t;exact⟨_,rfl,r⟩
theorem aI.zero:∀{us:List Value},aI [] us->us=[]
 | _,.nil=>rfl
theorem aI.dropLast{xs:List V}{us:List Value}(h:aI xs us):aI xs.dropLast us.dropLast:=by
 induction h with
 | nil=>exact .nil
 | cons r t ih=>
  cases t with
  | nil=>exact .nil
  | cons q t'=>exact .cons r ih
theorem aI.eraseIdx:∀{xs:List V} {us:List Value} (i:Nat),aI xs us->aI (xs.eraseIdx i) (us.eraseIdx i)
 | _,_,_,.nil=>.nil
 | _,_,0,.cons _ t=>t
 | _,_,i+1,.cons r t=>.cons r (aI.eraseIdx i t)
theorem aI.reverse{xs:List V}{us:List Value}(h:aI xs us):aI xs.reverse us.reverse:=by
 induction h with
 | nil=>exact .nil
 | cons r t ih=>rw[List.reverse_cons,List.reverse_cons];exact aI.append ih (.cons r .nil)
theorem aI.rep{xs:List V}{us:List Value}(h:aI xs us):∀k:Nat,aI (List.replicate k xs).flatten (List.replicate k us).flatten
 | 0=>.nil
 | k+1=>by
  rw[List.replicate_succ,List.replicate_succ,List.flatten_cons,List.flatten_cons]
  exact aI.append h (aI.rep h k)
theorem kP{α:Type}(l:List α):l.eraseIdx (l.length-1)=l.dropLast:=by
 induction l with
 | nil=>rfl
 | cons a r ih=>
  cases r with
  | nil=>rfl
  | cons b r=>
   have e:(a::b::r).length-1=((b::r).length-1)+1:=by
    have h1:(a::b::r).length=r.length+2:=rfl
    have h2:(b::r).length=r.length+1:=rfl
    omega
   rw[e,List.eraseIdx_cons_succ,ih]
   all_goals rfl
theorem iU(its:List Value):∀(k:Nat) (acc:List Value),
 List.foldl (λx1 x2=>x1++x2) acc.toArray (List.replicate k its.toArray)=(acc++(List.replicate k its).flatten).toArray
 | 0,acc=>by simp
 | k+1,acc=>by
  have e:acc.toArray++its.toArray=(acc++its).toArray:=by simp
  have e2:(acc++its)++(List.replicate k its).flatten=acc++(List.replicate (k+1) its).flatten:=by
   rw[List.replicate_succ,List.flatten_cons,List.append_assoc]
  rw[<-e2,<-iU its k (acc++its),<-e,List.replicate_succ,List.foldl_cons]
section
variable {X:Cx} {pins:List (Addr×Obj)} {σ:St} {H:Hp} {s:Shared} {l b:Addr} {xs ys zs:List V}
theorem Inv.lset{its its':List Value}{n:Nat}{f:Array Value->Array Value}{t':Nat}(I:Inv X pins σ H s)(hH:H l=some (.lst xs))
 (e:s.heap.get? l=some { cls:=.type "list",data:=.seq its.toArray n }) (hf:f its.toArray=its'.toArray) (hv:aI ys its') (hz:ys.length<=sizeLine) :
 Inv X pins σ (upd H l (.lst ys)) { s with heap:=s.heap.update l (Obj.mapSeq f),toks:=t' }:=by
 have q:=PySem.IsL.update e f
 rw[hf] at q
 refine I.write (x:=l) (e:=l) (by rw[hH];exact trivial) (.inl rfl) (λb' u hb hu=>(Heap.get?_update_other s.heap (Obj.mapSeq f) (Ne.symm hb)).trans hu) ⟨_,q⟩ ?_
 exact⟨hz,its',_,hv,q⟩
theorem Inv.lnew{its:List Value}{t':Nat}(I:Inv X pins σ H s)(hv:aI ys its)(hz:ys.length<=sizeLine) :
 Inv X pins σ (upd H s.heap.objs.size (.lst ys)) { s with heap:=s.heap.push { cls:=.type "list",data:=.seq its.toArray },toks:=t' }:=
 I.laid (λ_ _ q=>Heap.get?_push_of_some _ q) (Nat.le_refl _) ⟨hz,its,0,hv,Heap.get?_push_size _ rfl⟩
theorem Inv.fresh(I:Inv X pins σ H s):H s.heap.objs.size=none:=I.hok.fresh (Nat.le_refl _)
theorem Inv.lstM(I:Inv X pins σ H s)(hH:H l=some (.lst xs)):xs.length<=sizeLine/\∃(its:List Value) (n:Nat),aI xs its/\xs.length=its.length/\s.heap.get? l=some { cls:=.type "list",data:=.seq its.toArray n }:=by
 obtain⟨z,its,n,r,e⟩:=I.hok l _ hH
 exact⟨z,its,n,r,r.length,e⟩
theorem rG{n:Nat}(h:n<=sizeLine):Builtin.List.listTooLong n=false:=by
 unfold Builtin.List.listTooLong
 exact decide_eq_false (by omega)
end
section
variable {X:Cx}
noncomputable def aCp:V->List V->Hp->VK->Prop:=λx vs H Q=>∃l xs y,x=.ref l/\vs=[y]/\H l=some (.lst xs)/\xs.length<sizeLine/\Q .non (upd H l (.lst (xs++[y])))
theorem xZ:MtM X "list.append" aCp:=by
 intro pins s σ H x vs v us Q I rx rv h
 obtain⟨l,xs,y,rfl,rfl,hH,hz,q⟩:=h
 cases rx
 obtain⟨u,rfl,ru⟩:=rv.one
 obtain⟨z,its,n,r,hl,e⟩:=I.lstM hH
 refine call_meets F.slot_list_append ⟨_,e,rfl⟩ F.entry_list_append (F.args_list_append_2 _ _) (PySem.list_append l its.toArray n u (by rw[List.size_toArray];omega)) ⟨e,?_⟩
 refine⟨.non,_,I.lset (its':=its++[u]) hH e (by simp) (r.append (.cons ru .nil)) ?_,rfl,q⟩
 rw[List.length_append,List.length_singleton]
 omega
noncomputable def aCq:V->List V->Hp->VK->Prop:=λx vs H Q=>∃l b xs zs,x=.ref l/\vs=[.ref b]/\H l=some (.lst xs)/\H b=some (.lst zs)/\xs.length+zs.length<=sizeLine/\Q .non (upd H l (.lst (xs++zs)))
theorem yA:MtM X "list.extend" aCq:=by
 intro pins s σ H x vs v us Q I rx rv h
 obtain⟨l,b,xs,zs,rfl,rfl,hH,hB,hz,q⟩:=h
 cases rx
 obtain⟨u,rfl,ru⟩:=rv.one
 cases ru
 obtain⟨z,its,n,r,hl,e⟩:=I.lstM hH
 obtain⟨z2,its2,n2,r2,hl2,e2⟩:=I.lstM hB
 have hsz:its.toArray.size+its2.toArray.size<=sizeLine:=by rw[List.size_toArray,List.size_toArray];omega
 have hlong:¬ (!its.toArray.isEmpty&&Builtin.List.listTooLong (its.toArray.size+its2.toArray.size))=true:=by
  rw[rG hsz,Bool.and_false]
  exact Bool.false_ne_true
 refine call_meets F.slot_list_extend ⟨_,e,rfl⟩ F.entry_list_extend (F.args_list_extend_2 _ _)
  (AutoSeq1.list_extend_list_list_0 l its.toArray n b its2.toArray n2 hlong (by rw[List.size_toArray];omega) (by omega)) ⟨e,e2,?_⟩
 refine⟨.non,_,I.lset (its':=its++its2) hH e (by simp) (r.append r2) ?_,rfl,q⟩
 rw[List.length_append]
 omega
noncomputable def aJl:V->List V->Hp->VK->Prop:=λx vs H Q=>∃l xs y,x=.ref l/\vs=[]/\H l=some (.lst xs)/\xs[xs.length-1]? = some y/\Q y (upd H l (.lst xs.dropLast))
theorem aEJ:MtM X "list.pop" aJl:=by
 intro pins s σ H x vs v us Q I rx rv h
 obtain⟨l,xs,y,rfl,rfl,hH,hy,q⟩:=h
 cases rx
 have hus:=rv.zero
 subst hus
 obtain⟨z,its,n,r,hl,e⟩:=I.lstM hH
 obtain⟨u,hu,ru⟩:=r.get hy
 have hy':its.toArray[its.toArray.size-1]? = some u:=by
  show its.toArray[its.length-1]? = some u
  rw[<-Array.getElem?_toList,<-hl]
  exact hu
 refine call_meets F.slot_list_pop ⟨_,e,rfl⟩ F.entry_list_pop (F.args_list_pop_1 _) (MeetsSeq.list_pop_last l its.toArray n u hy' (by rw[List.size_toArray];omega)) ⟨e,?_⟩
 refine⟨y,_,I.lset (its':=its.dropLast) hH e ?_ r.dropLast ?_,ru,q⟩
 . show its.toArray.eraseIdxIfInBounds (its.toArray.size-1)=its.dropLast.toArray
   rw[List.size_toArray,List.eraseIdxIfInBounds_toArray,kP]
 . rw[List.length_dropLast]
   omega
noncomputable def aAe:V->List V->Hp->VK->Prop:=λx vs H Q=>∃l xs,x=.ref l/\vs=[]/\H l=some (.lst xs)/\Q .non (upd H l (.lst xs.reverse))
theorem tZ:MtM X "list.reverse" aAe:=by
 intro pins s σ H x vs v us Q I rx rv h
 obtain⟨l,xs,rfl,rfl,hH,q⟩:=h
 cases rx
 have hus:=rv.zero
 subst hus
 obtain⟨z,its,n,r,hl,e⟩:=I.lstM hH
 refine call_meets F.slot_list_reverse ⟨_,e,rfl⟩ F.entry_list_reverse (F.args_list_reverse_1 _) (AutoSeq1.list_reverse_list_0 l its.toArray n (by rw[List.size_toArray];omega)) ⟨e,?_⟩
 refine⟨.non,_,I.lset (its':=its.reverse) hH e (by simp) r.reverse ?_,rfl,q⟩
 rw[List.length_reverse]
 omega
noncomputable def aJm:R2:=λx y H Q=>∃l k xs,x=.ref l/\y=.int k/\H l=some (.lst xs)/\-(2 ^ 63)<=k/\k<2 ^ 63/\xs.length*k.toNat<=sizeLine /\
 ∀p,H p=none->Q (.ref p) (upd H p (.lst (List.replicate k.toNat xs).flatten))
theorem pK{α:Type}(xs:List α)(k:Nat):(List.replicate k xs).flatten.length=k*xs.length:=by
 induction k with
 | zero=>simp
 | succ k ih=>rw[List.replicate_succ,List.flatten_cons,List.length_append,ih,Nat.succ_mul,Nat.add_comm]
theorem aEK:OpR X (binaryOp .Mult) aJm:=by
 intro pins s σ H x y v u Q I rx ry h
 obtain⟨l,k,xs,rfl,rfl,hH,h1,h2,hz,q⟩:=h
 cases rx
 obtain⟨t,rfl⟩:=ry
 obtain⟨z,its,n,r,hl,e⟩:=I.lstM hH
 have hlen:its.toArray.size*k.toNat<=sizeLine:=by rw[List.size_toArray,<-hl];exact hz
 have hcap:¬ its.toArray.size*k.toNat>(2 ^ 63-1) / 8:=by
  have:(sizeLine:Nat)<=(2 ^ 63-1) / 8:=by decide
  omega
 have hfit:¬ (!Builtin.List.listFitsIndex k)=true:=by
  rw[fitsIndex_both h1 h2]
  exact Bool.false_ne_true
 have hlong:¬ Builtin.List.listTooLong (its.toArray.size*k.toNat)=true:=by
  rw[rG hlen]
  exact Bool.false_ne_true
 have hnew:List.foldl (λx1 x2=>x1++x2) #[] (List.replicate (if its.toArray.isEmpty=true then 0 else k.toNat) its.toArray)=(List.replicate k.toNat its).flatten.toArray:=by
  have f0:∀m:Nat,List.foldl (λx1 x2=>x1++x2) #[] (List.replicate m its.toArray)=(List.replicate m its).flatten.toArray:=λm=>by
   have:=iU its m []
   rw[List.nil_append] at this
   exact this
  rw[f0]
  cases its with
  | nil=>simp
  | cons a r'=>rw[if_neg (by simp)]
 refine wpAny_binaryOp_repeat_ref (T:= "list") (U:= "int") (by decide) ⟨_,e,rfl⟩ (λs'=>typeIs_int s' k t) noFill_list_mul F.fills_int_mul F.slot_int_rmul repeat_list F.slot_int_index.lookup
  (call_meets F.slot_int_rmul (typeIs_int s k t) F.entry_int_rmul (F.args_int_rmul_2 _ _) (int___rmul___int_list k t l its.toArray n)
   ⟨e,rfl,⟨_,e,rfl⟩,call_meets F.slot_list_mul ⟨_,e,rfl⟩ F.entry_list_mul (F.args_list_mul_2 _ _) (AutoListH.list___mul___list_int_3 l its.toArray n k t hfit hcap hlong) ⟨e,?_⟩⟩)
 rw[hnew]
 exact⟨.ref _,_,I.lnew (t':=s.toks) (r.rep k.toNat) (by rw[pK,Nat.mul_comm];exact hz),rfl,q _ I.fresh⟩
end
section
variable {prog:Program} {w:World} {A:Around} {E:Value->Shared->Prop} {s:Shared}
end
section
variable {X:Cx}
end
end L2
namespace Att
open PySem PySem.W PySem.Calls PyProof.Rows
theorem jT{P:Params}{h:Heap}:∀(ns:List Int) (vs:List Value),WellAll P h vs (ns.map WData.int)->IntsAre vs ns:=by
 intro ns
 induction ns with
 | nil=>
  intro vs w
  rw[List.map_nil] at w
  cases w
  exact .nil
 | cons n ns ih=>
  intro vs w
  rw[List.map_cons] at w
  cases w with
  | cons a b=>
   cases a
   exact .cons _ _ (ih _ b)
theorem yB{l:OpenLaw}{n:Nat}(hn:l.most=some n){P:Params}{h:Heap}{args:List WData}{vals:List Value}
 (hpre:l.row.toRowW.claim.pre args=true) (hwl:WellAll P h vals args) :
 ∃a vs ns,vals=[Value.ref a]/\args=[WData.list (ns.map WData.int)]/\h.get? a=some { cls:=.type "list",data:=.seq vs.toArray }/\IntsAre vs ns/\ns.length<=n:=by
 have hsh:WShape.hasAll [] args [.list .int]=true:=(pre_splitW hpre).1
 have hc:l.pre.holds [] { args:=args }=true:=(pre_splitW hpre).2
 obtain⟨d,r,rfl,h1,h2⟩:=hasAllW_cons hsh
 obtain rfl:=hasAllW_nil h2
 obtain⟨xs,rfl,h3⟩:=hasW_list h1
 obtain⟨ns,rfl⟩:=items_int h3
 have hlen:ns.length<=n:=by
  unfold OpenLaw.pre at hc
  have h4:(WTm.not (.lt (.lit (.int (n:Int))) (.len (.arg 0)))).holds [] { args:=[.list (ns.map .int)] }=true:=by
   have h4:=(holds_andW hc).1
   rw[hn] at h4
   exact h4
  have h5:=condW_of h4 (w_not (w_lt w_lit (w_len_list (w_arg rfl))))
  rw[List.length_map] at h5
  refine Nat.le_of_not_lt λq=>?_
  have q':(n:Int)<((ns.length:Nat):Int):=by omega
  first
   | (rw[decide_eq_true q'] at h5;exact absurd h5 (by decide))
   | (simp at h5;omega)
 cases hwl with
 | cons w1 w2=>
  cases w2
  cases w1 with
  | list ho hall=>exact⟨_,_,ns,rfl,rfl,ho,jT ns _ hall,hlen⟩
theorem yC(l:OpenLaw)(args:List WData):l.row.toRowW.claim.post args (.bool true) args=true:=
 postW_of (r:=l.row.toRowW) (X:=(true==true))
  (show WShape.has [] (.bool true) .bool=true by first|rfl|decide|simp[WShape.has,WShape.arms,WShape.armsAll])
  (show(WTm.eq .res (.lit (.bool true))).value [] { args:=args,res:=some (.bool true),after:=args }=some (.bool (true==true)) from w_eq_bool (w_res rfl) w_lit) rfl
theorem attach_call{l:OpenLaw}{n:Nat}{q:Program}{loose:List Str}{XP:(Str->Option Value)->Heap->Prop}{YP:World->Heap->Prop}{d:DefRec}
 (hn:l.most=some n) (hdf:d.params.defaults=[])
 (call:∀(w:World) (s₀ s₁:Shared) (mg mb:Str->Option Value) (fa:Addr) (o:Obj) (pm cd doc:Value) (a:Addr) (vs:List Value) (ns:List Int),
  Ground q loose [] XP w s₀ mg mb s₁.heap->YP w s₁.heap ->
  s₁.heap.get? fa=some o->o.data=.func (docDef d.name d.params d.body d.scope pm cd doc)->s₁.heap.CodeRec cd d.name->mg d.name=some (.ref fa) ->
  s₁.heap.get? a=some { cls:=.type "list",data:=.seq vs.toArray }->IntsAre vs ns->ns.length<=n->s₁.gens=#[] ->
  codeAny (model l.prog w) callerA (.call (.ref fa) ⟨[.ref a],[]⟩) (λr s'=>r=.ok (.ret (.bool true))/\OldK s₁.heap s'.heap/\s'.os=s₁.os/\AllBare s'.gens) s₁) :
 WalkO q loose XP YP l.row.toRowW d [] (λf vs=>PySem.call f vs):=by
 intro w s₀ s₁ mg mb G Y fa o pm cd doc dV kV ho hd hcd hD hmg hg args vals as hpre hlay hrd hwl hlo
 obtain rfl:dV=.none:=Dflts.none hD hdf
 obtain rfl:kV=.none:=Dflts.noKw hD
 obtain⟨a,vs,ns,rfl,rfl,hobj,hints,hlen⟩:=yB hn hpre hwl
 refine enter_call (codeAny_mono (call w s₀ s₁ mg mb fa o pm cd doc a vs ns G Y ho (fd_plain hd) hcd hmg hobj hints hlen hg) λr s' hq=>?_)
 obtain⟨rfl,h2,h3,h4⟩:=hq
 exact⟨.inl ⟨.bool true,.bool true,[],rfl,λ_=>rfl,.bool true,yC l _,λ_=>⟨List.Pairwise.nil,λ_ hm=>(nomatch hm)⟩⟩,h2,h3,h4⟩
section
variable {prog:Program} {w:World} {A:Around} {E:Value->Shared->Prop} {s:Shared} {K:Frag}
end
end Att
namespace L2
open PySem PySem.Spec PyProof.Rows
theorem nP:∀{vs:List Value} {ns:List Int},IntsAre vs ns->aI (ns.map V.int) vs
 | _,_,.nil=>.nil
 | _,_,.cons n t h=>.cons ⟨t,rfl⟩ (nP h)
noncomputable def aCr(H:Hp):Prop:=∀b,H b=none\/∃o xs,H b=some (.frz o (.lst xs))
theorem aAf{P:Program}{w:World}{K:PySem.W.Frag}{mg mb:Str->Option Value}{CX:CXT}{k:Nat}{fa a:Addr}{fd:FuncData}{x:Str}{sp:Sp}{s₁:Shared}{vs:List Value}{ns:List Int}
 (KX:K.In s₁.heap) (hns:s₁.heap.Ns mainGlobals mg) (hb:s₁.heap.Ns builtinsNs mb) (hbb:∀x:Str,x ≠ "__name__" -> mb x=bootBuiltins x) (hlim:s₁.heap.NoLimit) (hg:s₁.gens=#[])
 (ha:s₁.heap.get? a=some { cls:=.type "list",data:=.seq vs.toArray }) (hi:IntsAre vs ns) (hl:ns.length<=sizeLine) (hr:gK k callerA)
 (F:∀base:Heap,K.In base->base.Ns mainGlobals mg->jS P w K mg base CX k fa fd [x] sp) (hbind:∀(s:Shared) (u:Value),BindsTo s fd ⟨[u],[]⟩ [(x,u)])
 (hsp:∀H:Hp,aCr H->SqL K H a (ns.map V.int)->sp [.ref a] H (λv _=>v=.bl true) λ_ _ _=>False)
 (hCX:∀H e s',CX [] H s₁ (λ_ _ _=>False) e s'->False) :
 codeAny (model P w) callerA (.call (.ref fa) ⟨[.ref a],[]⟩) (λr s'=>r=.ok (.ret (.bool true))/\OldK s₁.heap s'.heap/\s'.os=s₁.os/\AllBare s'.gens) s₁:=by
 have rv:=nP hi
 have lenV:=hi.length
 have core:∀H:Hp,aCr H->SqL K H a (ns.map V.int)->HOk P w H s₁.heap->(∀b,H b≠none->b=a)->(H a≠none->K.lookup a=none) ->
  codeAny (model P w) callerA (.call (.ref fa) ⟨[.ref a],[]⟩) (λr s'=>r=.ok (.ret (.bool true))/\OldK s₁.heap s'.heap/\s'.os=s₁.os/\AllBare s'.gens) s₁:=by
  intro H hO hS hok hA hK
  have base_of:∀{b:Addr} {o:Obj},s₁.heap.get? b=some o->H b=none->(oZ s₁.heap H).get? b=some o:=λe n=>zI e n
  have noA:∀{b:Addr} {o:Obj} {es:Array DictEntry} {ep:Nat},s₁.heap.get? b=some o->o.data=.dict es ep->H b=none:=λ{b o es ep} e d=>by
   cases q:H b with
   | none=>rfl
   | some u=>
    have e':b=a:=hA b (by rw[q];simp)
    subst e'
    rw[ha] at e;cases e
    have d':Data.seq vs.toArray _=Data.dict es ep:=d
    cases d'
  have nsK:∀{b:Addr} {m:Str->Option Value},s₁.heap.Ns b m->(oZ s₁.heap H).Ns b m:=λ{b m} ⟨o,es,ep,e,d,r⟩=>⟨o,es,ep,base_of e (noA e d),d,r⟩
  have hKb:K.In (oZ s₁.heap H):=λb o e=>base_of (KX b o e) (by
   cases q:H b with
   | none=>rfl
   | some u=>
    have e':b=a:=hA b (by rw[q];simp)
    subst e'
    rw[hK (by rw[q];simp)] at e;cases e)
  have hM:Mod K mg (oZ s₁.heap H):=⟨hKb,nsK hns,⟨mb,nsK hb,hbb⟩,let ⟨mc,h1,h2⟩:=hlim;⟨mc,nsK h1,h2⟩⟩
  have e0:aCg P w K mg (oZ s₁.heap H) callerA [] s₁ H:=⟨rfl,hM,λb o e=>aBS e,Nat.le_of_eq (xQ _ _),trivial,λb hb=>absurd (show b∈([]:List Addr) from hb) (by simp),hok,.of_eq hg⟩
  refine codeAny_mono ((F _ hKb (nsK hns)).run callerA [] s₁ H ⟨[.ref a],[]⟩ [.ref a] [.ref a] _ _ hr e0 (hbind s₁ (.ref a)) (.cons rfl .nil) (hsp H hO hS)) λr s' h=>?_
  cases r with
  | error e=>exact(hCX H e s' h).elim
  | ok fl=>
   cases fl with
   | next=>exact False.elim h
   | brk=>exact False.elim h
   | cont=>exact False.elim h
   | ret u=>
    obtain⟨v,H',os,bare,un,hok',r',q⟩:=h
    have q':v=.bl true:=q
    subst q'
    obtain rfl:u=Value.bool true:=r'
    refine⟨rfl,OldK.of_keep λb o e=>?_,os,bare⟩
    cases q:H b with
    | none=>exact un.keep b o e q (by intro z;exact absurd (show b∈([]:List Addr) from z) (by simp)) (by simp)
    | some u=>
     rcases hO b with z|⟨ob,xs,z⟩
     . rw[q] at z;cases z
     . have z2:=un.frzs b ob _ z
       obtain⟨e1,_⟩:=hok b _ z
       obtain⟨e2,_⟩:=hok' b _ z2
       rw[e] at e1;cases e1
       exact e2
 cases hk:K.lookup a with
 | some o=>
  have e:=KX a o hk
  rw[ha] at e
  cases e
  refine core (λ_=>none) (λ_=>.inl rfl) (.inr ⟨_,vs.toArray,_,hk,rfl,rfl,rfl,by rw[List.size_toArray,lenV];exact hl,by simpa using rv⟩) (λb u z=>by have z':(none:Option HO)=some u:=z;cases z') (λb z=>absurd rfl z) λz=>absurd rfl z
 | none=>
  refine core (λb=>if b=a then some (.frz { cls:=.type "list",data:=.seq vs.toArray } (.lst (ns.map V.int))) else none) (λb=>?_) (.inl (.inr ⟨{ cls:=.type "list",data:=.seq vs.toArray },if_pos rfl⟩)) (λb u z=>?_) (λb z=>?_) λ_=>hk
  . by_cases hb:b=a
    . exact .inr ⟨_,_,if_pos hb⟩
    . exact .inl (if_neg hb)
  . by_cases hb:b=a
    . have z':=(if_pos hb).symm.trans z
      cases z'
      subst hb
      exact⟨ha,by rw[List.length_map];exact hl,vs,_,rv,ha⟩
    . have z':=(if_neg hb).symm.trans z
      cases z'
  . by_cases hb:b=a
    . exact hb
    . exact absurd (if_neg hb) z
end L2
namespace L2
open PySem PySem.Spec PyProof.Rows
end L2
namespace L2
open PySem PySem.Spec PyProof.Rows
noncomputable def fP(s:Stmt):Arguments:=match s with
 | .FunctionDef _ a _ _ _ _ _ _ _ _=>a
 | _=>{ posonlyargs:=[],args:=[],vararg:=none,kwonlyargs:=[],kw_defaults:=[],kwarg:=none,defaults:=[] }
noncomputable def fQ(s:Stmt):List Stmt:=match s with
 | .FunctionDef _ _ b _ _ _ _ _ _ _=>b
 | _=>[]
noncomputable def aY(s:Stmt):Scope:=match s with
 | .FunctionDef _ _ _ _ _ _ sc _ _ _=>sc
 | _=>{ kind:=.function,names:=[],isGenerator:=false,isCoroutine:=false }
abbrev CX0:CXT:=λ_ _ _ _ _ _=>False
abbrev E0:XK:=λ_ _ _=>False
theorem aDD{X:Cx}:pD CX0 X E0:=λ_ _ _ _ _ _ _ h=>h.elim
structure Fun (K:PySem.W.Frag) (x qual:Str) (st:Stmt) (f:Addr) (fd:FuncData):Prop where
 ex:∃(oc:Value) (od:Option Addr) (kV doc pm:Value) (an:Option Addr) (cdv ct:Value) (osl:Array (Option Value)),
  fd=PySem.W.fnOf x qual (fP st) (fQ st) (aY st) .none kV doc pm an cdv ct/\K.lookup f=some ⟨oc,od,.func fd,osl⟩/\PySem.W.codeIn K cdv qual=true
 kp:PySem.W.keepIn K (.ref f)=true
section
variable {P:Program} {w:World} {K:PySem.W.Frag} {mg:Str->Option Value} {base:Heap}
theorem Fun.ok{x qual:Str}{st:Stmt}{f:Addr}{fd:FuncData}{N ps:List Str}{k:Nat}{sp:Sp}(F:Fun K x qual st f fd)(S:jZ N ps (aY st))(len:∀vs H Q E,sp vs H Q E->vs.length=ps.length)
 (hbody:∀(cdv:Value) (A:Around) (outer:List Env) (s:Shared) (H:Hp) (vs:List V) (Q:VK) (E:XK),gK k (A.deeper (envOfC qual (aY st) s.heap.objs.size f cdv))->sp vs H Q E ->
  ∃t,PSs (tW CX0 P w K mg base N qual (aY st) f cdv A outer s H E).nox (fQ st) t/\t { nx:=λ_ H'=>Q .non H',rt:=Q } (start N vs) H):jS P w K mg base CX0 (k+1) f fd ps sp:=by
 obtain⟨oc,od,kV,doc,pm,an,cdv,ct,osl,rfl,lk,hcd⟩:=F.ex
 refine aGJ lk hcd S len λA outer s H vs Q E hr hsp=>?_
 obtain⟨t,h,q⟩:=hbody cdv A outer s H vs Q E hr hsp
 exact⟨t,h.nox,q⟩
theorem Fun.binds{x qual:Str}{st:Stmt}{f:Addr}{fd:FuncData}{ps:List Str}(F:Fun K x qual st f fd)
 (h:∀(kV doc pm:Value) (an:Option Addr) (cdv ct:Value) (us:List Value),us.length=ps.length->bindArgs (PySem.W.fnOf x qual (fP st) (fQ st) (aY st) .none kV doc pm an cdv ct) ⟨us,[]⟩=pure (ps.zip us)):gH K fd ps []:=by
 obtain⟨oc,od,kV,doc,pm,an,cdv,ct,osl,rfl,lk,hcd⟩:=F.ex
 exact .all (h kV doc pm an cdv ct)
end
section
variable {X:Cx}
end
theorem aGQ{A B:Prop}(h:B):if false=true then A else B:=by
 rw[if_neg Bool.false_ne_true]
 exact h
theorem aJn{A B:Prop}(h:A):if true=true then A else B:=by
 rw[if_pos rfl]
 exact h
noncomputable def aH(H H':Hp):Prop:=∀b o,H b=some o->H' b=some o
theorem aH.refl(H:Hp):aH H H:=λ_ _ h=>h
theorem aH.trans{H H1 H2:Hp}(a:aH H H1)(b:aH H1 H2):aH H H2:=λc o h=>b c o (a c o h)
theorem aH.free{H H':Hp}(e:aH H H'){l:Addr}(h:H' l=Option.none):H l=Option.none:=by
 cases q:H l with
 | none=>rfl
 | some o=>
  rw[e l o q] at h
  cases h
theorem aH.seq{K:PySem.W.Frag}{H H':Hp}{a:Addr}{xs:List V}(e:aH H H')(h:SqL K H a xs):SqL K H' a xs:=by
 rcases h with(h|⟨o,h⟩)|h
 . exact .inl (.inl (e _ _ h))
 . exact .inl (.inr ⟨o,e _ _ h⟩)
 . exact .inr h
end L2
end
noncomputable section
namespace L2
open PySem PySem.Spec PyProof.Rows
section
variable {prog:Program} {w:World} {K:Type} [DecidableEq K] (knd:HeapKind prog w K)
inductive aP (h:Heap):List K->List Value->Prop
 | nil:aP h [] []
 | cons {k:K} {a:Addr} {ks:List K} {vs:List Value}:knd.is h k a->aP h ks vs->aP h (k::ks) (.ref a::vs)
noncomputable def bP(h:Heap)(ks:List K)(a:Addr):Prop:=∃o its n,h.get? a=some o/\o.cls=.type "tuple" /\ o.data=.seq its n/\aP knd h ks its.toList
noncomputable def kQ(ks:List K):Int:=reduceHash (Builtin.Tuple.tupleHashOf (ks.map knd.hash))
noncomputable def iV(ks:List K):Nat:=(ks.map knd.draws).sum+1
variable {knd}
theorem aP.inj{h:Heap}:∀{x y:List K} {vs:List Value},aP knd h x vs->aP knd h y vs->x=y
 | _,_,_,.nil,hy=>by cases hy;rfl
 | _,_,_,.cons h1 t,hy=>by
  cases hy with
  | cons h2 t2=>rw[knd.inj h1 h2,t.inj t2]
theorem aP.keeps{h h':Heap}{d:Addr}{o:Obj}{es ep}(ho:h.get? d=some o)(hd:o.data=.dict es ep)(hs:Heap.SameBut d h h'):∀{x:List K} {vs:List Value},aP knd h x vs->aP knd h' x vs
 | _,_,.nil=>.nil
 | _,_,.cons h1 t=>.cons (knd.keeps h1 ho hd hs) (t.keeps ho hd hs)
theorem bP.typeIs{s:Shared}{ks:List K}{a:Addr}(x:bP knd s.heap ks a):s.TypeIs (.ref a) "tuple" := let ⟨o,_,_,ho,hc,_⟩:=x;⟨o,ho,hc⟩
variable {A:Around} {E:Value->Shared->Prop} {s:Shared}
theorem yD{ks:List K}{a:Addr}{Q:Int->Shared->Prop}(hu:A.units<cLine)(hr:knd.room A.in1)(hk:bP knd s.heap ks a)(h:Q (kQ knd ks) { s with toks:=s.toks+iV knd ks }):wpAny (model prog w) A (pyHash (.ref a)) Q E s:=by
 have T:=hk.typeIs
 obtain⟨o,its,n,ho,_,hd,hi⟩:=hk
 unfold pyHash pyHashByItsType
 refine wpAny_bind (wpAny_cRoomFor_or (.inr hu) (wpAny_bind (wpAny_specialOf T F.slot_tuple_hash.lookup ?_)))
 rw[if_neg (by rw[beq_builtin_none];exact bN)]
 refine wpAny_bind (wpAny_specialOf T F.slot_tuple_hash.lookup ?_)
 refine wpAny_bind (m:=callSpecialIfBoundUnlessNone? (.ref a) "__hash__" _) (wpAny_callSpecialIfBoundUnlessNone?_slot T F.slot_tuple_hash (wpAny_call_entry F.slot_tuple_hash T F.entry_tuple_hash ?_ (F.args_tuple_hash_1 _)))
 refine wpAny_bind (m:=Builtin.Tuple.tupleItemsOf (.ref a)) (wpAny_tupleItemsOf ho hd (wpAny_bind ?_))
 rw[<-Array.forIn_toList]
 refine wpAny_forIn_list _ (λrest (b:Array Int) s'=>∃done left,ks=done++left/\aP knd s.heap left rest/\b.toList=done.map knd.hash/\s'={ s with toks:=s.toks+(done.map knd.draws).sum }) _ ?_ ?_ _ _ ⟨[],ks,rfl,hi,rfl,rfl⟩
 . rintro x rest b s' ⟨done,left,rfl,hl,hb,rfl⟩
   cases hl with
   | @cons k _ ks' _ h1 hl'=>
    refine wpAny_bind (knd.pyHash (s:={ s with toks:=s.toks+(done.map knd.draws).sum }) hr h1 ?_)
    exact wpAny_pure ⟨done++[k],ks',by simp,hl',by simp[hb],by simp[Nat.add_assoc]⟩
 . rintro b s' ⟨done,left,rfl,hl,hb,rfl⟩
   cases hl
   rw[List.append_nil] at h
   show wpAny _ _ (retInt (Builtin.Tuple.tupleHashOf b.toList)) _ _ _
   rw[hb]
   refine wpAny_ret_mkInt ?_
   show wpAny _ _ (if (decide (-(2:Int) ^ 63<=Builtin.Tuple.tupleHashOf (done.map knd.hash))&&decide (Builtin.Tuple.tupleHashOf (done.map knd.hash)<2 ^ 63))=true then _ else _) Q E _
   unfold kQ reduceHash iV at h
   split
   . rename_i hr
     rw[if_pos hr] at h
     exact wpAny_pure (by simpa[Nat.add_assoc] using h)
   . rename_i hr
     rw[if_neg hr] at h
     exact wpAny_bind (wpAny_rule (wpAny_pure (by simpa[Nat.add_assoc] using h)))
theorem aAg{x y:List K}{a b:Addr}{P:Fin->Shared->Prop}(hr:knd.room A)(hx:bP knd s.heap x a)(hy:bP knd s.heap y b)(h:P (.done (.ret (.bool (decide (x=y))))) s):wpAny (model prog w) A (Builtin.«tuple.__eq__» ⟨[.ref a,.ref b],[]⟩) P E s:=by
 have Tb:=hy.typeIs
 obtain⟨oa,xs,na,hoa,_,hda,hia⟩:=hx
 obtain⟨ob,ys,nb,hob,_,hdb,hib⟩:=hy
 refine wpAny_bind (m:=isInstance (.ref b) (.type "tuple")) (wpAny_isInstance Tb isSubtype_tuple_tuple ?_)
 simp only[Bool.not_true,bF,if_false]
 refine wpAny_bind (wpAny_tupleItemsOf hoa hda (wpAny_bind (wpAny_tupleItemsOf hob hdb (wpAny_bind ?_))))
 refine wpAny_forIn_list _ (λrest r s'=>r.1=none/\s'=s/\∃x' y' xs' ys',rest=List.zip xs' ys'/\aP knd s.heap x' xs'/\aP knd s.heap y' ys'/\decide (x'=y')=decide (x=y)/\(xs'.length==ys'.length)=(xs.size==ys.size)) _ ?_ ?_ _ _ ⟨rfl,rfl,x,y,xs.toList,ys.toList,rfl,hia,hib,rfl,by simp⟩
 . rintro ⟨u,v⟩ rest r s' ⟨_,rfl,x',y',xs',ys',hz,hx',hy',hdec,hlen⟩
   cases hx' with
   | nil=>simp at hz
   | @cons k1 _ x'' xs'' h1 hx''=>
    cases hy' with
    | nil=>simp at hz
    | @cons k2 _ y'' ys'' h2 hy''=>
     simp only[List.zip_cons_cons,List.cons.injEq,Prod.mk.injEq] at hz
     obtain⟨⟨rfl,rfl⟩,rfl⟩:=hz
     refine wpAny_bind (knd.eqBool (x:=k1) (y:=k2) hr h1 h2 ?_)
     by_cases hk:k1=k2
     . subst hk
       rw[decide_eq_true rfl]
       simp only[Bool.not_true,bF,if_false]
       exact wpAny_pure ⟨rfl,rfl,x'',y'',xs'',ys'',rfl,hx'',hy'',by rw[<-hdec];simp,by simpa using hlen⟩
     . rw[decide_eq_false hk]
       simp only[Bool.not_false,if_true]
       have hf:decide (x=y)=false:=by rw[<-hdec];simp[hk]
       rw[hf] at h
       exact wpAny_bind (wpAny_pure (wpAny_pure (wpAny_pure h)))
 . rintro ⟨r1,r2⟩ s' ⟨hr1,rfl,x',y',xs',ys',hz,hx',hy',hdec,hlen⟩
   simp only at hr1
   subst hr1
   have fin:(xs.size==ys.size)=decide (x=y):=by
    rw[<-hdec,<-hlen]
    cases hx' with
    | nil=>cases hy' <;> simp
    | cons _ _=>
     cases hy' with
     | nil=>simp
     | cons _ _=>simp at hz
   refine wpAny_pure ?_
   show P (.done (.ret (.bool (xs.size==ys.size)))) s'
   rw[fin];exact h
theorem bP.inj{h:Heap}{a:Addr}{x y:List K}(hx:bP knd h x a)(hy:bP knd h y a):x=y:=by
 obtain⟨o,its,n,ho,_,hd,hi⟩:=hx
 obtain⟨o',its',n',ho',_,hd',hi'⟩:=hy
 rw[ho] at ho'
 cases ho'
 rw[hd] at hd'
 cases hd'
 exact hi.inj hi'
theorem aCs{x y:List K}{a b:Addr}{Q:Bool->Shared->Prop}(hu:A.units<cLine)(hr:knd.room A.in1)(hx:bP knd s.heap x a)(hy:bP knd s.heap y b)(h:Q (decide (x=y)) s):wpAny (model prog w) A (eqBool (.ref a) (.ref b)) Q E s:=by
 unfold eqBool
 try with_reducible refine wpAny_holding ?_
 show wpAny _ _ (if (Value.ref a==Value.ref b)=true then _ else _) Q E s
 by_cases hab:(Value.ref a==Value.ref b)=true
 . have e:a=b:=by have:=eq_of_beq hab;injection this
   subst e
   rw[if_pos hab,hx.inj hy] at *
   exact wpAny_bind (wpAny_rule (wpAny_pure (by simpa using h)))
 . rw[if_neg hab]
   exact wpAny_bind (wpAny_richCompare_same_room (op:=.Eq) hx.typeIs hy.typeIs F.slot_tuple_eq
    (wpAny_call_entry F.slot_tuple_eq hx.typeIs F.entry_tuple_eq (aAg hr hx hy ⟨_,rfl,(λe=>nomatch e),wpAny_truthy_bool h⟩) (F.args_tuple_eq_2 _ _)) hu)
end
section
variable {prog:Program} {w:World} {A:Around} {E:Value->Shared->Prop} {s:Shared}
theorem uA{K:Type}[DecidableEq K]{knd:KeyKind prog w K}{n:Nat}{ks:List K}{a:Addr}{Q:Bool->Shared->Prop}(hk:IsTupleKey knd s.heap ks a)(h:Q true s):wpAny (model prog w) A (eqIsQuiet (n+1) (.ref a)) Q E s:=by
 have T:=hk.typeIs
 obtain⟨o,its,m,ho,_,hd,hi⟩:=hk
 unfold eqIsQuiet
 refine wpAny_bind (wpAny_specialOf T F.slot_tuple_eq.lookup (wpAny_bind (m:=isInstance (.ref a) (.type "tuple")) (wpAny_isInstance T isSubtype_tuple_tuple ?_)))
 simp only[Bool.not_true,bF,if_false]
 refine wpAny_bind (wpAny_seqItems ho hd (wpAny_bind (m:=forIn its _ _) ?_))
 rw[<-Array.forIn_toList]
 refine wpAny_forIn_list _ (λrest r s'=>r.1=none/\s'=s/\∀v∈rest,carriedByValue v=true) _ ?_ ?_ _ _ ⟨rfl,rfl,hi.byValue⟩
 . rintro v rest r s' ⟨_,rfl,hall⟩
   rw[eqIsQuiet_byValue _ (hall v List.mem_cons_self)]
   refine wpAny_bind (wpAny_pure ?_)
   simp only[Bool.not_true,bF,if_false]
   exact wpAny_pure ⟨rfl,rfl,λu hu'=>hall u (List.mem_cons_of_mem _ hu')⟩
 . rintro ⟨r1,r2⟩ s' ⟨hr,rfl,_⟩
   simp only at hr
   subst hr
   exact wpAny_pure h
theorem uB{K:Type}[DecidableEq K]{knd:KeyKind prog w K}{ks:List (List K)}{a:Addr}{Q:Bool->Shared->Prop}(hk:bP (tupleKind knd) s.heap ks a)(h:Q true s):wpAny (model prog w) A (eqIsQuiet 8 (.ref a)) Q E s:=by
 have T:=hk.typeIs
 obtain⟨o,its,m,ho,_,hd,hi⟩:=hk
 unfold eqIsQuiet
 refine wpAny_bind (wpAny_specialOf T F.slot_tuple_eq.lookup (wpAny_bind (m:=isInstance (.ref a) (.type "tuple")) (wpAny_isInstance T isSubtype_tuple_tuple ?_)))
 simp only[Bool.not_true,bF,if_false]
 refine wpAny_bind (wpAny_seqItems ho hd (wpAny_bind (m:=forIn its _ _) ?_))
 rw[<-Array.forIn_toList]
 refine wpAny_forIn_list _ (λrest r s'=>r.1=none/\s'=s/\∃ks',aP (tupleKind knd) s.heap ks' rest) _ ?_ ?_ _ _ ⟨rfl,rfl,ks,hi⟩
 . rintro v rest r s' ⟨_,rfl,ks',hl⟩
   cases hl with
   | cons h1 hl'=>
    refine wpAny_bind (uA (n:=6) h1 ?_)
    simp only[Bool.not_true,bF,if_false]
    exact wpAny_pure ⟨rfl,rfl,_,hl'⟩
 . rintro ⟨r1,r2⟩ s' ⟨hr,rfl,_⟩
   simp only at hr
   subst hr
   exact wpAny_pure h
noncomputable def eZ{K:Type}[DecidableEq K](knd:KeyKind prog w K):HeapKind prog w (List (List K)) where
 is:=bP (tupleKind knd)
 hash:=kQ (tupleKind knd)
 draws:=iV (tupleKind knd)
 room:=λA=>A.units+8<cLine
 inj:=λhx hy=>hx.inj hy
 keeps:=λ{h h' k a d o es ep} x ho hd hs=>by
  obtain⟨o',its,n,ho',hc,hd',hi⟩:=x
  have hne:a≠d:=λe=>by
   subst e
   rw[ho'] at ho
   cases ho
   rw[hd] at hd'
   cases hd'
  exact⟨o',its,n,(hs.2 a hne).trans ho',hc,hd',hi.keeps ho hd hs⟩
 pyHash:=λ{A E s k a Q} hu hk h=>yD (by omega) (show A.in1.units<cLine by show A.units+1<cLine;omega) hk h
 eqBool:=λ{A E s x y a b Q} hu hx hy h=>aCs (by omega) (show A.in1.units<cLine by show A.units+1<cLine;omega) hx hy h
 quiet:=λhk h=>uB hk h
end
abbrev NK:=List (List Int)
abbrev NE:=NK×Addr×V
abbrev pj(x:NE):NK×V:=(x.1,x.2.2)
noncomputable def gB(x:NE)(e:NK×Addr×Value):Prop:=e.1=x.1/\e.2.1=x.2.1/\aR x.2.2 e.2.2
noncomputable def nkH(k:NK):Int:=reduceHash (Builtin.Tuple.tupleHashOf (k.map λk=>reduceHash (Builtin.Tuple.tupleHashOf (k.map hashInt))))
noncomputable def aJo(x:NK×Addr×Value):DictEntry:=⟨nkH x.1,.ref x.2.1,x.2.2⟩
noncomputable def aEL(a:Addr)(xs:List NE)(h:Heap):Prop:=
 (a==sysModules)=false/\xs.length<=sizeLine/\∃o es ep vs,h.get? a=some o/\o.ExactDict/\o.data=.dict es ep/\es.toList=vs.map aJo/\Paired gB xs vs/\(xs.map (·.1)).Nodup
abbrev bQ(a:Addr)(xs:List NE):HO:=.ext (aEL a xs)
noncomputable def aT(K:PySem.W.Frag)(H:Hp)(k:NK)(b:Addr):Prop:=∃bs:List Addr,SqT K H b (bs.map V.ref)/\Paired (λis c=>SqT K H c (is.map V.int)) k bs
section
variable {X:Cx} {pins:List (Addr×Obj)} {σ:St} {H:Hp} {s:Shared}
theorem aAh{is:List Int}:∀{us:List Value},aI (is.map V.int) us->ItemsAre (intKind X.prog X.w) is us:=by
 induction is with
 | nil=>intro us h;rw[mN] at h;cases h;exact .nil
 | cons i is ih=>
  intro us h
  rw[mC] at h
  cases h with
  | cons r t=>
   obtain⟨tk,e⟩:∃t,_=Value.int i t:=r
   subst e
   exact .cons (intKind_is _ _ i tk) (ih t)
theorem aCt(I:Inv X pins σ H s){c:Addr}{is:List Int}(h:SqT X.K H c (is.map V.int)):IsTupleKey (intKind X.prog X.w) s.heap is c:=by
 obtain⟨its,rv,⟨o,ho,hc,n,hd⟩,_⟩:=I.tuple h
 exact⟨o,its.toArray,n,ho,hc,hd,by simpa using aAh rv⟩
theorem rH(I:Inv X pins σ H s):∀{k:NK} {bs:List Addr} {us:List Value},Paired (λis c=>SqT X.K H c (is.map V.int)) k bs->aI (bs.map V.ref) us->aP (tupleKind (intKind X.prog X.w)) s.heap k us
 | _,_,us,.nil,r=>by rw[mN] at r;cases r;exact .nil
 | _,_,us,.cons h t,r=>by
  rw[mC] at r
  cases r with
  | cons r1 r2=>
   cases r1
   exact .cons (aCt I h) (rH I t r2)
theorem eH(I:Inv X pins σ H s){k:NK}{b:Addr}(h:aT X.K H k b):bP (tupleKind (intKind X.prog X.w)) s.heap k b:=by
 obtain⟨bs,q,p⟩:=h
 obtain⟨its,rv,⟨o,ho,hc,n,hd⟩,_⟩:=I.tuple q
 exact⟨o,its.toArray,n,ho,hc,hd,by simpa using rH I p rv⟩
theorem fR:∀{xs:List NE} {vs:List (NK×Addr×Value)},Paired gB xs vs->vs.map (·.1)=xs.map (·.1)
 | _,_,.nil=>rfl
 | _,_,.cons h t=>by rw[mC,mC,fR t,h.1]
theorem rJ:∀{xs:List NE} {vs:List (NK×Addr×Value)},Paired gB xs vs->∀v∈vs,∃x∈xs,gB x v
 | _,_,.nil,v,h=>by cases h
 | _,_,.cons h t,v,m=>by
  rcases List.mem_cons.mp m with rfl|m
  . exact⟨_,List.mem_cons_self ..,h⟩
  . obtain⟨x,hx,r⟩:=rJ t v m
    exact⟨x,List.mem_cons_of_mem _ hx,r⟩
noncomputable def atN(xs:List NE)(k:NK):Option V:=(xs.find? λx=>decide (x.1=k)).map (·.2.2)
theorem pL{k:NK}:∀{xs:List NE} {vs:List (NK×Addr×Value)},Paired gB xs vs->(atKey vs k).isSome=decide (k∈xs.map (·.1))
 | _,_,.nil=>rfl
 | x::xs,e::vs,.cons h t=>by
  have ih:=pL (k:=k) t
  unfold atKey at ih ⊢
  rw[List.find?_cons]
  by_cases hk:x.1=k
  . rw[show decide (e.1=k)=true from decide_eq_true (h.1.trans hk)]
    subst hk;simp
  . rw[show decide (e.1=k)=false from decide_eq_false (by rw[h.1];exact hk)]
    simp only
    rw[ih]
    have e:(k∈(x::xs).map (·.1))↔k∈xs.map (·.1):=by simp[Ne.symm hk]
    simp only[e]
theorem hC(I:Inv X pins σ H s){a:Addr}{xs:List NE}(e:H a=some (bQ a xs))(hk:∀x∈xs,aT X.K H x.1 x.2.1):(a==sysModules)=false/\xs.length<=sizeLine/\∃vs,Paired gB xs vs/\s.heap.DictOfH (eZ (intKind X.prog X.w)) a vs:=by
 obtain⟨⟨h1,h2,o,es,ep,vs,h3,h4,h5,h6,h7,h8⟩,_⟩:=(show cO X.prog X.w H s.heap a (bQ a xs) from I.hok a _ e)
 refine⟨h1,h2,vs,h7,o,es,ep,h3,h4,h5,h6,λx hx=>?_,?_⟩
 . obtain⟨y,hy,r1,r2,_⟩:=rJ h7 x hx
   rw[r1,r2];exact eH I (hk y hy)
 . rw[fR h7];exact h8
noncomputable def jU(xs:List NE)(k:NK)(b:Addr)(v:V):List NE:=if k∈xs.map (·.1) then xs.map (λx=>if x.1=k then (x.1,x.2.1,v) else x) else xs++[(k,b,v)]
theorem rK{k:NK}{v:V}{u:Value}(r:aR v u):∀{xs:List NE} {vs:List (NK×Addr×Value)},Paired gB xs vs->Paired gB (xs.map λx=>if x.1=k then (x.1,x.2.1,v) else x) (vs.map (putAt k u))
 | _,_,.nil=>.nil
 | x::xs,e::vs,.cons h t=>by
  rw[mC,mC]
  refine .cons ?_ (rK r t)
  unfold putAt
  by_cases hk:x.1=k
  . rw[if_pos hk,if_pos (h.1.trans hk)];exact⟨h.1,h.2.1,r⟩
  . rw[if_neg hk,if_neg (by rw[h.1];exact hk)];exact h
theorem rL{x:NE}{e:NK×Addr×Value}(r:gB x e):∀{xs:List NE} {vs:List (NK×Addr×Value)},Paired gB xs vs->Paired gB (xs++[x]) (vs++[e])
 | _,_,.nil=>.cons r .nil
 | _,_,.cons h t=>.cons h (rL r t)
theorem rM{xs:List NE}{vs:List (NK×Addr×Value)}{k:NK}{b:Addr}{v:V}{u:Value}(h:Paired gB xs vs)(r:aR v u):Paired gB (jU xs k b v) (storedH vs k b u):=by
 unfold storedH jU
 rw[pL h]
 by_cases hk:k∈xs.map (·.1)
 . rw[if_pos (decide_eq_true hk),if_pos hk];exact rK r h
 . rw[if_neg hk,if_neg (by simpa using hk)];exact rL ⟨rfl,rfl,r⟩ h
theorem rN{xs:List NE}{k:NK}{b:Addr}{v:V}:(jU xs k b v).length<=xs.length+1:=by
 unfold jU
 split
 . rw[lM];omega
 . rw[lA];exact Nat.le_refl _
theorem vI{a:Addr}{xs:List NE}:∀h1 h2:Heap,aEL a xs h1->(∀o,h1.get? a=some o->h2.get? a=some o)->aEL a xs h2:=by
 rintro h1 h2 ⟨z1,z2,o',es',ep',vs,z3,z4⟩ kk
 exact⟨z1,z2,o',es',ep',vs,kk _ z3,z4⟩
theorem aAi(hu:X.A.units+100<cLine):aGv X (λo i v H Q=>∃a b xs k,o=.ref a/\i=.ref b/\H a=some (bQ a xs)/\(∀x∈xs,aT X.K H x.1 x.2.1)/\aT X.K H k b/\xs.length<sizeLine/\Q (upd H a (bQ a (jU xs k b v)))):=by
 intro pins s σ H o i v ov iv u Q I ro ri rv h
 obtain⟨a,b,xs,k,rfl,rfl,e,hk,kb,hl,q⟩:=h
 cases ro
 cases ri
 obtain⟨h1,h2,vs,hp,h3⟩:=hC I e hk
 have len:vs.length=xs.length:=(Paired.length hp).symm
 refine wpAny_setItem_heap (knd:=eZ (intKind X.prog X.w)) (hsz:=by rw[len];exact h2) (show X.A.in1.units+8<cLine by show X.A.units+1+8<cLine;omega) (eH I kb) h3 λh' hm hs=>?_
 obtain⟨ob,es,ep,g1,g2,g3,g4,_,g6⟩:=hm
 have hp':=rM (k:=k) (b:=b) hp rv
 have nd:((jU xs k b v).map (·.1)).Nodup:=by rw[<-fR hp'];exact g6
 have lp:(jU xs k b v).length<=sizeLine:=Nat.le_trans rN hl
 refine⟨_,I.write (x:=a) (e:=a) (o:=bQ a (jU xs k b v)) (by rw[e];exact True.intro) (.inl rfl) (λc q hc z=>(hs.2 c hc).trans z) ⟨ob,g1⟩ ⟨⟨h1,lp,ob,es,ep,_,g1,g2,g3,g4,hp',nd⟩,⟨ob,g1⟩,vI⟩,q⟩
theorem Inv.big(I:Inv X pins σ H s):sysModules<s.heap.objs.size:=by
 have h:mainGlobals<s.heap.objs.size:=(I.ok.mod.glob.keeps I.bk).lt
 exact Nat.lt_trans (by decide) h
noncomputable def aEM:TE:=λ_ H Q=>∀p,H p=none->Q (.ref p) (upd H p (bQ p []))
theorem aAj{pos:Pos}:PE X (.Dict [] [] pos) aEM:=λpins s σ H Q I h=>
 wpAny_Dict_empty ⟨.ref s.heap.objs.size,_,I.laid (a:=s.heap.objs.size) (o:=bQ s.heap.objs.size []) (t':=s.toks) (λ_ _ q=>Heap.get?_push_of_some _ q) (Nat.le_refl _)
  ⟨⟨beq_eq_false_iff_ne.mpr (Ne.symm (Nat.ne_of_lt I.big)),Nat.zero_le _,_,#[],0,[],Heap.get?_push_size _ rfl,⟨rfl,rfl,rfl⟩,rfl,rfl,.nil,List.nodup_nil⟩,⟨_,Heap.get?_push_size _ rfl⟩,vI⟩,rfl,h _ (I.hok.fresh (Nat.le_refl _))⟩
end
section
variable {prog:Program} {w:World} {A:Around} {E:Value->Shared->Prop} {s:Shared}
end
theorem IsTupleKey.mono{prog:Program}{w:World}{h h':Heap}{k:List Int}{a:Addr}(k':∀b o,h.get? b=some o->h'.get? b=some o)(x:IsTupleKey (intKind prog w) h k a):IsTupleKey (intKind prog w) h' k a:=by
 obtain⟨o,its,n,h1,h2⟩:=x
 exact⟨o,its,n,k' _ _ h1,h2⟩
theorem aP.mono{prog:Program}{w:World}{h h':Heap}(k':∀b o,h.get? b=some o->h'.get? b=some o):∀{k:NK} {vs:List Value},aP (tupleKind (intKind prog w)) h k vs->aP (tupleKind (intKind prog w)) h' k vs
 | _,_,.nil=>.nil
 | _,_,.cons h1 t=>.cons (IsTupleKey.mono k' h1) (aP.mono k' t)
theorem bP.mono{prog:Program}{w:World}{h h':Heap}{k:NK}{a:Addr}(k':∀b o,h.get? b=some o->h'.get? b=some o)(x:bP (tupleKind (intKind prog w)) h k a):bP (tupleKind (intKind prog w)) h' k a:=by
 obtain⟨o,its,n,h1,h2,h3,h4⟩:=x
 exact⟨o,its,n,k' _ _ h1,h2,h3,aP.mono k' h4⟩
noncomputable def aCu(ks:List (NK×V))(k:NK×V):List (NK×V):=if k.1∈ks.map (·.1) then ks.map (λx=>if x.1=k.1 then (x.1,k.2) else x) else ks++[k]
theorem rO(xs:List NE)(k:NK)(b:Addr)(v:V):(jU xs k b v).map pj=aCu (xs.map pj) (k,v):=by
 have e:(xs.map pj).map (·.1)=xs.map (·.1):=by rw[List.map_map];rfl
 unfold jU aCu
 rw[e]
 split
 . rw[List.map_map,List.map_map]
   refine List.map_congr_left λx _=>?_
   show pj (if x.1=k then _ else _)=if x.1=k then _ else _
   split <;> rfl
 . rw[List.map_append];rfl
section
variable {prog:Program} {w:World} {A:Around} {R:Result->Shared->Prop} {good:NK->Addr->Prop} {h₀:Heap} {d it l:Addr} {items:Array Value} {ks:List (NK×V)}
end
section
variable {X:Cx}
end
end L2
end
noncomputable section
namespace L2
open PySem PySem.Spec PyProof.Rows PySem.Builtin
set_option maxRecDepth 100000 in
theorem iW:fillsNumberSlot (.type "tuple") "mul" = pure false:=
 PySem.fillsNumberSlot_seq (id:= "tuple.__mul__") (r:=some (.builtin "tuple.__rmul__")) F.slot_tuple_mul.lookup (by decide +kernel) F.slot_tuple_rmul.lookup (by decide +kernel)
theorem pM:seqRepeat? (.type "tuple")=pure (some (.builtin "tuple.__mul__")):=by
 unfold seqRepeat?
 rw[PySem.seqSlot_of (T:= "tuple") (name:= "__mul__") (id:= "tuple.__mul__") F.slot_tuple_mul.lookup (by decide +kernel),PySem.seqSlot_of (T:= "tuple") (name:= "__rmul__") (id:= "tuple.__rmul__") F.slot_tuple_rmul.lookup (by decide +kernel)]
 rfl
theorem kR(a:Int)(t:Tok)(l:Addr)(od:Option Addr)(items:Array Value)(n:Nat)(sl:Array (Option Value)):Meets (Builtin.«int.__rmul__» ⟨[.int a t,.ref l],[]⟩) (λ_ R s=>s.heap.get? l=some { cls:=.type "tuple",dict:=od,data:=.seq items n,slots:=sl }/\R (.ok (.ret Value.notImplemented)) s):=
 .of_wp λprog w A R s h=>by
  obtain⟨hp,g,d,tk,os⟩:=s;obtain⟨hl,h⟩:=h;wp_walk;exact⟨_,rfl,h⟩
theorem rP(l:Addr)(t:Tok)(od:Option Addr)(items:Array Value)(n:Nat)(sl:Array (Option Value)):Meets (Builtin.«tuple.__mul__» ⟨[.ref l,.int 1 t],[]⟩) (λ_ R s=>s.heap.get? l=some { cls:=.type "tuple",dict:=od,data:=.seq items n,slots:=sl }/\R (.ok (.ret (.ref l))) s):=
 .of_wp λprog w A R s h=>by
  obtain⟨hp,g,d,tk,os⟩:=s;obtain⟨hl,h⟩:=h;wp_walk;exact⟨_,rfl,h⟩
theorem rQ(l:Addr)(t:Tok)(k:Int)(od:Option Addr)(items:Array Value)(n:Nat)(sl:Array (Option Value))(h1:1<k)(h2:k<2 ^ 63)(h0:items.isEmpty=false)(hz:items.size*k.toNat<=sizeLine)(hs:((List.replicate k.toNat items).foldl (·++·) #[]).size<=sizeLine):Meets (Builtin.«tuple.__mul__» ⟨[.ref l,.int k t],[]⟩) (λ_ R s=>s.heap.get? l=some { cls:=.type "tuple",dict:=od,data:=.seq items n,slots:=sl }/\R (.ok (.ret (.ref s.heap.objs.size))) { s with heap:=s.heap.push { cls:=.type "tuple",data:=.seq ((List.replicate k.toNat items).foldl (·++·) #[]) } }):=
 .of_wp λprog w A R s h=>by
  obtain⟨hp,g,d,tk,os⟩:=s;obtain⟨hl,h⟩:=h;wp_walk
  have k1:(decide (k < -2 ^ 63)||decide (k ≥ 2 ^ 63))=false:=by rw[decide_eq_false (by omega),decide_eq_false (by omega)];rfl
  have k2:(items.isEmpty||k==1)=false:=by rw[h0,beq_eq_false_iff_ne.mpr (by omega)];rfl
  have k3:(decide (k<=0)||items.isEmpty)=false:=by rw[h0,decide_eq_false (by omega)];rfl
  have e:((items.size*k.toNat:Nat):Int)=(items.size:Int)*k:=by rw[Int.natCast_mul,Int.toNat_of_nonneg (by omega)]
  have k4:Tuple.tupleTooMany ((items.size:Int)*k)=false:=by
   unfold Tuple.tupleTooMany
   rw[<-e]
   exact decide_eq_false (by omega)
  have k5:¬ (items.size:Int)*k>(2 ^ 63-1) / 8:=by
   have:(sizeLine:Nat)<=(2 ^ 63-1) / 8:=by decide
   rw[<-e]
   omega
  rw[if_neg (by rw[k1];exact bN)]
  wp_walk
  rw[if_neg (by rw[k2];exact bN),if_neg (by rw[k3];exact bN),if_neg k5,if_neg (by rw[k4];exact bN)]
  unfold Tuple.tupleExact newObj
  simp only[if_neg (Nat.not_lt.mpr hs)]
  wp_walk
  exact⟨_,rfl,h⟩
section
variable {X:Cx}
theorem aCv:OpR X (binaryOp .Mult) (λx y H Q=>∃a k xs,x=.ref a/\y=.int k/\SqT X.K H a xs/\xs≠[]/\1<=k/\k<2 ^ 63/\xs.length*k.toNat<=sizeLine /\
 (k=1->Q (.ref a) H)/\(1<k->∀p,H p=none->Q (.ref p) (upd H p (.tup (List.replicate k.toNat xs).flatten)))):=by
 intro pins s σ H x y v u Q I rx ry h
 obtain⟨a,k,xs,rfl,rfl,ha,hx,h1,h2,hz,q1,q2⟩:=h
 cases rx
 obtain⟨t,rfl⟩:=ry
 obtain⟨its,r,⟨o,ho,hc,n,hd⟩,_⟩:=I.tuple ha
 obtain⟨oc,od,dt,sl⟩:=o
 have hc:oc=.type "tuple" := hc
 have hd:dt=.seq its.toArray n:=hd
 subst hc hd
 have lz:=r.length
 have road:=λQ' (hq:wpAny (model X.prog X.w) X.A (call (.builtin "tuple.__mul__") [.ref a,.int k t]) Q' X.xe s)=>wpAny_binaryOp_repeat_ref (Q:=Q') (T:= "tuple") (U:= "int") (by decide) (show s.TypeIs (.ref a) "tuple" from⟨_,ho,rfl⟩) (λs'=>typeIs_int s' k t) iW F.fills_int_mul F.slot_int_rmul pM F.slot_int_index.lookup
  (call_meets F.slot_int_rmul (typeIs_int s k t) F.entry_int_rmul (F.args_int_rmul_2 _ _) (kR k t a od its.toArray n sl) ⟨ho,rfl,⟨_,ho,rfl⟩,hq⟩)
 refine road _ ?_
 by_cases hk:k=1
 . subst hk
   exact call_meets F.slot_tuple_mul ⟨_,ho,rfl⟩ F.entry_tuple_mul (F.args_tuple_mul_2 _ _) (rP a t od its.toArray n sl) ⟨ho,.ref a,H,I,rfl,q1 rfl⟩
 . have e0:its.toArray.isEmpty=false:=by
    cases its with
    | nil=>exact absurd (r.nil_iff.mp rfl) hx
    | cons _ _=>rfl
   have f0:=iU its k.toNat []
   rw[List.nil_append] at f0
   have f1:List.foldl (λx1 x2=>x1++x2) #[] (List.replicate k.toNat its.toArray)=(List.replicate k.toNat its).flatten.toArray:=f0
   refine call_meets F.slot_tuple_mul ⟨_,ho,rfl⟩ F.entry_tuple_mul (F.args_tuple_mul_2 _ _) (rQ a t k od its.toArray n sl (by omega) h2 e0 (by rw[List.size_toArray,<-lz];exact hz) (by rw[f1,List.size_toArray,pK,<-lz,Nat.mul_comm];exact hz)) ⟨ho,?_⟩
   rw[f1]
   refine⟨.ref s.heap.objs.size,_,I.laid (t':=s.toks) (o:=.tup (List.replicate k.toNat xs).flatten) (λb ob q=>Heap.get?_push_of_some _ q) (Nat.le_refl _) ?_,rfl,q2 (by omega) _ (I.hok.fresh (Nat.le_refl _))⟩
   exact⟨by rw[pK,Nat.mul_comm];exact hz,_,r.rep k.toNat,IsTup.new _ _⟩
end
end L2
end
noncomputable section
namespace L2
open PySem PySem.Spec PyProof.Rows PySem.SeqAt
noncomputable def nC(h:Heap)(a:Addr)(i x:Int):Prop:=∃t u ep,h.get? a=some { cls:=.type "dict",dict:=none,data:=.dict #[⟨hashInt i,.int i t,.int x u⟩] ep,slots:=#[] }/\(a==sysModules)=false
theorem aCw{prog:Program}{w:World}{A:Around}{E:Value->Shared->Prop}{s:Shared}{b:Addr}{i j y:Int}{t:Tok}{Q:Option Nat->Shared->Prop}(hb:nC s.heap b j y)(h:Q (if i==j then some 0 else none) s) :
 wpAny (model prog w) A (dictFind b (.int i t) (hashInt i)) Q E s:=by
 obtain⟨t',u',ep,ho,_⟩:=hb
 refine wpAny_dictFind_int ho rfl (λe he=>?_) ?_
 . have:e=⟨hashInt j,.int j t',.int y u'⟩:=by simpa using he
   subst this
   exact⟨j,t',rfl,rfl⟩
 . have e:((#[⟨hashInt j,.int j t',.int y u'⟩]:Array DictEntry).findIdx? λe=>Value.isInt i e.key)=if i==j then some 0 else none:=by
    have:Value.isInt i (.int j t')=(i==j):=by
     show(j==i)=(i==j)
     by_cases h:i=j
     . subst h;rfl
     . rw[beq_eq_false_iff_ne.mpr h,beq_eq_false_iff_ne.mpr (λz=>h z.symm)]
    have l:∀(p:DictEntry->Bool) (e:DictEntry),(#[e]:Array DictEntry).findIdx? p=if p e=true then some 0 else none:=λp e=>by
     simp
    rw[l]
    show(if Value.isInt i (.int j t')=true then some 0 else none)=_
    rw[this]
   rw[e]
   exact h
theorem vJ{prog:Program}{w:World}{A:Around}{E:Value->Shared->Prop}{s:Shared}{nm:String}{a b:Addr}{i x j y:Int}{Q:Bool->Shared->Prop}(ha:nC s.heap a i x)(hb:nC s.heap b j y)(h:Q (i==j&&x==y) s) :
 wpAny (model prog w) A (Builtin.Dict.samePairs nm a b) Q E s:=by
 obtain⟨t,u,ep,hoa,hsa⟩:=id ha
 obtain⟨t',u',ep',hob,hsb⟩:=id hb
 unfold Builtin.Dict.samePairs Builtin.Dict.showsAll
 rw[hsa,hsb]
 simp only[bF,if_false]
 refine wpAny_bind (wpAny_pure (wpAny_bind (wpAny_pure ?_)))
 refine wpAny_bind (wpAny_dictEntries hoa rfl ?_)
 refine wpAny_bind (wpAny_dictEntries hob rfl ?_)
 rw[if_neg (show ¬ (((#[⟨hashInt i,.int i t,.int x u⟩]:Array DictEntry).size != (#[⟨hashInt j,.int j t',.int y u'⟩]:Array DictEntry).size)=true) from bN)]
 refine wpAny_bind (wpAny_dictEpoch hoa rfl ?_)
 rw[Std.Legacy.Range.forIn_eq_forIn_range']
 rw[show ∀e:DictEntry,List.range' [:(#[e]:Array DictEntry).size].start [:(#[e]:Array DictEntry).size].size [:(#[e]:Array DictEntry).size].step=[0] from λe=>(by decide:List.range' [:1].start [:1].size [:1].step=[0])]
 simp only[List.forIn_cons,List.forIn_nil]
 refine wpAny_bind (wpAny_bind ?_)
 refine wpAny_bind (wpAny_dictEntries hoa rfl ?_)
 show wpAny _ _ (holding [Value.int i t,Value.int x u] (dictFind b (.int i t) (hashInt i) >>= _) >>= _) _ _ s
 refine wpAny_bind (wpAny_holding (wpAny_bind (aCw hb ?_)))
 cases hij:i==j with
 | false=>
  rw[hij] at h
  simp only[bF,if_false]
  refine wpAny_pure ?_
  simp only[Bool.not_false,if_true]
  refine wpAny_pure (wpAny_pure (wpAny_pure ?_))
  exact h
 | true=>
  rw[hij] at h
  simp only[if_true]
  refine wpAny_bind (wpAny_dictEntries hob rfl ?_)
  show wpAny _ _ (holding [Value.int y u'] (eqBool (.int x u) (.int y u'))) _ _ s
  refine wpAny_holding (wpAny_eqBool_int ?_)
  cases hxy:x==y with
  | false=>
   rw[hxy] at h
   simp only[Bool.not_false,if_true]
   exact wpAny_pure (wpAny_pure (wpAny_pure h))
  | true=>
   rw[hxy] at h
   simp only[Bool.not_true,bF,if_false]
   refine wpAny_bind (wpAny_dictEpoch hoa rfl ?_)
   rw[if_neg (by simp)]
   exact wpAny_pure (wpAny_pure (wpAny_pure h))
theorem aGR(a b:Addr)(i x j y:Int):Meets (Builtin.«dict.__eq__» ⟨[.ref a,.ref b],[]⟩) (λA R s=>nC s.heap a i x/\nC s.heap b j y/\R (.ok (.ret (.bool (i==j&&x==y)))) s):=by
 intro prog w A R s h
 obtain⟨ha,hb,h⟩:=h
 have hTa:s.TypeIs (.ref a) "dict" := let ⟨_,_,_,ho,_⟩:=ha;⟨_,ho,rfl⟩
 have hTb:s.TypeIs (.ref b) "dict" := let ⟨_,_,_,ho,_⟩:=hb;⟨_,ho,rfl⟩
 show wpAny _ _ (Builtin.Dict.dictSlotArgs "__eq__" ⟨[.ref a,.ref b],[]⟩ >>= _) _ _ _
 unfold Builtin.Dict.dictSlotArgs
 refine wpAny_bind (wpAny_bind (wpAny_notOrdered_dict hTa ?_))
 refine wpAny_bind (wpAny_of_eq (a:=(Value.ref a,[Value.ref b])) rfl (wpAny_pure ?_))
 refine wpAny_bind (wpAny_isInstance (T:= "dict") (b:=true) hTb (by rw[isSubtype_type];kernel_rfl) ?_)
 simp only[Bool.not_true,bF,if_false]
 refine wpAny_bind (wpAny_of_eq (a:=a) rfl ?_)
 refine wpAny_bind (wpAny_of_eq (a:=b) rfl ?_)
 refine wpAny_bind (vJ ha hb (wpAny_pure ?_))
 show R (.ok (.ret (.bool ((i==j&&x==y)==true)))) s
 rw[beq_true]
 exact h
theorem aGS(a b:Addr)(i x j y:Int):Meets (Builtin.«dict.__ne__» ⟨[.ref a,.ref b],[]⟩) (λA R s=>nC s.heap a i x/\nC s.heap b j y/\R (.ok (.ret (.bool (!(i==j&&x==y))))) s):=by
 intro prog w A R s h
 obtain⟨ha,hb,h⟩:=h
 have hTa:s.TypeIs (.ref a) "dict" := let ⟨_,_,_,ho,_⟩:=ha;⟨_,ho,rfl⟩
 have hTb:s.TypeIs (.ref b) "dict" := let ⟨_,_,_,ho,_⟩:=hb;⟨_,ho,rfl⟩
 show wpAny _ _ (Builtin.Dict.dictSlotArgs "__ne__" ⟨[.ref a,.ref b],[]⟩ >>= _) _ _ _
 unfold Builtin.Dict.dictSlotArgs
 refine wpAny_bind (wpAny_bind (wpAny_notOrdered_dict hTa ?_))
 refine wpAny_bind (wpAny_of_eq (a:=(Value.ref a,[Value.ref b])) rfl (wpAny_pure ?_))
 refine wpAny_bind (wpAny_isInstance (T:= "dict") (b:=true) hTb (by rw[isSubtype_type];kernel_rfl) ?_)
 simp only[Bool.not_true,bF,if_false]
 refine wpAny_bind (wpAny_of_eq (a:=a) rfl ?_)
 refine wpAny_bind (wpAny_of_eq (a:=b) rfl ?_)
 refine wpAny_bind (vJ ha hb (wpAny_pure ?_))
 show R (.ok (.ret (.bool ((i==j&&x==y)==false)))) s
 rw[beq_false]
 exact h
theorem aEN{A:Around}{s:Shared}{a b:Addr}{i x j y:Int}(hu:A.units<cLine)(ha:nC s.heap a i x)(hb:nC s.heap b j y) :
 RcAt A s (.ref a) (.ref b) (i==j&&x==y)/\RcNeAt A s (.ref a) (.ref b) (!(i==j&&x==y)):=by
 have hTa:s.TypeIs (.ref a) "dict" := let ⟨_,_,_,ho,_⟩:=ha;⟨_,ho,rfl⟩
 have hTb:s.TypeIs (.ref b) "dict" := let ⟨_,_,_,ho,_⟩:=hb;⟨_,ho,rfl⟩
 have h1:RcAt A s (.ref a) (.ref b) (i==j&&x==y):=λprog w E Q h=>
  richCompare_meets_room (op:=.Eq) hTa hTb F.slot_dict_eq F.entry_dict_eq (F.args_dict_eq_2 _ _) (aGR a b i x j y)
   ⟨ha,hb,show Value.bool (i==j&&x==y)≠Value.notImplemented/\Q (.bool (i==j&&x==y)) s from⟨(λz=>nomatch z),h⟩⟩ hu
 have h2:RcNeAt A s (.ref a) (.ref b) (!(i==j&&x==y)):=λprog w E Q h=>
  richCompare_meets_room (op:=.NotEq) hTa hTb F.slot_dict_ne F.entry_dict_ne (F.args_dict_ne_2 _ _) (aGS a b i x j y)
   ⟨ha,hb,show Value.bool (!(i==j&&x==y))≠Value.notImplemented/\Q (.bool (!(i==j&&x==y))) s from⟨(λz=>nomatch z),h⟩⟩ hu
 exact⟨h1,h2⟩
theorem aDE{P:Program}{w:World}{H:Hp}{h:Heap}{a:Addr}{i x:Int}(ok:HOk P w H h)(e:H a=some (.dK [(.inl i,.int x)])):nC h a i x:=by
 obtain⟨_,hs,vs,r,o,es,ep,ho,hx,hd,hk,hp,_⟩:=(show cO P w H h a (.dK [(.inl i,.int x)]) from ok a _ e)
 cases r with
 | @cons p q ps qs hpq t=>
  cases t
  obtain⟨k,v⟩:=q
  obtain⟨e1,u,e2⟩:Sum.inl i=k/\∃u,v=Value.int x u:=hpq
  subst e1 e2
  obtain⟨es⟩:=es
  cases hp with
  | @cons en kv es' kvs h1 h2 h3=>
   cases h3
   rcases keyIs_shape (show zH (.inl i) en.key=true from h1) with⟨i',t',e3,e4⟩|⟨x',t',e3,_⟩
   . cases e3
     obtain⟨k',g1,g2⟩:=hk en (by simp)
     have ek:k'=.inl i:=(eD P w).inj _ _ _ g1 h1
     subst ek
     obtain⟨hh,key,val⟩:=en
     obtain⟨c,d,dt,sl⟩:=o
     obtain⟨x1,x2,x3⟩:=hx
     have x1:c=.type "dict" := x1
     have x2:d=none:=x2
     have x3:sl=#[]:=x3
     have e4:key=.int i t':=e4
     have g2:hh=hashInt i:=g2
     have h2:val=.int x u:=h2
     have hd:dt=.dict #[⟨hh,key,val⟩] ep:=hd
     subst x1 x2 x3 e4 g2 h2 hd
     exact⟨t',u,ep,ho,hs⟩
   . cases e3
end L2
end
noncomputable section
namespace Hp
open PySem (Str Operator CmpOp)
inductive D where
 | non|bl (b:Bool)|int (i:Int)|str (x:Str)
 | tup (ds:List D)|lst (ds:List D)
 | dic (kvs:List (D×D))
 | err (c:Nat) (fs:List D)
 deriving Inhabited
mutual
noncomputable def noL:D->Bool
 | .tup ds=>noLs ds
 | .lst _=>false
 | .dic _=>false
 | .err _ _=>false
 | _=>true
noncomputable def noLs:List D->Bool
 | []=>true
 | d::ds=>noL d&&noLs ds
end
mutual
noncomputable def eT:D->Bool
 | .tup ds=>noDics ds
 | .lst ds=>noDics ds
 | .dic _=>false
 | _=>true
noncomputable def noDics:List D->Bool
 | []=>true
 | d::ds=>eT d&&noDics ds
end
noncomputable def lim:Nat:=1000000
noncomputable def lexG{α:Type}[DecidableEq α](lt:α->α->Bool):List α->List α->Bool
 | [],[]=>false
 | [],_::_=>true
 | _::_,[]=>false
 | x::xs,y::ys=>if x=y then lexG lt xs ys else lt x y
noncomputable def ltI(a b:Int):Bool:=decide (a<b)
abbrev lexJ:List Int->List Int->Bool:=lexG ltI
abbrev lexN:List (List Int)->List (List Int)->Bool:=lexG lexJ
noncomputable def b2i(b:Bool):Int:=if b then 1 else 0
noncomputable def eqL(f:D->D->Option Bool):List D->List D->Option Bool
 | [],[]=>some true
 | a::as,b::bs=>match f a b,eqL f as bs with
  | some x,some y=>some (x&&y)
  | _,_=>none
 | _,_=>some false
noncomputable def eqF:Nat->D->D->Option Bool
 | 0,_,_=>none
 | n+1,a,b=>match a,b with
  | .non,.non=>some true
  | .bl a,.bl b=>some (a==b)
  | .int a,.int b=>some (a==b)
  | .str a,.str b=>some (a==b)
  | .bl a,.int b=>some (b2i a==b)
  | .int a,.bl b=>some (a==b2i b)
  | .tup as,.tup bs=>eqL (eqF n) as bs
  | .lst as,.lst bs=>if as.length=bs.length then eqL (eqF n) as bs else some false
  | .dic [(.int a,.int x)],.dic [(.int b,.int y)]=>some (a==b&&x==y)
  | .dic _,_=>none
  | _,.dic _=>none
  | .err _ _,_=>none
  | _,.err _ _=>none
  | _,_=>some false
noncomputable def cP(n:Nat):List D->List D->Option Bool
 | [],[]=>some true
 | a::as,b::bs=>match eqF n a b,cP n as bs with
  | some x,some y=>some (x&&y)
  | _,_=>none
 | _,_=>some false
@[simp] theorem pN (n:Nat):∀as bs:List D,eqL (eqF n) as bs=cP n as bs
 | [],[]=>rfl
 | [],_::_=>rfl
 | _::_,[]=>rfl
 | a::as,b::bs=>by rw[eqL,cP,pN n as bs]
noncomputable def hG:Nat:=120
noncomputable def eqD(a b:D):Option Bool:=eqF hG a b
inductive R (α:Type) where
 | ok (a:α)|exc (x:D)|bad
 deriving Inhabited
noncomputable def R.bind{α β:Type}(x:R α)(f:α->R β):R β:=match x with
 | .ok a=>f a
 | .exc e=>.exc e
 | .bad=>.bad
instance:Monad R where
 pure:=.ok
 bind:=.bind
noncomputable def R.of{α:Type}:Option α->R α
 | some a=>.ok a
 | none=>.bad
noncomputable def R.iff{α:Type}(c:Bool)(x:R α):R α:=if c then x else .bad
structure Vl where
 d:D
 fr:Bool:=false
 pa:Bool:=false
 al:List Nat:=[]
 deriving Inhabited
noncomputable def Vl.cl(d:D):Vl:=⟨d,false,false,[]⟩
noncomputable def Vl.sub(v:Vl)(d:D):Vl:=if noL d then .cl d else ⟨d,false,v.pa,v.al⟩
inductive Sl where
 | dead|sh (pa:Bool) (d:D)|own (pa:Bool) (ds:List D)|dct (ks:List (List (List Int)×D))
 deriving Inhabited
abbrev Sg:=List Sl
noncomputable def Sl.val(i:Nat):Sl->R Vl
 | .dead=>.bad
 | .sh pa d=>.ok ⟨d,false,pa&&!noL d,[]⟩
 | .own pa ds=>.ok ⟨.lst ds,false,pa,[i]⟩
 | .dct _=>.bad
noncomputable def bX(σ:Sg)(i:Nat):R Vl:=match σ[i]? with
 | some s=>s.val i
 | none=>.bad
noncomputable def Sl.freeze:Sl->Sl
 | .own pa ds=>.sh pa (.lst ds)
 | s=>s
noncomputable def freeze(σ:Sg):List Nat->Sg
 | []=>σ
 | i::is=>freeze (match σ[i]? with|some s=>σ.set i s.freeze|none=>σ) is
noncomputable def Vl.slot(v:Vl):Sl:=match v.fr,v.d with
 | true,.lst ds=>.own v.pa ds
 | _,d=>.sh v.pa d
inductive Bi where
 | len|list|tuple|min|max|abs|int|str|sum|all|any|sorted|bool|repr
 deriving DecidableEq,Inhabited
inductive Mt where
 | join|upper|lower|get|startswith|endswith|index|count|copy|isdigit|find|replace|split|strip
 deriving DecidableEq,Inhabited
inductive Cl where
 | tInt|tBool|tStr|tList|tTuple|tDict|own (c:Nat)|tValueError
 deriving DecidableEq,Inhabited
inductive T where
 | n (i:Nat)
 | t (ts:List Nat)
 deriving Inhabited
mutual
inductive E where
 | c (d:D)
 | v (i:Nat)
 | op (o:Operator) (a b:E)
 | neg (a:E)
 | nt (a:E)
 | an (a b:E)
 | orr (a b:E)
 | ife (t a b:E)
 | cmp (o:CmpOp) (a b:E)
 | cmp2 (o o':CmpOp) (a b c:E)
 | idx (a b:E)
 | sli (a:E) (lo hi:Es)
 | tup (es:Es)
 | lst (es:Es)
 | dic (ks vs:Es)
 | call (f:Nat) (es:Es)
 | bi (b:Bi) (es:Es)
 | mth (m:Mt) (o:E) (es:Es)
 | isi (a:E) (cs:List Cl)
 | attr (a:E) (f:Nat)
 | comp (k:Nat) (caps:List Nat) (t:T) (it:It) (cond:Es) (elt:E)
 | numset (a:E)   -- len(set(a))
 | tget (i:Nat) (a:E)   -- a dict of the module,.get(a)
 | lzip (a b:E)   -- list(zip(a,b))
 | dnin (a:E) (j:Nat)   -- a not in a dict of one's own
 | dget (j:Nat) (a:E)   -- the value at a key in a dict of one's own
 | dlen (j:Nat)   -- len of a dict of one's own
 | din (a:E) (j:Nat)   -- a in a dict of one's own
 | dgd (j:Nat) (a:E) (d:D)   -- x.get(a,d),x a dict of one's own
 | srtD (j:Nat)   -- sorted(list(x)),x a dict of one's own
 | sop (o:Operator) (a b:E)   -- sorted(set(a) o set(b)),tuples of tuples of numbers
inductive Es where
 | nil|cons (e:E) (es:Es)
inductive It where
 | seq (e:E)|rng (a b:E)|zip (a b:E)|enum (a:E)|rev (a:E)
end
instance:Inhabited E:=⟨.c .non⟩
inductive Arg where
 | e (a:E)|pop (i:Nat)
 deriving Inhabited
mutual
inductive S where
 | set (t:T) (e:E)
 | mov (i j:Nat)
 | setIx (i:Nat) (k e:E)
 | app (i:Nat) (e:E)
 | ext (i:Nat) (e:E)
 | pop (t:Option T) (i:Nat) (at':Option E)
 | clr (i:Nat)
 | ins (i:Nat) (k e:E)
 | rev (i:Nat)
 | appCall (i:Nat) (f:Nat) (as:List Arg)
 | ret (e:E)
 | retv (i:Nat)
 | retN
 | iff (c:E) (a b:Ss)
 | for (t:T) (it:It) (b:Ss)
 | whl (c:E) (b:Ss)
 | brk|cnt|pass
 | ex (e:E)
 | dnew (i:Nat)   -- {}
 | dput (i:Nat) (e:E)   -- i[e]=True
 | dpv (i:Nat) (k a:E)   -- i[k]=a
 | dfrom (i:Nat) (e:E)   -- dict(e),e pairs of a key and a plain value
 | rse (c:Nat) (keep:Bool) (es:Es)
 | try (b:Ss) (hs:Hs)
inductive Ss where
 | nil|cons (s:S) (ss:Ss)
inductive Hs where
 | nil|cons (cs:List Cl) (n:Option Nat) (b:Ss) (hs:Hs)
end
structure Fn where
 np:Nat
 ns:Nat
 body:Ss
structure Pg where
 fns:List Fn
 above:List (List Cl)
 tabs:List (List (Str×D)):=[]
abbrev Rt:=D×Bool×Bool
abbrev Caller:=Nat->List D->R Rt
noncomputable def kT(i j:Int):Bool:=(decide (-(2 ^ 64)<i)&&decide (i<2 ^ 64))||(decide (-(2 ^ 64)<j)&&decide (j<2 ^ 64))
noncomputable def aDF(i j:Int):Bool:=decide (0<=j)&&decide (j<=1000)&&decide (i.natAbs<2 ^ 64)
noncomputable def vK(j:Int):Bool:=decide (0<j)&&decide (j<1073741824)
noncomputable def aF(k:Int):Bool:=decide (-(2 ^ 62)<=k)&&decide (k<2 ^ 62)
noncomputable def Str.rep(x:Str)(k:Nat):Str:=⟨(List.replicate k x.cps).foldl (·++·) #[]⟩
@[simp] noncomputable def aEO (x y:Vl):R Vl:=match x.d,y.d with
 | .int i,.int j=>.ok (.cl (.int (i+j)))
 | .str a,.str b=>.iff (decide (a.length+b.length<=lim)) (.ok (.cl (.str (a++b))))
 | .tup a,.tup b=>.iff (decide (a.length+b.length<=lim)) (.ok ⟨.tup (a++b),false,x.pa||y.pa,x.al++y.al⟩)
 | .lst a,.lst b=>.iff (decide (a.length+b.length<=lim)) (.ok ⟨.lst (a++b),true,(x.pa&&!noLs a)||(y.pa&&!noLs b),(if noLs a then [] else x.al)++(if noLs b then [] else y.al)⟩)
 | _,_=>.bad
@[simp] noncomputable def aEP (x y:Vl):R Vl:=match x.d,y.d with
 | .int i,.int j=>.iff (kT i j) (.ok (.cl (.int (i*j))))
 | .str a,.int k=>.iff (aF k&&decide (a.length*k.toNat<=lim)) (.ok (.cl (.str (Str.rep a k.toNat))))
 | .lst a,.int k=>.iff (x.fr&&aF k&&decide (a.length*k.toNat<=lim)&&noLs a) (.ok ⟨.lst (List.replicate k.toNat a).flatten,true,false,[]⟩)
 | .tup a,.int k=>.iff (decide (1<=k)&&aF k&&!a.isEmpty&&decide (a.length*k.toNat<=lim)&&noLs a) (.ok (.cl (.tup (List.replicate k.toNat a).flatten)))
 | _,_=>.bad
@[simp] noncomputable def rR (f:Int->Int->R Vl) (x y:Vl):R Vl:=match x.d,y.d with
 | .int i,.int j=>f i j
 | _,_=>.bad
noncomputable def opD(o:Operator)(x y:Vl):R Vl:=match o with
 | .Add=>aEO x y
 | .Mult=>aEP x y
 | .Sub=>rR (λi j=>.ok (.cl (.int (i-j)))) x y
 | .FloorDiv=>rR (λi j=>.iff (vK j) (.ok (.cl (.int (i / j))))) x y
 | .Mod=>rR (λi j=>.iff (decide (0<j)) (.ok (.cl (.int (i % j))))) x y
 | .Pow=>rR (λi j=>.iff (aDF i j) (.ok (.cl (.int (i ^ j.toNat))))) x y
 | _=>.bad
noncomputable def yE:D->Option Bool
 | .non=>some false
 | .bl b=>some b
 | .int i=>some (i != 0)
 | .str x=>if x.length<=lim then some (x.length != 0) else none
 | .tup ds=>some (!ds.isEmpty)
 | .lst ds=>some (!ds.isEmpty)
 | _=>none
noncomputable def dQ(x:Vl):R Bool:=.of (yE x.d)
noncomputable def bB:List D->Option (List Int)
 | []=>some []
 | .int a::ds=>match bB ds with
  | some ns=>some (a::ns)
  | none=>none
 | _=>none
noncomputable def aCx:List Int->List Int->Bool
 | [],[]=>false
 | [],_::_=>true
 | _::_,[]=>false
 | x::xs,y::ys=>if x=y then aCx xs ys else decide (x<y)
noncomputable def aCy(as bs:List D):Option Bool:=match bB as,bB bs with
 | some ns,some ms=>some (aCx ns ms)
 | _,_=>none
noncomputable def ltD:D->D->Option Bool
 | .int a,.int b=>some (decide (a<b))
 | .tup as,.tup bs=>aCy as bs
 | _,_=>none
noncomputable def leD:D->D->Option Bool
 | .int a,.int b=>some (decide (a<=b))
 | _,_=>none
noncomputable def isNone:D->Bool
 | .non=>true
 | _=>false
noncomputable def rS(x:D):List D->Option Bool
 | []=>some false
 | y::ys=>match eqD y x,rS x ys with
  | some a,some b=>some (a||b)
  | _,_=>none
noncomputable def inD(x y:D):Option Bool:=match x,y with
 | x,.lst ys=>if noDics ys then rS x ys else none
 | x,.tup ys=>if noDics ys then rS x ys else none
 | .str a,.str b=>some (!(PySem.Builtin.Str.occurrences b a 0 b.length 1).isEmpty)
 | _,_=>none
noncomputable def bZ(o:CmpOp)(x y:D):Option Bool:=match o with
 | .Eq=>eqD x y
 | .NotEq=>(eqD x y).map (!·)
 | .Lt=>ltD x y
 | .Gt=>match x,y with
  | .int a,.int b=>some (decide (b<a))
  | _,_=>none
 | .LtE=>leD x y
 | .GtE=>match x,y with
  | .int a,.int b=>some (decide (b<=a))
  | .tup as,.tup bs=>(aCy as bs).map (!·)
  | _,_=>none
 | .Is=>match y with
  | .non=>some (isNone x)
  | _=>none
 | .IsNot=>match y with
  | .non=>some (!isNone x)
  | _=>none
 | .In=>inD x y
 | .NotIn=>(inD x y).map (!·)
noncomputable def ixN(n:Nat)(k:Int):Option Nat:=
 if 0<=k then (if k<n then some k.toNat else none) else (if -(n:Int)<=k then some (k+n).toNat else none)
noncomputable def dW(x y:Vl):R Vl:=match x.d,y.d with
 | .lst ds,.int k=>match ixN ds.length k with
  | some j=>match ds[j]? with
   | some d=>.ok (x.sub d)
   | none=>.bad
  | none=>.bad
 | .tup ds,.int k=>match ixN ds.length k with
  | some j=>match ds[j]? with
   | some d=>.ok (x.sub d)
   | none=>.bad
  | none=>.bad
 | .str a,.int k=>.iff (decide (a.length<=lim)) (match ixN a.length k with
  | some j=>match a.cps.toList[j]? with
   | some c=>.ok (.cl (.str ⟨#[c]⟩))
   | none=>.bad
  | none=>.bad)
 | _,_=>.bad
noncomputable def sIx(n d:Nat):Option Int->Nat
 | none=>d
 | some v=>if v<0 then (v+(n:Int)).toNat else min v.toNat n
noncomputable def cut{α:Type}(xs:List α)(lo hi:Option Int):List α:=(xs.drop (sIx xs.length 0 lo)).take (sIx xs.length xs.length hi-sIx xs.length 0 lo)
noncomputable def uC(x:Str)(lo hi:Option Int):Str:=⟨(cut x.cps.toList lo hi).toArray⟩
noncomputable def dD(x:Vl)(lo hi:Option Int):R Vl:=match x.d with
 | .lst ds=>.ok ⟨.lst (cut ds lo hi),true,x.pa&&!noLs ds,if noLs ds then [] else x.al⟩
 | .tup ds=>.ok ⟨.tup (cut ds lo hi),false,x.pa&&!noLs ds,if noLs ds then [] else x.al⟩
 | .str a=>.iff (decide (a.length<=lim)) (.ok (.cl (.str (uC a lo hi))))
 | _=>.bad
noncomputable def isI(cs:List Cl)(P:Pg):D->Option Bool
 | .non=>some false
 | .bl _=>some (cs.contains .tBool||cs.contains .tInt)
 | .int _=>some (cs.contains .tInt)
 | .str _=>some (cs.contains .tStr)
 | .tup _=>some (cs.contains .tTuple)
 | .lst _=>some (cs.contains .tList)
 | .dic _=>some (cs.contains .tDict)
 | .err c _=>match P.above[c]? with
  | some ab=>some (ab.any λa=>cs.contains a)
  | none=>none
noncomputable def aJp(i:Int):Str:=(toString i:String)
noncomputable def aEQ:List D->Int->Option Int
 | [],a=>some a
 | .int i::ds,a=>aEQ ds (a+i)
 | .bl b::ds,a=>aEQ ds (a+b2i b)
 | _,_=>none
noncomputable def pO:List D->Option (List Bool)
 | []=>some []
 | .bl a::ds=>match pO ds with
  | some bs=>some (a::bs)
  | none=>none
 | _=>none
noncomputable def pP:List D->Option (List (Sum Int Str))
 | []=>some []
 | .int a::ds=>match pP ds with
  | some ks=>some (.inl a::ks)
  | none=>none
 | .str a::ds=>match pP ds with
  | some ks=>some (.inr a::ks)
  | none=>none
 | _=>none
noncomputable def aAk(ks:List (Sum Int Str)):List (Sum Int Str):=ks.foldl (λσ v=>if σ.any (·==v) then σ else σ++[v]) []
noncomputable def aGT(x:D):List D->Option (List D)
 | []=>some [x]
 | y::ys=>match ltD x y with
  | some true=>some (x::y::ys)
  | some false=>match aGT x ys with
   | some r=>some (y::r)
   | none=>none
  | none=>none
noncomputable def aDG:List D->Option (List D)
 | []=>some []
 | d::ds=>match aDG ds with
  | some r=>aGT d r
  | none=>none
noncomputable def aAl(x:Str):Bool:=x.cps.all λc=>decide (97<=c)&&decide (c<=122)
mutual
noncomputable def wt:D->Nat
 | .non=>4
 | .bl _=>5
 | .int i=>if i.natAbs<1000000000 then 10 else lim
 | .str x=>if aAl x then x.length+2 else lim
 | .tup ds=>3+wts ds
 | .lst ds=>2+wts ds
 | .dic _=>lim
 | .err _ _=>lim
noncomputable def wts:List D->Nat
 | []=>0
 | d::ds=>wt d+2+wts ds
end
mutual
noncomputable def dpt:D->Nat
 | .tup ds=>dpts ds+1
 | .lst ds=>dpts ds+1
 | .non=>0
 | .bl _=>0
 | .int _=>0
 | .str _=>0
 | .dic _=>0
 | .err _ _=>0
noncomputable def dpts:List D->Nat
 | []=>0
 | d::ds=>max (dpt d) (dpts ds)
end
mutual
noncomputable def eI:D->PySem.PyData
 | .non=>.none
 | .bl b=>.bool b
 | .int i=>.int i
 | .str x=>.str x
 | .tup ds=>.tuple (toPys ds)
 | .lst ds=>.list (toPys ds)
 | .dic _=>.none
 | .err _ _=>.none
noncomputable def toPys:List D->List PySem.PyData
 | []=>[]
 | d::ds=>eI d::toPys ds
end
noncomputable def aGU(d:D):Str:=(eI d).shown
@[simp] noncomputable def aER (b:Bi) (x:Vl):R Vl:=match b with
 | .len=>match x.d with
  | .lst ds=>.ok (.cl (.int ds.length))
  | .tup ds=>.ok (.cl (.int ds.length))
  | .str a=>.iff (decide (a.length<=lim)) (.ok (.cl (.int a.length)))
  | _=>.bad
 | .list=>match x.d with
  | .lst ds=>.ok ⟨.lst ds,true,x.pa&&!noLs ds,if noLs ds then [] else x.al⟩
  | .tup ds=>.ok ⟨.lst ds,true,x.pa&&!noLs ds,if noLs ds then [] else x.al⟩
  | _=>.bad
 | .tuple=>match x.d with
  | .lst ds=>.ok ⟨.tup ds,false,x.pa&&!noLs ds,if noLs ds then [] else x.al⟩
  | .tup ds=>.ok ⟨.tup ds,false,x.pa,x.al⟩
  | _=>.bad
 | .abs=>match x.d with
  | .int i=>.ok (.cl (.int (if i<0 then -i else i)))
  | _=>.bad
 | .int=>match x.d with
  | .int i=>.ok (.cl (.int i))
  | .bl b=>.ok (.cl (.int (b2i b)))
  | _=>.bad
 | .bool=>match yE x.d with
  | some k=>.ok (.cl (.bl k))
  | none=>.bad
 | .str=>match x.d with
  | .int i=>.iff (decide (i.natAbs<2 ^ 1000)) (.ok (.cl (.str (aJp i))))
  | _=>.bad
 | .repr=>match x.d with
  | .tup ds=>.iff (decide (wt (.tup ds)<lim)&&decide (dpt (.tup ds)<=60)) (.ok (.cl (.str (aGU (.tup ds)))))
  | _=>.bad
 | .sum=>match x.d with
  | .lst ds=>match aEQ ds 0 with
   | some i=>.ok (.cl (.int i))
   | none=>.bad
  | _=>.bad
 | .all=>match x.d with
  | .lst ds=>match pO ds with
   | some bs=>.ok (.cl (.bl (bs.all id)))
   | none=>.bad
  | _=>.bad
 | .any=>match x.d with
  | .lst ds=>match pO ds with
   | some bs=>.ok (.cl (.bl (bs.any id)))
   | none=>.bad
  | _=>.bad
 | .sorted=>match x.d with
  | .lst ds=>match aDG ds with
   | some r=>.ok ⟨.lst r,true,x.pa&&!noLs ds,if noLs ds then [] else x.al⟩
   | none=>.bad
  | _=>.bad
 | _=>.bad
@[simp] noncomputable def aJq (b:Bi) (x y:Vl):R Vl:=match b with
 | .min=>match x.d,y.d with
  | .int i,.int j=>.ok (.cl (.int (if j<i then j else i)))
  | _,_=>.bad
 | .max=>match x.d,y.d with
  | .int i,.int j=>.ok (.cl (.int (if j>i then j else i)))
  | _,_=>.bad
 | _=>.bad
noncomputable def biD(b:Bi)(xs:List Vl):R Vl:=match xs with
 | [x]=>aER b x
 | [x,y]=>aJq b x y
 | _=>.bad
noncomputable def aAm:List D->Option (List Str)
 | []=>some []
 | .str x::ds=>match aAm ds with
  | some r=>some (x::r)
  | none=>none
 | _=>none
noncomputable def aGV:D->D->Bool
 | .int a,.int b=>a==b
 | .str a,.str b=>a==b
 | _,_=>false
noncomputable def aGW:D->Bool
 | .int _=>true
 | .str _=>true
 | _=>false
noncomputable def aDH(k:D):List (D×D)->Option D
 | []=>none
 | (a,d)::r=>if aGV a k then some d else aDH k r
noncomputable def upC(n:Nat):Nat:=if 97<=n/\n<=122 then n-32 else n
noncomputable def mtD(m:Mt)(x:Vl)(ys:List Vl):R Vl:=match m,x.d,ys with
 | .join,.str a,[y]=>match y.d with
  | .lst ds=>match aAm ds with
   | some xs=>.iff (decide ((xs.map (·.length)).sum+xs.length*a.length<=lim)) (.ok (.cl (.str (PySem.Str.join a xs))))
   | none=>.bad
  | _=>.bad
 | .get,.dic kvs,[y]=>.iff (aGW y.d) (match aDH y.d kvs with
  | some d=>.ok (x.sub d)
  | none=>.ok (.cl .non))
 | .upper,.str a,[]=>.iff (a.cps.all (·<128)) (.ok (.cl (.str ⟨a.cps.map upC⟩)))
 | _,_,_=>.bad
noncomputable def bK(vs:List Vl):List Nat:=vs.flatMap (·.al)
noncomputable def dH(vs:List Vl):Bool:=vs.any (·.pa)
noncomputable def kW(vs:List Vl):Vl:=⟨.tup (vs.map (·.d)),false,dH vs,bK vs⟩
noncomputable def cB(vs:List Vl):Vl:=⟨.lst (vs.map (·.d)),true,dH vs,bK vs⟩
noncomputable def eW(args:List Vl)(r:Rt):Vl:=if r.2.2 then ⟨r.1,r.2.1,dH args,bK args⟩ else ⟨r.1,r.2.1,false,[]⟩
noncomputable def eJ(a b:Int):List D:=(List.range (b-a).toNat).map λ(k:Nat)=>.int (a+(k:Int))
noncomputable def aDI:Int->List D->List D
 | _,[]=>[]
 | k,d::ds=>.tup [.int k,d]::aDI (k+1) ds
noncomputable def aAn:List D->List D->List D
 | a::as,b::bs=>.tup [a,b]::aAn as bs
 | _,_=>[]
noncomputable def setT(σ:Sg)(v:Vl):T->R Sg
 | .n i=>.ok (σ.set i v.slot)
 | .t is=>match v.d with
  | .tup ds=>if ds.length=is.length then .ok ((is.zip ds).foldl (λσ p=>σ.set p.1 (v.sub p.2).slot) σ) else .bad
  | _=>.bad
noncomputable def cE(f:Vl->R (Option Vl)):List Vl->R (List Vl)
 | []=>.ok []
 | x::xs=>do
  let y<-f x
  let ys<-cE f xs
  match y with
  | some y=>.ok (y::ys)
  | none=>.ok ys
noncomputable def nD:D->Option (List D)
 | .lst ds=>some ds
 | .tup ds=>some ds
 | _=>none
noncomputable def items(x:Vl)(ds:List D):List Vl:=ds.map x.sub
noncomputable def kX:List D->Option (List (List Int))
 | []=>some []
 | .tup as::ds=>match bB as,kX ds with
  | some a,some r=>some (a::r)
  | _,_=>none
 | _=>none
noncomputable def dE:D->Option (List (List Int))
 | .tup ds=>kX ds
 | _=>none
noncomputable def putK(ks:List (List (List Int)×D))(k:List (List Int)×D):List (List (List Int)×D):=if k.1∈ks.map (·.1) then ks.map (λx=>if x.1=k.1 then (x.1,k.2) else x) else ks++[k]
noncomputable def dI:List D->Option (List (List (List Int)))
 | []=>some []
 | d::ds=>match dE d,dI ds with
  | some k,some ks=>some (k::ks)
  | _,_=>none
noncomputable def nE(k:List (List Int)):List (List (List Int))->List (List (List Int))
 | []=>[k]
 | y::ys=>if lexN k y then k::y::ys else if k=y then y::ys else y::nE k ys
noncomputable def ssN(ks:List (List (List Int))):List (List (List Int)):=ks.foldr nE []
noncomputable def aA(k:List (List Int)):D:=.tup (k.map λt=>.tup (t.map .int))
noncomputable def neN(ks:List (List (List Int))):Bool:=ks.all λk=>!k.isEmpty
noncomputable def opN(o:Operator)(ks js:List (List (List Int))):Option (List (List (List Int))):=match o with
 | .BitOr=>if (ssN ks).length+(ssN js).length<=700 then some (ssN (ks++js)) else none
 | .BitAnd=>if (ssN ks).length<=700/\(ssN js).length<=700 then some (ssN (ks.filter λk=>decide (k∈js))) else none
 | _=>none
noncomputable def fA:D->Bool
 | .int _|.bl _=>true
 | _=>false
noncomputable def bY(ks:List (List (List Int)×D))(k:List (List Int)):Option D:=(ks.find? λx=>decide (x.1=k)).map (·.2)
noncomputable def aAo:List D->Option (List (List (List Int)×D))
 | []=>some []
 | .tup [k,v]::ds=>match dE k,fA v,aAo ds with
  | some a,true,some r=>some ((a,v)::r)
  | _,_,_=>none
 | _=>none
noncomputable def hU(k:Nat)(caps al:List Nat)(vs:List Vl):Vl:=
 if noLs (vs.map (·.d)) then ⟨.lst (vs.map (·.d)),true,false,[]⟩
 else ⟨.lst (vs.map (·.d)),true,dH vs,al++(bK vs).filterMap λj=>caps[j-k]?⟩
noncomputable def aDJ(x y:Vl)(ds:List D):Vl:=if noLs ds then ⟨.lst ds,true,false,[]⟩ else ⟨.lst ds,true,x.pa||y.pa,x.al++y.al⟩
section
variable (P:Pg) (cl:Caller)
mutual
noncomputable def ev(σ:Sg):E->R Vl
 | .c d=>.ok (.cl d)
 | .v i=>bX σ i
 | .op o a b=>do let x<-ev σ a;let y<-ev σ b;opD o x y
 | .neg a=>do
  let x<-ev σ a
  match x.d with
  | .int i=>.ok (.cl (.int (-i)))
  | _=>.bad
 | .nt a=>do let x<-ev σ a;let k<-dQ x;.ok (.cl (.bl (!k)))
 | .an a b=>do
  let x<-ev σ a
  match x.d with
  | .bl true=>ev σ b
  | .bl false=>.ok (.cl (.bl false))
  | _=>.bad
 | .orr a b=>do
  let x<-ev σ a
  match x.d with
  | .bl true=>.ok (.cl (.bl true))
  | .bl false=>ev σ b
  | _=>.bad
 | .ife t a b=>do
  let x<-tst σ t
  if x then ev σ a else ev σ b
 | .cmp o a b=>do
  let x<-ev σ a
  let y<-ev σ b
  match bZ o x.d y.d with
  | some k=>.ok (.cl (.bl k))
  | none=>.bad
 | .cmp2 o o' a b c=>do
  let x<-ev σ a
  let y<-ev σ b
  match bZ o x.d y.d with
  | some true=>do
   let z<-ev σ c
   match bZ o' y.d z.d with
   | some k=>.ok (.cl (.bl k))
   | none=>.bad
  | some false=>.ok (.cl (.bl false))
  | none=>.bad
 | .idx a b=>do let x<-ev σ a;let y<-ev σ b;dW x y
 | .sli a lo hi=>do
  let x<-ev σ a
  let l<-evs σ lo
  let h<-evs σ hi
  match l,h with
  | [],[]=>dD x none none
  | [l],[]=>match l.d with
   | .int l=>.iff (aF l) (dD x (some l) none)
   | _=>.bad
  | [],[h]=>match h.d with
   | .int h=>.iff (aF h) (dD x none (some h))
   | _=>.bad
  | [l],[h]=>match l.d,h.d with
   | .int l,.int h=>.iff (aF l&&aF h) (dD x (some l) (some h))
   | _,_=>.bad
  | _,_=>.bad
 | .tup es=>do let vs<-evs σ es;.ok (kW vs)
 | .lst es=>do let vs<-evs σ es;.ok (cB vs)
 | .dic ks vs=>do
  let ks<-evs σ ks
  let vs<-evs σ vs
  match (ks.map (λ(v:Vl)=>v.d):List D),(vs.map (λ(v:Vl)=>v.d):List D) with
  | [.int k],[.int v]=>.ok (.cl (.dic [(.int k,.int v)]))
  | _,_=>.bad
 | .call f es=>do
  let vs<-evs σ es
  let r<-cl f (vs.map (·.d))
  .ok (eW vs r)
 | .bi b es=>do let vs<-evs σ es;biD b vs
 | .mth m o es=>do let x<-ev σ o;let ys<-evs σ es;mtD m x ys
 | .isi a cs=>do
  let x<-ev σ a
  match isI cs P x.d with
  | some k=>.ok (.cl (.bl k))
  | none=>.bad
 | .attr a f=>do
  let x<-ev σ a
  match x.d with
  | .err _ fs=>match fs[f]? with
   | some d=>.ok (x.sub d)
   | none=>.bad
  | _=>.bad
 | .comp k caps t it cond elt=>do
  let xs<-walk σ it
  let vs<-cE (λx=>do
   let σ1<-setT (List.replicate k .dead++caps.map λi=>((freeze σ xs.2)[i]?).getD .dead) x t
   let k<-tsts σ1 cond
   if k then do let y<-ev σ1 elt;.ok (some y) else .ok none) xs.1
  .iff (decide (vs.length<=lim)) (.ok (hU k caps xs.2 vs))
 | .numset a=>do
  let x<-ev σ a
  match x.d with
  | .lst ds=>match pP ds with
   | some ks=>.iff (decide (ds.length<=1000)) (.ok (.cl (.int (aAk ks).length)))
   | none=>.bad
  | _=>.bad
 | .tget i a=>do
  let x<-ev σ a
  match x.d,P.tabs[i]? with
  | .str k,some t=>.ok (.cl ((t.lookup k).getD .non))
  | _,_=>.bad
 | .lzip a b=>do
  let x<-ev σ a
  let y<-ev σ b
  match nD x.d,nD y.d with
  | some as,some bs=>.iff (decide (as.length<=lim)) (.ok (aDJ x y (aAn as bs)))
  | _,_=>.bad
 | .dnin a j=>do
  let x<-ev σ a
  match σ[j]?,dE x.d with
  | some (.dct ks),some k=>.ok (.cl (.bl (!decide (k∈ks.map (·.1)))))
  | _,_=>.bad
 | .dget j a=>do
  let x<-ev σ a
  match σ[j]?,dE x.d with
  | some (.dct ks),some k=>(match bY ks k with
   | some d=>.iff (fA d) (.ok (.cl d))
   | none=>.bad)
  | _,_=>.bad
 | .din a j=>do
  let x<-ev σ a
  match σ[j]?,dE x.d with
  | some (.dct ks),some k=>.ok (.cl (.bl (decide (k∈ks.map (·.1)))))
  | _,_=>.bad
 | .dgd j a d=>do
  let x<-ev σ a
  match σ[j]?,dE x.d with
  | some (.dct ks),some k=>.iff (fA d) (match bY ks k with
   | some v=>.iff (fA v) (.ok (.cl v))
   | none=>.ok (.cl d))
  | _,_=>.bad
 | .srtD j=>match σ[j]? with
  | some (.dct ks)=>.iff (neN (ks.map (·.1))&&decide (ks.length<=700)) (.ok ⟨.lst ((ssN (ks.map (·.1))).map aA),true,false,[]⟩)
  | _=>.bad
 | .sop o a b=>do
  let x<-ev σ a
  let y<-ev σ b
  match x.d,y.d with
  | .lst as,.lst bs=>match dI as,dI bs with
   | some ks,some js=>.iff (neN ks&&neN js) (match opN o ks js with
    | some r=>.ok ⟨.lst (r.map aA),true,false,[]⟩
    | none=>.bad)
   | _,_=>.bad
  | _,_=>.bad
 | .dlen j=>match σ[j]? with
  | some (.dct ks)=>.ok (.cl (.int ks.length))
  | _=>.bad
noncomputable def tst(σ:Sg):E->R Bool
 | .nt a=>do let x<-tst σ a;.ok (!x)
 | .an a b=>do
  let x<-tst σ a
  if x then tst σ b else .ok false
 | .orr a b=>do
  let x<-tst σ a
  if x then .ok true else tst σ b
 | .c d=>dQ (.cl d)
 | .v i=>do let x<-bX σ i;dQ x
 | .cmp o a b=>do
  let x<-ev σ a
  let y<-ev σ b
  match bZ o x.d y.d with
  | some k=>.ok k
  | none=>.bad
 | .cmp2 o o' a b c=>do
  let x<-ev σ a
  let y<-ev σ b
  match bZ o x.d y.d with
  | some true=>do
   let z<-ev σ c
   match bZ o' y.d z.d with
   | some k=>.ok k
   | none=>.bad
  | some false=>.ok false
  | none=>.bad
 | .call f es=>do
  let vs<-evs σ es
  let r<-cl f (vs.map (·.d))
  dQ (eW vs r)
 | .bi b es=>do let vs<-evs σ es;let x<-biD b vs;dQ x
 | .mth m o es=>do let x<-ev σ o;let ys<-evs σ es;let z<-mtD m x ys;dQ z
 | .idx a b=>do let x<-ev σ a;let y<-ev σ b;let z<-dW x y;dQ z
 | .isi a cs=>do
  let x<-ev σ a
  match isI cs P x.d with
  | some k=>.ok k
  | none=>.bad
 | .din a j=>do
  let x<-ev σ a
  match σ[j]?,dE x.d with
  | some (.dct ks),some k=>.ok (decide (k∈ks.map (·.1)))
  | _,_=>.bad
 | .dnin a j=>do
  let x<-ev σ a
  match σ[j]?,dE x.d with
  | some (.dct ks),some k=>.ok (!decide (k∈ks.map (·.1)))
  | _,_=>.bad
 | _=>.bad
noncomputable def evs(σ:Sg):Es->R (List Vl)
 | .nil=>.ok []
 | .cons e es=>do let x<-ev σ e;let xs<-evs σ es;.ok (x::xs)
noncomputable def walk(σ:Sg):It->R (List Vl×List Nat)
 | .seq e=>do
  let x<-ev σ e
  match x.d with
  | .lst ds=>.ok (items x ds,x.al)
  | .tup ds=>.ok (items x ds,x.al)
  | .str a=>.iff (decide (a.length<=lim)) (.ok (a.cps.toList.map λn=>.cl (.str ⟨#[n]⟩),[]))
  | _=>.bad
 | .rng a b=>do
  let x<-ev σ a
  let y<-ev σ b
  match x.d,y.d with
  | .int i,.int j=>.iff (aF i&&aF j) (.ok ((eJ i j).map .cl,[]))
  | _,_=>.bad
 | .zip a b=>do
  let x<-ev σ a
  let y<-ev σ b
  match nD x.d,nD y.d with
  | some as,some bs=>.ok (items ⟨.non,false,x.pa||y.pa,x.al++y.al⟩ (aAn as bs),x.al++y.al)
  | _,_=>.bad
 | .enum a=>do
  let x<-ev σ a
  match nD x.d with
  | some as=>.ok (items x (aDI 0 as),x.al)
  | none=>.bad
 | .rev a=>do
  let x<-ev σ a
  match nD x.d with
  | some as=>.ok (items x as.reverse,x.al)
  | none=>.bad
noncomputable def tsts(σ:Sg):Es->R Bool
 | .nil=>.ok true
 | .cons e es=>do
  let x<-tst σ e
  if x then tsts σ es else .ok false
end
inductive O where
 | next (σ:Sg)|brk (σ:Sg)|cnt (σ:Sg)|ret (v:Vl)|exc (x:D) (σ:Sg)|bad
 deriving Inhabited
noncomputable def O.from{α:Type}(σ:Sg)(x:R α)(f:α->O):O:=match x with
 | .ok a=>f a
 | .exc e=>.exc e σ
 | .bad=>.bad
noncomputable def O.on(o:O)(f:Sg->O):O:=match o with
 | .next σ=>f σ
 | o=>o
noncomputable def dX(f:Sg->Vl->O):List Vl->Sg->O
 | [],σ=>.next σ
 | x::xs,σ=>match f σ x with
  | .next σ'=>dX f xs σ'
  | .cnt σ'=>dX f xs σ'
  | .brk σ'=>.next σ'
  | o=>o
noncomputable def aAp(t:Sg->R Bool)(f:Sg->O):Nat->Sg->O
 | 0,_=>.bad
 | n+1,σ=>O.from σ (t σ) λk=>if k then (match f σ with
     | .next σ'=>aAp t f n σ'
     | .cnt σ'=>aAp t f n σ'
     | .brk σ'=>.next σ'
     | o=>o) else .next σ
noncomputable def aGX:Nat:=1000000
noncomputable def jN(σ:Sg)(i:Nat):Option (Bool×List D):=match σ[i]? with
 | some (.own pa ds)=>some (pa,ds)
 | _=>none
noncomputable def put(σ:Sg)(i:Nat)(v:Vl)(f:List D->Option (List D)):O:=match jN (freeze σ v.al) i with
 | some (pa,ds)=>match f ds with
  | some ds'=>if ds'.length<=lim then .next ((freeze σ v.al).set i (.own (pa||v.pa) ds')) else .bad
  | none=>.bad
 | none=>.bad
noncomputable def aDK(σ:Sg)(i:Nat)(v:Vl):O:=put σ i v λds=>some (ds++[v.d])
noncomputable def kY(v:Vl):Option (Vl×List D):=match v.fr,v.d with
 | true,.lst ds=>some (⟨.non,false,v.pa&&!noLs ds,if noLs ds then [] else v.al⟩,ds)
 | _,_=>none
noncomputable def hW(σ:Sg)(i:Nat)(k:Option Int):R (Vl×Sg):=match jN σ i with
 | some (pa,ds)=>match (match k with|none=>ixN ds.length (-1)|some k=>ixN ds.length k) with
  | some j=>match ds[j]? with
   | some d=>.ok (Vl.sub ⟨.non,false,pa,[]⟩ d,σ.set i (.own pa (ds.eraseIdx j)))
   | none=>.bad
  | none=>.bad
 | none=>.bad
noncomputable def uD(e:Sg->E->R Vl):Sg->List Vl->List Arg->R (List Vl×Sg)
 | σ,acc,[]=>.ok (acc,σ)
 | σ,acc,.e a::as=>do let x<-e σ a;uD e σ (acc++[x]) as
 | σ,acc,.pop j::as=>do
  let (x,σ')<-hW σ j none
  if (bK acc).contains j then .bad else uD e σ' (acc++[x]) as
noncomputable def vL(e:Option (R Vl)):R (Option Int):=match e with
 | none=>.ok none
 | some x=>do
  let v<-x
  match v.d with
  | .int k=>.iff (aF k) (.ok (some k))
  | _=>.bad
mutual
noncomputable def ex(σ:Sg):S->O
 | .set t e=>O.from σ (ev P cl σ e) λv=>O.from σ (setT (freeze σ v.al) v t) .next
 | .mov i j=>match σ[j]? with
  | some (.own pa ds)=>if i=j then .bad else .next ((σ.set j .dead).set i (.own pa ds))
  | some (.sh pa d)=>.next (σ.set i (.sh (pa&&!noL d) d))
  | _=>.bad
 | .setIx i k e=>O.from σ (ev P cl σ e) λv=>O.from σ (ev P cl σ k) λkv=>match kv.d with
  | .int k=>put σ i v λds=>match ixN ds.length k with
   | some j=>some (ds.set j v.d)
   | none=>none
  | _=>.bad
 | .app i e=>O.from σ (ev P cl σ e) λv=>aDK σ i v
 | .ext i e=>O.from σ (ev P cl σ e) λv=>match kY v with
  | some (v',ds')=>put σ i v' λds=>some (ds++ds')
  | none=>.bad
 | .pop t i k=>O.from σ (vL (k.map λe=>ev P cl σ e)) λk=>O.from σ (hW σ i k) λ(v,σ')=>match t with
  | none=>.next σ'
  | some t=>O.from σ' (setT σ' v t) .next
 | .clr i=>put σ i (.cl .non) λ_=>some []
 | .ins i k e=>O.from σ (ev P cl σ k) λkv=>O.from σ (ev P cl σ e) λv=>match kv.d with
  | .int k=>if 0<=k/\k<1000000 then put σ i v λds=>some (ds.take k.toNat++v.d::ds.drop k.toNat) else .bad
  | _=>.bad
 | .rev i=>put σ i (.cl .non) λds=>some ds.reverse
 | .appCall i f as=>O.from σ (uD (λσ a=>ev P cl σ a) σ [] as) λ(vs,σ')=>O.from σ' (cl f (vs.map (·.d))) λr=>aDK σ' i (eW vs r)
 | .ret e=>O.from σ (ev P cl σ e) .ret
 | .retv i=>match σ[i]? with
  | some (.own pa ds)=>.ret ⟨.lst ds,true,pa,[]⟩
  | _=>O.from σ (bX σ i) .ret
 | .retN=>.ret (.cl .non)
 | .iff c a b=>O.from σ (tst P cl σ c) λk=>if k then exs σ a else exs σ b
 | .for t it b=>O.from σ (walk P cl σ it) λxs=>dX (λσ x=>O.from σ (setT σ x t) λσ'=>exs σ' b) xs.1 (freeze σ xs.2)
 | .whl c b=>aAp (λσ=>tst P cl σ c) (λσ=>exs σ b) aGX σ
 | .brk=>.brk σ
 | .cnt=>.cnt σ
 | .pass=>.next σ
 | .ex e=>O.from σ (ev P cl σ e) λ_=>.next σ
 | .dnew i=>.next (σ.set i (.dct []))
 | .dpv i e a=>O.from σ (ev P cl σ a) λw=>O.from σ (ev P cl σ e) λv=>match σ[i]?,dE v.d with
  | some (.dct ks),some k=>if ks.length<lim/\fA w.d=true then .next (σ.set i (.dct (putK ks (k,w.d)))) else .bad
  | _,_=>.bad
 | .dput i e=>O.from σ (ev P cl σ e) λv=>match σ[i]?,dE v.d with
  | some (.dct ks),some k=>if ks.length<lim then .next (σ.set i (.dct (putK ks (k,.bl true)))) else .bad
  | _,_=>.bad
 | .dfrom i e=>O.from σ (ev P cl σ e) λv=>match v.fr,v.d with
  | true,.lst ds=>(match aAo ds with
   | some ks=>.next (σ.set i (.dct (ks.foldl putK [])))
   | none=>.bad)
  | _,_=>.bad
 | .rse c keep es=>O.from σ (evs P cl σ es) λvs=>.exc (.err c (if keep then vs.map (·.d) else [])) σ
 | .try b hs=>match exs σ b with
  | .exc x σ'=>hdl σ' x hs
  | o=>o
noncomputable def exs(σ:Sg):Ss->O
 | .nil=>.next σ
 | .cons s ss=>(ex σ s).on λσ'=>exs σ' ss
noncomputable def hdl(σ:Sg)(x:D):Hs->O
 | .nil=>.exc x σ
 | .cons cs n b hs=>match isI cs P x with
  | some true=>match n with
   | none=>exs σ b
   | some i=>match exs (σ.set i (.sh true x)) b with
    | .next σ'=>.next (σ'.set i .dead)
    | .brk σ'=>.brk (σ'.set i .dead)
    | .cnt σ'=>.cnt (σ'.set i .dead)
    | .exc x σ'=>.exc x (σ'.set i .dead)
    | o=>o
  | some false=>hdl σ x hs
  | none=>.bad
end
noncomputable def uE(f:Nat)(ds:List D):R Rt:=match P.fns[f]? with
 | none=>.bad
 | some F=>if ds.length=F.np then
  match exs P cl ((ds.map λd=>Sl.sh true d)++List.replicate (F.ns-F.np) Sl.dead) F.body with
  | .ret v=>.ok (v.d,v.fr,v.pa)
  | .next _=>.ok (.non,false,false)
  | .exc x _=>.exc x
  | _=>.bad
  else .bad
end
noncomputable def call(P:Pg):Nat->Caller
 | 0=>λ_ _=>.bad
 | n+1=>uE P (call P n)
end Hp
end
noncomputable section
namespace Hp
open PySem
structure Ct where
 N:List Str
 sc:List (Str×NameKind)
 fns:List Str
 cns:List (Str×D)
 cls:List Str
 fn:Bool
 tbs:List Str
noncomputable def aAq(Γ:Ct)(x:Str):Bool:=match Γ.sc.lookup x with
 | some .local=>true
 | some .cell=>true
 | some .free=>true
 | _=>false
noncomputable def rT(Γ:Ct)(x:Str):Bool:=match Γ.sc.lookup x with
 | some .local=>true
 | some .cell=>Γ.fn
 | _=>false
noncomputable def kZ(sc names:List (Str×NameKind)):List (Str×NameKind):=names.map λ(n,k)=>if (k==.free&&sc.lookup n==some .cell) then (n,.cell) else (n,k)
noncomputable def rU:Expr->Bool
 | .Tuple _ _ _=>true
 | _=>false
noncomputable def tIx:T->List Nat
 | .n i=>[i]
 | .t is=>is
noncomputable def cC(Γ:Ct)(x:Str):Bool:=match Γ.sc.lookup x with
 | some .globalImplicit=>true
 | _=>false
noncomputable def bR(x:Str):Bool:=!(x==("__debug__" : Str))&&!(x==("__classdict__" : Str))
noncomputable def aW(Γ:Ct)(i:Nat)(x:Str):Bool:=(Γ.N[i]?==some x)&&aAq Γ x&&bR x
noncomputable def aZ(Γ:Ct)(i:Nat)(x:Str):Bool:=(Γ.N[i]?==some x)&&rT Γ x&&bR x
noncomputable def eqC:D->Const->Bool
 | .non,.none=>true
 | .bl a,.bool b=>a==b
 | .int a,.int b=>a==b
 | .str a,.str b=>a==b
 | _,_=>false
noncomputable def eqK:D->D->Bool
 | .non,.non=>true
 | .bl a,.bl b=>a==b
 | .int a,.int b=>a==b
 | .str a,.str b=>a==b
 | _,_=>false
noncomputable def gL:Bi->Str
 | .len => "len" | .list => "list" | .tuple => "tuple" | .min => "min" | .max => "max" | .abs => "abs" | .int => "int" | .str => "str" | .sum => "sum" | .all => "all" | .any => "any" | .sorted => "sorted" | .bool => "bool" | .repr => "repr"
noncomputable def aAr:Bi->Bool
 | .len=>true|.list=>true
 | _=>false
noncomputable def aJr:Cl->Bool
 | .own _=>false
 | .tValueError=>false
 | _=>true
noncomputable def uF(Γ:Ct):Cl->Option Str
 | .tInt=>some "int" | .tBool=>some "bool" | .tStr=>some "str" | .tList=>some "list" | .tTuple=>some "tuple" | .tDict=>some "dict" | .tValueError=>some "ValueError"
 | .own c=>Γ.cls[c]?
noncomputable def aDL(Γ:Ct)(c:Cl):Expr->Bool
 | .Name x _=>(uF Γ c==some x)&&cC Γ x&&bR x
 | _=>false
noncomputable def jV(Γ:Ct):T->Expr->Bool
 | .n i,.Name x _=>aZ Γ i x
 | .t is,.Tuple es _ _=>is.length==es.length&&(is.zip es).all λp=>match p.2 with
  | .Name x _=>aZ Γ p.1 x
  | _=>false
 | _,_=>false
noncomputable def dR:Expr->List Str
 | .Name x _=>[x]
 | .Tuple es _ _=>es.filterMap fun|.Name x _=>some x|_=>none
 | _=>[]
noncomputable def uG:E->Bool
 | .c (.int i)=>i==0
 | _=>false
noncomputable def asC(e:Expr):Option { c:Const // ∃k p,e=.Constant c k p }:=match e with
 | .Constant c k p=>some ⟨c,k,p,rfl⟩
 | _=>none
noncomputable def asN(e:Expr):Option { x:Str // ∃p,e=.Name x p }:=match e with
 | .Name x p=>some ⟨x,p,rfl⟩
 | _=>none
noncomputable def aDM(e:Expr):Option { r:Expr×Operator×Expr // ∃p,e=.BinOp r.1 r.2.1 r.2.2 p }:=match e with
 | .BinOp l o r p=>some ⟨(l,o,r),p,rfl⟩
 | _=>none
noncomputable def aJs(e:Expr):Option { r:UnaryOp×Expr // ∃p,e=.UnaryOp r.1 r.2 p }:=match e with
 | .UnaryOp o x p=>some ⟨(o,x),p,rfl⟩
 | _=>none
noncomputable def aGY(e:Expr):Option { r:BoolOp×List Expr×Pos // e=.BoolOp r.1 r.2.1 r.2.2 }:=match e with
 | .BoolOp o xs p=>some ⟨(o,xs,p),rfl⟩
 | _=>none
noncomputable def aJt(e:Expr):Option { r:Expr×Expr×Expr // ∃p,e=.IfExp r.1 r.2.1 r.2.2 p }:=match e with
 | .IfExp t a b p=>some ⟨(t,a,b),p,rfl⟩
 | _=>none
noncomputable def aDN(e:Expr):Option { r:Expr×List CmpOp×List Expr // ∃p,e=.Compare r.1 r.2.1 r.2.2 p }:=match e with
 | .Compare l os rs p=>some ⟨(l,os,rs),p,rfl⟩
 | _=>none
noncomputable def vM(e:Expr):Option { r:Expr×Expr // ∃p,e=.Subscript r.1 r.2 p }:=match e with
 | .Subscript x i p=>some ⟨(x,i),p,rfl⟩
 | _=>none
noncomputable def aJu(e:Expr):Option { r:Option Expr×Option Expr // ∃p,e=.Slice r.1 r.2 none p }:=match e with
 | .Slice l h none p=>some ⟨(l,h),p,rfl⟩
 | _=>none
noncomputable def aGZ(e:Expr):Option { r:List Expr // ∃k p,e=.Tuple r k p }:=match e with
 | .Tuple xs k p=>some ⟨xs,k,p,rfl⟩
 | _=>none
noncomputable def aHa(e:Expr):Option { r:List Expr // ∃p,e=.List r p }:=match e with
 | .List xs p=>some ⟨xs,p,rfl⟩
 | _=>none
noncomputable def nF(e:Expr):Option { r:Str×List Expr // ∃p1 p2,e=.Call (.Name r.1 p1) r.2 [] p2 }:=match e with
 | .Call (.Name x p1) xs [] p2=>some ⟨(x,xs),p1,p2,rfl⟩
 | _=>none
noncomputable def aJv(e:Expr):Option { r:Expr×Str×List Expr×Bool // ∃ap cp,e=.Call (.Attribute r.1 r.2.1 ap) r.2.2.1 [] cp/\(ap.endLine==cp.line)=r.2.2.2 }:=match e with
 | .Call (.Attribute x a ap) xs [] cp=>some ⟨(x,a,xs,ap.endLine==cp.line),ap,cp,rfl,rfl⟩
 | _=>none
noncomputable def aJw(e:Expr):Option { r:Expr×List Comprehension×Scope // ∃p,e=.ListComp r.1 r.2.1 r.2.2 p }:=match e with
 | .ListComp e gs s p=>some ⟨(e,gs,s),p,rfl⟩
 | _=>none
noncomputable def oB{α:Type}(o:Option α)(f:α->Bool):Bool:=match o with
 | some a=>f a
 | none=>false
noncomputable def oS{α:Type}{q:α->Prop}(o:Option { a:α // q a })(f:α->Bool):Bool:=match o with
 | some a=>f a.1
 | none=>false
mutual
noncomputable def aK(Γ:Ct):E->Expr->Bool
 | .c d,e=>oS (asC e) (eqC d)||oS (asN e) λx=>cC Γ x&&bR x&&oB (Γ.cns.lookup x) (eqK d)
 | .v i,e=>oS (asN e) (aW Γ i)
 | .op o a b,e=>oS (aDM e) λp=>o==p.2.1&&aK Γ a p.1&&aK Γ b p.2.2
 | .neg _,_=>false
 | .nt a,e=>oS (aJs e) λp=>p.1==.Not&&aK Γ a p.2
 | .an a b,e=>oS (aGY e) λp=>p.1==.And&&(match p.2.1 with
  | [x,y]=>aK Γ a x&&aK Γ b y
  | x::y::z::r=>aK Γ a x&&aK Γ b (.BoolOp .And (y::z::r) p.2.2)
  | _=>false)
 | .orr a b,e=>oS (aGY e) λp=>p.1==.Or&&(match p.2.1 with
  | [x,y]=>aK Γ a x&&aK Γ b y
  | x::y::z::r=>aK Γ a x&&aK Γ b (.BoolOp .Or (y::z::r) p.2.2)
  | _=>false)
 | .ife t a b,e=>oS (aJt e) λp=>aK Γ t p.1&&aK Γ a p.2.1&&aK Γ b p.2.2
 | .cmp o a b,e=>oS (aDN e) λp=>(match p.2.1,p.2.2 with
  | [o'],[r]=>o==o'&&aK Γ a p.1&&aK Γ b r
  | _,_=>false)
 | .cmp2 _ _ _ _ _,_=>false
 | .dnin _ _,_=>false
 | .dget _ _,_=>false
 | .din a j,e=>oS (aDN e) λp=>(match p.2.1,p.2.2 with
  | [o'],[r]=>CmpOp.In==o'&&aK Γ a p.1&&oS (asN r) λx=>aW Γ j x
  | _,_=>false)
 | .dgd j a d,e=>oS (aJv e) λp=>oS (asN p.1) λx=>(p.2.1==("get" : Str))&&aW Γ j x&&p.2.2.2&&(match p.2.2.1 with
  | [y,z]=>aK Γ a y&&oS (asC z) (eqC d)
  | _=>false)
 | .srtD j,e=>oS (nF e) λp=>(match p.2 with
  | [s]=>oS (nF s) λq=>(p.1==("sorted" : Str))&&cC Γ p.1&&(q.1==("list" : Str))&&cC Γ q.1&&(match q.2 with|[x]=>oS (asN x) (aW Γ j)|_=>false)
  | _=>false)
 | .sop o a b,e=>oS (nF e) λp=>(match p.2 with
  | [s]=>oS (aDM s) λq=>oS (nF q.1) λl=>oS (nF q.2.2) λr=>(p.1==("sorted" : Str))&&cC Γ p.1&&(o==q.2.1)&&(l.1==("set" : Str))&&cC Γ l.1&&(r.1==("set" : Str))&&cC Γ r.1&&(match l.2,r.2 with|[x],[y]=>aK Γ a x&&aK Γ b y|_,_=>false)
  | _=>false)
 | .dlen _,_=>false
 | .idx a b,e=>oS (vM e) λp=>aK Γ a p.1&&aK Γ b p.2
 | .sli a lo hi,e=>oS (vM e) λp=>oS (aJu p.2) λq=>aK Γ a p.1&&chkO Γ lo q.1&&chkO Γ hi q.2
 | .tup es,e=>oS (aGZ e) λxs=>decide (xs.length<=1000)&&chkEs Γ es xs
 | .lst es,e=>oS (aHa e) λxs=>decide (xs.length<=1000)&&chkEs Γ es xs
 | .call f es,e=>oS (nF e) λp=>(Γ.fns[f]?==some p.1)&&cC Γ p.1&&bR p.1&&chkEs Γ es p.2
 | .bi b es,e=>oS (nF e) λp=>aAr b&&(gL b==p.1)&&cC Γ p.1&&bR p.1&&!p.2.isEmpty&&chkEs Γ es p.2
 | .mth _ _ _,_=>false
 | .numset _,_=>false
 | .tget _ _,_=>false
 | .lzip _ _,_=>false
 | .isi a cs,e=>oS (nF e) λp=>(match cs,p.2 with
  | [c],[x,y]=>(p.1==("isinstance" : Str))&&cC Γ p.1&&aJr c&&aK Γ a x&&aDL Γ c y
  | _,_=>false)
 | .comp k caps t it cond elt,e=>oS (aJw e) λp=>(match p.2.1 with
  | [⟨tg,iter,ifs,as⟩]=>
   as==0&&(dR tg).length==k&&(caps.all λi=>decide (i<Γ.N.length))&&decide caps.Nodup&&p.2.2.kind==.function&&decide (dR tg++caps.filterMap λi=>Γ.N[i]?).Nodup &&
   ((caps.filterMap λi=>Γ.N[i]?).all λx=>p.2.2.names.lookup x==some .free&&Γ.sc.lookup x==some .cell) &&
   (p.2.2.names.all λq=>q.2 != .cell&&(q.2 != .local||p.2.2.names.lookup q.1==some .local)&&(q.2 != .free||Γ.sc.lookup q.1==some .cell)) &&
   ((tIx t).all λi=>decide (i<k))&&decide (ifs.length<=1) &&
   jV { Γ with N:=dR tg++caps.filterMap λi=>Γ.N[i]?,sc:=kZ Γ.sc p.2.2.names,fn:=false } t tg&&chkI Γ (rU tg) it iter &&
   chkEs { Γ with N:=dR tg++caps.filterMap λi=>Γ.N[i]?,sc:=kZ Γ.sc p.2.2.names,fn:=false } cond ifs &&
   aK { Γ with N:=dR tg++caps.filterMap λi=>Γ.N[i]?,sc:=kZ Γ.sc p.2.2.names,fn:=false } elt p.1
  | _=>false)
 | .dic _ _,_=>false
 | .attr _ _,_=>false
noncomputable def chkEs(Γ:Ct):Es->List Expr->Bool
 | .nil,[]=>true
 | .cons e es,x::xs=>aK Γ e x&&chkEs Γ es xs
 | _,_=>false
noncomputable def chkO(Γ:Ct):Es->Option Expr->Bool
 | .nil,none=>true
 | .cons e .nil,some x=>aK Γ e x
 | _,_=>false
noncomputable def chkI(Γ:Ct)(tt:Bool):It->Expr->Bool
 | .rng a b,e=>oS (nF e) λp=>(p.1==("range" : Str))&&cC Γ p.1&&(match p.2 with
  | [x]=>uG a&&aK Γ b x
  | [x,y]=>aK Γ a x&&aK Γ b y
  | _=>false)
 | .zip _ _,_=>false
 | .seq c,x=>aK Γ c x
 | .enum _,_=>false
 | .rev _,_=>false
end
noncomputable def fB:Expr->Bool
 | .ListComp _ _ _ _=>true
 | .SetComp _ _ _ _=>true
 | .DictComp _ _ _ _ _=>true
 | _=>false
noncomputable def iX:Expr->Bool
 | .Tuple _ _ _=>true
 | .List _ _=>true
 | _=>false
noncomputable def aES:Expr->Bool
 | .Name _ _=>true
 | _=>false
noncomputable def gC(Γ:Ct)(i:Nat)(m:Str):Expr->Option (List Expr)
 | .Call (.Attribute (.Name x _) a ap) xs [] cp=>if (a==m)&&aW Γ i x&&(ap.endLine==cp.line) then some xs else none
 | _=>none
noncomputable def aJx(e:Expr):Option { r:Unit // ∃p,e=.Dict [] [] p }:=match e with
 | .Dict [] [] p=>some ⟨(),p,rfl⟩
 | _=>none
noncomputable def yF(s:Stmt):Option { r:Expr×Expr // ∃p,s=.Assign [r.1] r.2 p }:=match s with
 | .Assign [t] v p=>some ⟨(t,v),p,rfl⟩
 | _=>none
noncomputable def sEx(s:Stmt):Option { r:Expr // ∃p,s=.Expr r p }:=match s with
 | .Expr v p=>some ⟨v,p,rfl⟩
 | _=>none
noncomputable def aET(s:Stmt):Option { r:Option Expr // ∃p,s=.Return r p }:=match s with
 | .Return v p=>some ⟨v,p,rfl⟩
 | _=>none
noncomputable def sIf(s:Stmt):Option { r:Expr×List Stmt×List Stmt // ∃p,s=.If r.1 r.2.1 r.2.2 p }:=match s with
 | .If t x y p=>some ⟨(t,x,y),p,rfl⟩
 | _=>none
noncomputable def aJy(s:Stmt):Option { r:Expr×Expr×List Stmt // ∃p,s=.For r.1 r.2.1 r.2.2 [] p }:=match s with
 | .For t i b [] p=>some ⟨(t,i,b),p,rfl⟩
 | _=>none
noncomputable def aJz(s:Stmt):Option { r:Unit // ∃p,s=.Break p }:=match s with
 | .Break p=>some ⟨(),p,rfl⟩
 | _=>none
noncomputable def aJA(s:Stmt):Option { r:Unit // ∃p,s=.Continue p }:=match s with
 | .Continue p=>some ⟨(),p,rfl⟩
 | _=>none
noncomputable def aHb(s:Stmt):Option { r:Unit // ∃p,s=.Pass p }:=match s with
 | .Pass p=>some ⟨(),p,rfl⟩
 | _=>none
mutual
noncomputable def dF(Γ:Ct):S->Stmt->Bool
 | .set t e,s=>oS (yF s) λr=>jV Γ t r.1&&aK Γ e r.2&&(aES r.1||!iX r.2)
 | .mov i j,s=>oS (yF s) λr=>oS (asN r.1) λx=>oS (asN r.2) λy=>aZ Γ i x&&aW Γ j y
 | .dnew i,s=>oS (yF s) λr=>oS (asN r.1) λx=>aZ Γ i x&&oS (aJx r.2) λ_=>true
 | .dpv i k e,s=>oS (yF s) λr=>oS (vM r.1) λu=>oS (asN u.1) λx=>aW Γ i x&&aK Γ k u.2&&aK Γ e r.2&&!iX r.2
 | .dput i e,s=>oS (yF s) λr=>oS (vM r.1) λu=>oS (asN u.1) λx=>aW Γ i x&&aK Γ e u.2&&aK Γ (.c (.bl true)) r.2
 | .dfrom _ _,_=>false
 | .setIx _ _ _,_=>false
 | .app i e,s=>oS (sEx s) λc=>(match gC Γ i "append" c with|some [a]=>aK Γ e a|_=>false)
 | .appCall _ _ _,_=>false
 | .ext i e,s=>oS (sEx s) λc=>(match gC Γ i "extend" c with|some [a]=>aK Γ e a|_=>false)
 | .pop t i k,s=>(match t,k with
  | none,none=>oS (sEx s) λc=>(match gC Γ i "pop" c with|some []=>true|_=>false)
  | none,some _=>false
  | some t,none=>oS (yF s) λr=>jV Γ t r.1&&(match gC Γ i "pop" r.2 with|some []=>true|_=>false)
  | some _,some _=>false)
 | .clr _,_=>false
 | .rev i,s=>oS (sEx s) λc=>(match gC Γ i "reverse" c with|some []=>true|_=>false)
 | .ret e,s=>oS (aET s) λr=>oB r (aK Γ e)
 | .retv i,s=>oS (aET s) λr=>oB r λv=>oS (asN v) (aW Γ i)
 | .retN,s=>oS (aET s) λr=>r.isNone
 | .iff c a b,s=>oS (sIf s) λr=>aK Γ c r.1&&chkSs Γ a r.2.1&&chkSs Γ b r.2.2
 | .for t it b,s=>oS (aJy s) λr=>jV Γ t r.1&&chkI Γ (rU r.1) it r.2.1&&chkSs Γ b r.2.2
 | .whl _ _,_=>false
 | .brk,s=>oS (aJz s) λ_=>true
 | .cnt,s=>oS (aJA s) λ_=>true
 | .pass,s=>oS (aHb s) λ_=>true
 | .ex e,s=>oS (sEx s) λv=>aK Γ e v&&!fB v
 | .rse _ _ _,_=>true
 | .ins _ _ _,_=>false
 | .try _ _,_=>false
noncomputable def chkSs(Γ:Ct):Ss->List Stmt->Bool
 | .nil,[]=>true
 | .cons s ss,x::xs=>dF Γ s x&&chkSs Γ ss xs
 | _,_=>false
end
end Hp
end
noncomputable section
namespace Hp
open PySem PySem.Spec PyProof.Rows L2
theorem hX(n:Nat){d:Nat}(hd:d<=n):∀lo,sIx n d lo<=n
 | none=>hd
 | some v=>by
  unfold sIx
  dsimp only
  split <;> omega
theorem rV(lo hi:Option Int)(n:Nat):Builtin.Str.strSliceIndices lo hi 1 n=Builtin.Str.strSliceIndices (some ((sIx n 0 lo:Nat):Int)) (some ((sIx n n hi:Nat):Int)) 1 n:=by
 have h1:(1:Int)>0:=by decide
 have key:∀(d:Nat) (hd:d<=n) (o:Option Int),(match o with|none=>(d:Int)|some i=>max 0 (min (if i<0 then i+(n:Int) else i) (n:Int)))=((sIx n d o:Nat):Int):=by
  intro d hd o
  cases o with
  | none=>rfl
  | some i=>
   unfold sIx
   dsimp only
   split <;> omega
 have k2:∀(m:Nat),m<=n->max (0:Int) (min (if (m:Int)<0 then (m:Int)+(n:Int) else (m:Int)) (n:Int))=(m:Int):=by
  intro m hm
  split <;> omega
 unfold Builtin.Str.strSliceIndices
 simp only[h1,if_true]
 have e1:=key 0 (Nat.zero_le _) lo
 have e2:=key n (Nat.le_refl _) hi
 have f1:=k2 _ (hX n (Nat.zero_le _) lo)
 have f2:=k2 _ (hX n (Nat.le_refl _) hi)
 rw[f1,f2]
 cases lo <;> cases hi <;> simp_all
theorem nG(x:Str)(lo hi:Option Int):StrLaws.sliceText x lo hi=uC x lo hi:=by
 have hl:x.cps.toList.length=x.length:=by show _=x.cps.size;simp
 have e:StrLaws.sliceText x lo hi=StrLaws.sliceText x (some ((sIx x.length 0 lo:Nat):Int)) (some ((sIx x.length x.length hi:Nat):Int)):=by
  unfold StrLaws.sliceText
  rw[rV]
 rw[e]
 unfold uC cut
 rw[hl]
 by_cases h:sIx x.length 0 lo<=sIx x.length x.length hi
 . exact StrLaws.sliceText_nat x h (hX _ (Nat.le_refl _) hi)
 . have h0:sIx x.length x.length hi-sIx x.length 0 lo=0:=by omega
   have hlo:=hX x.length (Nat.zero_le _) lo
   have hhi:=hX x.length (Nat.le_refl _) hi
   rw[h0,List.take_zero]
   generalize sIx x.length 0 lo=i at *
   generalize sIx x.length x.length hi=j at *
   have he:Builtin.Str.strSliceIndices (some (i:Int)) (some (j:Int)) 1 x.length=[]:=by
    unfold Builtin.Str.strSliceIndices
    have h1:(1:Int)>0:=by decide
    simp only[h1,if_true]
    rw[if_neg (by omega),if_neg (by omega)]
    have a1:max (0:Int) (min (i:Int) (x.length:Int))=i:=by omega
    have a2:max (0:Int) (min (j:Int) (x.length:Int))=j:=by omega
    rw[a1,a2]
    unfold sliceRange
    simp
    omega
   unfold StrLaws.sliceText
   rw[he]
   simp
   intro hz
   omega
noncomputable def aAs:V->Option Int->Option Int->L2.Hp->VK->Prop:=λx lo hi H Q=>∃a,x=.str a/\a.length<=sizeLine/\Q (.str (uC a lo hi)) H
section
variable {X:Cx}
theorem aEU:SlR X aAs:=by
 intro pins s σ H x v vl vu lo hi sl Q I rx hs pl pu h
 obtain⟨a,rfl,hz,q⟩:=h
 obtain⟨t,rfl⟩:=rx
 have fin:∀(l u:Option (Int×Tok)),l.map (·.1)=lo->u.map (·.1)=hi->s.heap.IsSlice sl l u none->wpAny (model X.prog X.w) X.A (getItem (.str a t) (.ref sl)) (EP X pins σ Q) X.xe s:=by
  intro l u e1 e2 h
  refine wpAny_getItem_str_slice h rfl ?_
  have e:StrLaws.sliceText a lo hi=uC a lo hi:=nG a lo hi
  unfold StrLaws.sliceText at e
  subst e1 e2
  show Made.post (if ((1:Int)==1&&(Builtin.Str.strSliceIndices (l.map (·.1)) (u.map (·.1)) 1 a.length).length==a.length)=true then _ else _) _ s
  split
  . rename_i hc
    rw[if_pos hc] at e
    exact⟨.str a,H,I,⟨t,rfl⟩,by rw[e];exact q⟩
  . rename_i hc
    rw[if_neg hc] at e
    have hle:(uC a (l.map (·.1)) (u.map (·.1))).length<=sizeLine:=by
     refine Nat.le_trans ?_ hz
     show(cut a.cps.toList _ _).toArray.size<=a.cps.size
     unfold cut
     rw[List.size_toArray,List.length_take,List.length_drop,Array.length_toList]
     omega
    refine⟨by rw[<-e] at hle;exact hle,.str (uC a (l.map (·.1)) (u.map (·.1))),H,I.tok _,?_,q⟩
    rw[<-e]
    exact⟨_,rfl⟩
 refine⟨"str",_,slot_str_getitem.lookup,rfl,?_⟩
 cases pl with
 | none=>
  cases pu with
  | none=>exact fin none none rfl rfl hs
  | int j tj=>exact fin none (some (j,tj)) rfl rfl hs
 | int i ti=>
  cases pu with
  | none=>exact fin (some (i,ti)) none rfl rfl hs
  | int j tj=>exact fin (some (i,ti)) (some (j,tj)) rfl rfl hs
end
end Hp
end
noncomputable section
namespace Hp
open PySem L2
abbrev Fg:=PySem.W.Frag
noncomputable def kD:Key->D
 | .inl i=>.int i
 | .inr x=>.str x
mutual
noncomputable def Rep(K:Fg)(H:Hp)(ex:Addr->Prop):D->V->Prop
 | .non,v=>v=.non
 | .bl b,v=>v=.bl b
 | .int i,v=>v=.int i
 | .str x,v=>v=.str x
 | .tup ds,v=>∃a xs,v=.ref a/\SqT K H a xs/\Reps K H ex ds xs
 | .lst ds,v=>∃a xs,v=.ref a/\SqL K H a xs/\¬ ex a/\Reps K H ex ds xs
 | .dic kvs,v=>∃a ks,v=.ref a/\H a=some (.dK ks)/\RepKV K H ex kvs ks
 | .err _ _,_=>False
noncomputable def Reps(K:Fg)(H:Hp)(ex:Addr->Prop):List D->List V->Prop
 | [],xs=>xs=[]
 | d::ds,xs=>∃x r,xs=x::r/\Rep K H ex d x/\Reps K H ex ds r
noncomputable def RepKV(K:Fg)(H:Hp)(ex:Addr->Prop):List (D×D)->List (Key×V)->Prop
 | [],ks=>ks=[]
 | (k,d)::r,ks=>∃k' x r',ks=(k',x)::r'/\kD k'=k/\Rep K H ex d x/\RepKV K H ex r r'
end
section
variable {K:Fg} {H H':Hp} {ex ex':Addr->Prop}
theorem aH.seqT{a:Addr}{xs:List V}(e:aH H H')(h:SqT K H a xs):SqT K H' a xs:=by
 rcases h with(h|⟨o,h⟩)|h
 . exact .inl (.inl (e _ _ h))
 . exact .inl (.inr ⟨o,e _ _ h⟩)
 . exact .inr h
mutual
theorem Rep.imp(hT:∀a xs,SqT K H a xs->SqT K H' a xs)(hL:∀a xs,¬ ex a->SqL K H a xs->¬ ex' a/\SqL K H' a xs)(hD:∀a ks,H a=some (.dK ks)->H' a=some (.dK ks)) :
 ∀(d:D) (v:V),Rep K H ex d v->Rep K H' ex' d v
 | .non,_,h=>h
 | .bl _,_,h=>h
 | .int _,_,h=>h
 | .str _,_,h=>h
 | .tup ds,_,h=>by
  obtain⟨a,xs,e,q,r⟩:=h
  exact⟨a,xs,e,hT a xs q,Reps.imp hT hL hD ds xs r⟩
 | .lst ds,_,h=>by
  obtain⟨a,xs,e,q,n,r⟩:=h
  obtain⟨n',q'⟩:=hL a xs n q
  exact⟨a,xs,e,q',n',Reps.imp hT hL hD ds xs r⟩
 | .dic kvs,_,h=>by
  obtain⟨a,ks,e,q,r⟩:=h
  exact⟨a,ks,e,hD a ks q,RepKV.imp hT hL hD kvs ks r⟩
 | .err _ _,_,h=>h.elim
theorem Reps.imp(hT:∀a xs,SqT K H a xs->SqT K H' a xs)(hL:∀a xs,¬ ex a->SqL K H a xs->¬ ex' a/\SqL K H' a xs)(hD:∀a ks,H a=some (.dK ks)->H' a=some (.dK ks)) :
 ∀(ds:List D) (xs:List V),Reps K H ex ds xs->Reps K H' ex' ds xs
 | [],_,h=>h
 | d::ds,_,h=>by
  obtain⟨x,r,e,h1,h2⟩:=h
  exact⟨x,r,e,Rep.imp hT hL hD d x h1,Reps.imp hT hL hD ds r h2⟩
theorem RepKV.imp(hT:∀a xs,SqT K H a xs->SqT K H' a xs)(hL:∀a xs,¬ ex a->SqL K H a xs->¬ ex' a/\SqL K H' a xs)(hD:∀a ks,H a=some (.dK ks)->H' a=some (.dK ks)) :
 ∀(ds:List (D×D)) (xs:List (Key×V)),RepKV K H ex ds xs->RepKV K H' ex' ds xs
 | [],_,h=>h
 | (k,d)::ds,_,h=>by
  obtain⟨k',x,r,e,ek,h1,h2⟩:=h
  exact⟨k',x,r,e,ek,Rep.imp hT hL hD d x h1,RepKV.imp hT hL hD ds r h2⟩
end
theorem Rep.weak{d:D}{v:V}(h:Rep K H ex d v)(e:∀a,ex' a->ex a):Rep K H ex' d v:=Rep.imp (λ_ _ q=>q) (λa _ n q=>⟨λz=>n (e a z),q⟩) (λ_ _ q=>q) d v h
theorem Reps.weak{d:List D}{v:List V}(h:Reps K H ex d v)(e:∀a,ex' a->ex a):Reps K H ex' d v:=Reps.imp (λ_ _ q=>q) (λa _ n q=>⟨λz=>n (e a z),q⟩) (λ_ _ q=>q) d v h
theorem Rep.grow{d:D}{v:V}(h:Rep K H ex d v)(s:aH H H'):Rep K H' ex d v:=Rep.imp (λ_ _ q=>aH.seqT s q) (λ_ _ n q=>⟨n,s.seq q⟩) (λ_ _ q=>s _ _ q) d v h
theorem Reps.grow{d:List D}{v:List V}(h:Reps K H ex d v)(s:aH H H'):Reps K H' ex d v:=Reps.imp (λ_ _ q=>aH.seqT s q) (λ_ _ n q=>⟨n,s.seq q⟩) (λ_ _ q=>s _ _ q) d v h
theorem Rep.keep{d:D}{v:V}(h:Rep K H ex d v)(s:∀a o,H a=some o->(∀xs,o=.lst xs->¬ ex a)->(∀φ,o≠.ext φ)->H' a=some o):Rep K H' ex d v:=by
 refine Rep.imp (λa xs q=>?_) (λa xs n q=>⟨n,?_⟩) (λa ks q=>s a _ q (λxs e=>by cases e) (λ_ z=>by cases z)) d v h
 . rcases q with(q|⟨o,q⟩)|q
   . exact .inl (.inl (s _ _ q (λxs e=>by cases e) (λ_ z=>by cases z)))
   . exact .inl (.inr ⟨o,s _ _ q (λxs e=>by cases e) (λ_ z=>by cases z)⟩)
   . exact .inr q
 . rcases q with(q|⟨o,q⟩)|q
   . exact .inl (.inl (s _ _ q (λ_ _=>n) (λ_ z=>by cases z)))
   . exact .inl (.inr ⟨o,s _ _ q (λxs e=>by cases e) (λ_ z=>by cases z)⟩)
   . exact .inr q
theorem Reps.keep{d:List D}{v:List V}(h:Reps K H ex d v)(s:∀a o,H a=some o->(∀xs,o=.lst xs->¬ ex a)->(∀φ,o≠.ext φ)->H' a=some o):Reps K H' ex d v:=by
 refine Reps.imp (λa xs q=>?_) (λa xs n q=>⟨n,?_⟩) (λa ks q=>s a _ q (λxs e=>by cases e) (λ_ z=>by cases z)) d v h
 . rcases q with(q|⟨o,q⟩)|q
   . exact .inl (.inl (s _ _ q (λxs e=>by cases e) (λ_ z=>by cases z)))
   . exact .inl (.inr ⟨o,s _ _ q (λxs e=>by cases e) (λ_ z=>by cases z)⟩)
   . exact .inr q
 . rcases q with(q|⟨o,q⟩)|q
   . exact .inl (.inl (s _ _ q (λ_ _=>n) (λ_ z=>by cases z)))
   . exact .inl (.inr ⟨o,s _ _ q (λxs e=>by cases e) (λ_ z=>by cases z)⟩)
   . exact .inr q
mutual
theorem Rep.free:∀(d:D) (v:V),noL d=true->Rep K H ex d v->Rep K H ex' d v
 | .non,_,_,h=>h
 | .bl _,_,_,h=>h
 | .int _,_,_,h=>h
 | .str _,_,_,h=>h
 | .tup ds,_,n,h=>by
  obtain⟨a,xs,e,q,r⟩:=h
  exact⟨a,xs,e,q,Reps.free ds xs (by simpa[noL] using n) r⟩
 | .lst ds,_,n,_=>by simp[noL] at n
 | .dic kvs,_,n,_=>by simp[noL] at n
 | .err _ _,_,n,_=>by simp[noL] at n
theorem Reps.free:∀(ds:List D) (xs:List V),noLs ds=true->Reps K H ex ds xs->Reps K H ex' ds xs
 | [],_,_,h=>h
 | d::ds,_,n,h=>by
  obtain⟨x,r,e,h1,h2⟩:=h
  simp only[noLs,bA] at n
  exact⟨x,r,e,Rep.free d x n.1 h1,Reps.free ds r n.2 h2⟩
end
theorem Reps.length:∀{ds:List D} {xs:List V},Reps K H ex ds xs->ds.length=xs.length
 | [],_,h=>by rw[show _=[] from h];rfl
 | d::ds,_,h=>by
  obtain⟨x,r,e,_,h2⟩:=h
  subst e
  rw[lC,lC,Reps.length h2]
theorem Reps.get:∀{ds:List D} {xs:List V} {j:Nat} {d:D},Reps K H ex ds xs->ds[j]? = some d->∃x,xs[j]? = some x/\Rep K H ex d x
 | [],_,_,_,_,e=>by simp at e
 | d::ds,_,0,_,h,e=>by
  obtain⟨x,r,e',h1,_⟩:=h
  subst e'
  simp at e
  subst e
  exact⟨x,rfl,h1⟩
 | d::ds,_,j+1,d',h,e=>by
  obtain⟨x,r,e',_,h2⟩:=h
  subst e'
  obtain⟨y,hy,q⟩:=Reps.get (j:=j) (d:=d') h2 (by simpa using e)
  exact⟨y,by simpa using hy,q⟩
theorem Reps.get'{ds:List D}{xs:List V}{j:Nat}{x:V}(h:Reps K H ex ds xs)(e:xs[j]? = some x):∃d,ds[j]? = some d/\Rep K H ex d x:=by
 have hl:=h.length
 have hj:j<xs.length:=(List.getElem?_eq_some_iff.mp e).1
 obtain⟨d,hd⟩:∃d,ds[j]? = some d:=⟨ds[j],List.getElem?_eq_getElem (by omega)⟩
 obtain⟨y,hy,q⟩:=h.get hd
 rw[e] at hy
 cases hy
 exact⟨d,hd,q⟩
theorem Reps.nil:Reps K H ex [] []:=rfl
theorem Reps.cons{d:D}{ds:List D}{x:V}{xs:List V}(h:Rep K H ex d x)(t:Reps K H ex ds xs):Reps K H ex (d::ds) (x::xs):=⟨x,xs,rfl,h,t⟩
theorem Reps.append:∀{ds es:List D} {xs ys:List V},Reps K H ex ds xs->Reps K H ex es ys->Reps K H ex (ds++es) (xs++ys)
 | [],_,_,_,h,t=>by rw[show _=[] from h];exact t
 | d::ds,_,_,_,h,t=>by
  obtain⟨x,r,e,h1,h2⟩:=h
  subst e
  exact⟨x,_,rfl,h1,Reps.append h2 t⟩
theorem Reps.take:∀{ds:List D} {xs:List V} (n:Nat),Reps K H ex ds xs->Reps K H ex (ds.take n) (xs.take n)
 | _,_,0,_=>by simp[Reps]
 | [],_,n+1,h=>by rw[show _=[] from h];simp[Reps]
 | d::ds,_,n+1,h=>by
  obtain⟨x,r,e,h1,h2⟩:=h
  subst e
  exact⟨x,_,rfl,h1,Reps.take n h2⟩
theorem Reps.drop:∀{ds:List D} {xs:List V} (n:Nat),Reps K H ex ds xs->Reps K H ex (ds.drop n) (xs.drop n)
 | _,_,0,h=>h
 | [],_,n+1,h=>by rw[show _=[] from h];simp[Reps]
 | d::ds,_,n+1,h=>by
  obtain⟨x,r,e,h1,h2⟩:=h
  subst e
  exact Reps.drop n h2
theorem Reps.set:∀{ds:List D} {xs:List V} {d:D} {x:V} (j:Nat),Reps K H ex ds xs->Rep K H ex d x->Reps K H ex (ds.set j d) (xs.set j x)
 | [],_,_,_,_,h,_=>by rw[show _=[] from h];simp[Reps]
 | d::ds,_,_,_,0,h,q=>by
  obtain⟨x,r,e,h1,h2⟩:=h
  subst e
  exact⟨_,_,rfl,q,h2⟩
 | d::ds,_,_,_,j+1,h,q=>by
  obtain⟨x,r,e,h1,h2⟩:=h
  subst e
  exact⟨x,_,rfl,h1,Reps.set j h2 q⟩
theorem Reps.eraseIdx:∀{ds:List D} {xs:List V} (j:Nat),Reps K H ex ds xs->Reps K H ex (ds.eraseIdx j) (xs.eraseIdx j)
 | [],_,_,h=>by rw[show _=[] from h];simp[Reps]
 | d::ds,_,0,h=>by
  obtain⟨x,r,e,h1,h2⟩:=h
  subst e
  exact h2
 | d::ds,_,j+1,h=>by
  obtain⟨x,r,e,h1,h2⟩:=h
  subst e
  exact⟨x,_,rfl,h1,Reps.eraseIdx j h2⟩
theorem Reps.reverse:∀{ds:List D} {xs:List V},Reps K H ex ds xs->Reps K H ex ds.reverse xs.reverse
 | [],_,h=>by rw[show _=[] from h];simp[Reps]
 | d::ds,_,h=>by
  obtain⟨x,r,e,h1,h2⟩:=h
  subst e
  rw[List.reverse_cons,List.reverse_cons]
  exact(Reps.reverse h2).append (.cons h1 .nil)
theorem Reps.flat:∀{ds:List D} {xs:List V},Reps K H ex ds xs->∀k:Nat,Reps K H ex (List.replicate k ds).flatten (List.replicate k xs).flatten
 | _,_,_,0=>by simp[Reps]
 | ds,xs,h,k+1=>by
  rw[List.replicate_succ,List.replicate_succ,List.flatten_cons,List.flatten_cons]
  exact h.append (Reps.flat h k)
end
end Hp
end
noncomputable section
namespace Hp
open PySem PySem.Spec PyProof.Rows L2
theorem hZ(a b:Str):(a++b).length=a.length+b.length:=by
 show(a.cps++b.cps).size=_
 rw[Array.size_append];rfl
theorem aCz{x:Str}(h:aAl x=true):(reprText x).length=x.length+2:=by
 have q:reprQuote x=39:=by
  unfold reprQuote
  have:x.cps.contains 39=false:=by
   cases z:x.cps.contains 39 with
   | false=>rfl
   | true=>
    have hm:39∈x.cps:=by simpa using z
    unfold aAl at h
    rw[Array.all_eq_true'] at h
    have:=h 39 hm
    simp at this
  rw[this];rfl
 have all:∀c∈List.range 26,(Builtin.Str.reprChar 39 (97+c)).length=1:=by decide +kernel
 have one:∀c∈x.cps.toList,(Builtin.Str.reprChar 39 c).length=1:=λc hc=>by
  unfold aAl at h
  rw[Array.all_eq_true'] at h
  have:=h c (by simpa using hc)
  simp only[bA,decide_eq_true_eq] at this
  have z:=all (c-97) (by rw[List.mem_range];omega)
  rwa [show 97+(c-97)=c by omega] at z
 have fold:∀(l:List Nat) (n:Nat),(∀c∈l,(Builtin.Str.reprChar 39 c).length=1)->l.foldl (λn c=>n+(Builtin.Str.reprChar 39 c).length) n=n+l.length:=by
  intro l
  induction l with
  | nil=>intro n _;rfl
  | cons c l ih=>
   intro n hl
   rw[List.foldl_cons,ih _ λd hd=>hl d (List.mem_cons_of_mem _ hd),hl c List.mem_cons_self,lC]
   omega
 have e:=reprLen_eq x
 rw[q,<-Array.foldl_toList,fold _ _ one] at e
 rw[<-e]
 show 2+x.cps.toList.length=x.cps.size+2
 rw[Array.length_toList];omega
mutual
theorem aAt:∀d:D,wt d<lim->(eI d).shown.length<=wt d/\(eI d).showable=true/\(eI d).hasDict=false/\(eI d).depth=dpt d
 | .non,_=>by simp only[eI,PyData.shown,PyData.showable,PyData.hasDict,PyData.depth,dpt,wt];decide
 | .bl b,_=>by simp only[eI,PyData.shown,PyData.showable,PyData.hasDict,PyData.depth,dpt,wt];cases b <;> decide
 | .int i,h=>by
  rw[wt] at h
  by_cases hi:i.natAbs<1000000000
  . have e:=int_text_length_le10 (k:=9) (by decide) (show i.natAbs<10 ^ 9 from hi)
    have l:=log2_of hi
    simp only[eI,PyData.shown,PyData.showable,PyData.hasDict,PyData.depth,dpt,wt,if_pos hi,decide_eq_true l,and_self,and_true]
    rw[PySem.ofString_length];omega
  . rw[if_neg hi] at h;exact absurd h (Nat.lt_irrefl _)
 | .str x,h=>by
  rw[wt] at h
  by_cases hx:aAl x=true
  . have e:=aCz hx
    simp only[eI,PyData.shown,PyData.showable,PyData.hasDict,PyData.depth,dpt,wt,if_pos hx,e,and_self,Nat.le_refl]
  . rw[if_neg hx] at h;exact absurd h (Nat.lt_irrefl _)
 | .tup ds,h=>by
  rw[wt] at h
  obtain⟨h1,h2,h3,h4⟩:=shown_les ds (by omega)
  have e:(tupleText (PyData.shownAll (toPys ds))).length<=3+piled (PyData.shownAll (toPys ds)):=by
   unfold tupleText
   rw[hZ,hZ]
   have e1:((("(" : String):Str)).length=1:=rfl
   have e2:(((if (PyData.shownAll (toPys ds)).length==1 then ",)" else ")" : String):Str)).length<=2:=by split <;> decide
   have e3:(Str.join ", " (PyData.shownAll (toPys ds))).length<=piled (PyData.shownAll (toPys ds)):=by
    by_cases z:PyData.shownAll (toPys ds)=[]
    . rw[z];decide
    . have:=join_length_add _ z;omega
   omega
  simp only[eI,PyData.shown,PyData.showable,PyData.hasDict,PyData.depth,dpt,wt,h2,h3,h4,and_self,and_true]
  omega
 | .lst ds,h=>by
  rw[wt] at h
  obtain⟨h1,h2,h3,h4⟩:=shown_les ds (by omega)
  have e:(listText (PyData.shownAll (toPys ds))).length<=2+piled (PyData.shownAll (toPys ds)):=by
   unfold listText
   rw[hZ]
   have e1:((("]" : String):Str)).length=1:=rfl
   have e2:(textFrom 0 "[" (PyData.shownAll (toPys ds))).length<=1+piled (PyData.shownAll (toPys ds)):=by
    cases PyData.shownAll (toPys ds) with
    | nil=>decide
    | cons t r=>
     have z:=textFrom_length_pos r 1 (("[" : Str)++(if (0:Nat)>0 then ", " else "" : String)++t) (Nat.succ_pos 0)
     show(textFrom 1 (("[" : Str)++(if (0:Nat)>0 then ", " else "" : String)++t) r).length<=_
     rw[z,hZ,hZ,piled_cons]
     have e0:((("[" : String):Str)).length=1:=rfl
     have e1:(((if (0:Nat)>0 then ", " else "" : String):Str)).length=0:=rfl
     omega
   omega
  simp only[eI,PyData.shown,PyData.showable,PyData.hasDict,PyData.depth,dpt,wt,h2,h3,h4,and_self,and_true]
  omega
 | .dic _,h=>by rw[wt] at h;exact absurd h (Nat.lt_irrefl _)
 | .err _ _,h=>by rw[wt] at h;exact absurd h (Nat.lt_irrefl _)
theorem shown_les:∀ds:List D,wts ds<lim->piled (PyData.shownAll (toPys ds))<=wts ds/\PyData.showableAll (toPys ds)=true/\PyData.hasDictAll (toPys ds)=false/\PyData.depthAll (toPys ds)=dpts ds
 | [],_=>by simp only[toPys,PyData.shownAll,PyData.showableAll,PyData.hasDictAll,PyData.depthAll,dpts,wts];decide
 | d::ds,h=>by
  rw[wts] at h
  obtain⟨h1,h2,h3,h4⟩:=aAt d (by omega)
  obtain⟨g1,g2,g3,g4⟩:=shown_les ds (by omega)
  simp only[toPys,PyData.shownAll,PyData.showableAll,PyData.hasDictAll,PyData.depthAll,dpts,wts,piled_cons,h2,h3,h4,g2,g3,g4,Bool.and_self,Bool.or_self,and_self,and_true]
  omega
theorem log2_of{n:Nat}(h:n<1000000000):n.log2<1920:=by
 by_cases hz:n=0
 . rw[hz];decide
 . exact Nat.lt_of_lt_of_le ((Nat.log2_lt hz).mpr (Nat.lt_trans h (by decide:1000000000<2 ^ 30))) (by decide)
end
section
variable {X:Cx} {pins:List (Addr×Obj)} {σ:L2.St} {H:Hp} {s:Shared}
mutual
theorem aAu{ex:Addr->Prop}(I:Inv X pins σ H s):∀(d:D) {v:V} {u:Value},Rep X.K H ex d v->aR v u->wt d<lim->∃as,Reads s.heap u (eI d) as
 | .non,v,u,h,r,_=>by
  rw[show v=.non from h] at r
  rw[show u=.none from r,eI]
  exact⟨_,.none⟩
 | .bl b,v,u,h,r,_=>by
  rw[show v=.bl b from h] at r
  rw[show u=.bool b from r,eI]
  exact⟨_,.bool b⟩
 | .int i,v,u,h,r,_=>by
  rw[show v=.int i from h] at r
  obtain⟨t,e⟩:∃t,u=.int i t:=r
  rw[e,eI]
  exact⟨_,.int i t⟩
 | .str x,v,u,h,r,_=>by
  rw[show v=.str x from h] at r
  obtain⟨t,e⟩:∃t,u=.str x t:=r
  rw[e,eI]
  exact⟨_,.str x t⟩
 | .tup ds,v,u,h,r,hw=>by
  obtain⟨a,xs,e,q,rr⟩:=h
  subst e
  rw[show u=.ref a from r,eI]
  rw[wt] at hw
  obtain⟨its,rv,⟨o,ho,hc,n,hd⟩,_⟩:=I.tuple q
  obtain⟨as,ra⟩:=reads_ofs I ds rr rv (by omega)
  exact⟨_,.tuple ho hc hd (by simpa using ra)⟩
 | .lst ds,v,u,h,r,hw=>by
  obtain⟨a,xs,e,q,_,rr⟩:=h
  subst e
  rw[show u=.ref a from r,eI]
  rw[wt] at hw
  obtain⟨its,rv,pl,_⟩:=I.list q
  obtain⟨o,ho,hc,n,hd⟩:=pl.isList
  obtain⟨as,ra⟩:=reads_ofs I ds rr rv (by omega)
  exact⟨_,.list ho hc hd (by simpa using ra)⟩
 | .dic _,_,_,_,_,hw=>by rw[wt] at hw;exact absurd hw (Nat.lt_irrefl _)
 | .err _ _,_,_,h,_,_=>h.elim
theorem reads_ofs{ex:Addr->Prop}(I:Inv X pins σ H s):∀(ds:List D) {vs:List V} {us:List Value},Reps X.K H ex ds vs->aI vs us->wts ds<lim->∃as,ReadsAll s.heap us (toPys ds) as
 | [],vs,us,h,r,_=>by
  rw[show vs=[] from h] at r
  cases r
  exact⟨_,by rw[toPys];exact .nil⟩
 | d::ds,vs,us,h,r,hw=>by
  obtain⟨x,r',e,h1,h2⟩:=h
  subst e
  cases r with
  | cons r1 r2=>
   rw[wts] at hw
   obtain⟨as,ra⟩:=aAu I d h1 r1 (by omega)
   obtain⟨bs,rb⟩:=reads_ofs I ds h2 r2 (by omega)
   exact⟨_,by rw[toPys];exact .cons ra rb⟩
end
end
noncomputable def Kp(R:Addr->Prop)(H H':Hp):Prop:=∀a o,H a=some o->¬ R a->H' a=some o
noncomputable def RE{α:Type}:R α->(α->Prop)->Prop
 | .ok a,p=>p a
 | _,_=>False
theorem RE.mono{α:Type}{x:R α}{p q:α->Prop}(h:RE x p)(f:∀a,p a->q a):RE x q:=by
 cases x with
 | ok a=>exact f a h
 | exc e=>exact h
 | bad=>exact h
theorem RE.bind{α β:Type}{x:R α}{f:α->R β}{p:β->Prop}:RE (x >>= f) p=RE x λa=>RE (f a) p:=by
 cases x <;> rfl
theorem RE.iff{α:Type}{c:Bool}{x:R α}{p:α->Prop}(h:RE (R.iff c x) p):c=true/\RE x p:=by
 cases c with
 | true=>exact⟨rfl,h⟩
 | false=>exact h.elim
section
variable (K:Fg) (RT Y old:Addr->Prop)
noncomputable def exB(pa:Bool)(a:Addr):Prop:=Y a\/(pa=false/\old a)
noncomputable def Tk(H:Hp):Prop:=∀b,H b≠none->K.lookup b=none
noncomputable def dV:D->V
 | .int i=>.int i
 | .bl b=>.bl b
 | _=>.non
abbrev kV(x:NK×D):NK×V:=(x.1,dV x.2)
structure Dx (σ:Sg) (σV:L2.St) (H:Hp):Prop where
 at':∀(i:Nat) (ks:List (NK×D)),σ[i]? = some (.dct ks)->∃a xs,σV[i]? = some (some (.ref a))/\H a=some (bQ a xs)/\RT a/\¬ old a/\xs.map pj=ks.map kV/\∀x∈xs,aT K H x.1 x.2.1
 inj:∀(i j:Nat) (ks ks':List (NK×D)) (a:Addr),σ[i]? = some (.dct ks)->σ[j]? = some (.dct ks')->σV[i]? = some (some (.ref a))->σV[j]? = some (some (.ref a))->i=j
noncomputable def RtO(H:Hp)(a:Addr):Prop:=(∃xs,H a=some (.lst xs))\/∃xs,H a=some (bQ a xs)
structure Sx (σ:Sg) (σV:L2.St) (H:Hp):Prop where
 sh:∀(i:Nat) (pa:Bool) (d:D),σ[i]? = some (.sh pa d)->∃v,σV[i]? = some (some v)/\Rep K H (λa=>RT a\/exB Y old pa a) d v
 own:∀(i:Nat) (pa:Bool) (ds:List D),σ[i]? = some (.own pa ds)->∃a xs,σV[i]? = some (some (.ref a))/\H a=some (.lst xs)/\RT a/\¬ old a/\Reps K H (λa=>RT a\/exB Y old pa a) ds xs
 trk:∀a,RT a\/Y a\/old a->H a≠none
 yo:∀a,Y a->old a
 tk:Tk K H
 rt:∀a,RT a->RtO H a
 inj:∀(i j:Nat) (pa pa':Bool) (ds ds':List D) (a:Addr),σ[i]? = some (.own pa ds)->σ[j]? = some (.own pa' ds')->σV[i]? = some (some (.ref a))->σV[j]? = some (some (.ref a))->i=j
 len:σ.length=σV.length
 dx:Dx K RT old σ σV H
noncomputable def alR(σ:Sg)(σV:L2.St)(al:List Nat)(a:Addr):Prop:=∃j∈al,(∃pa ds,σ[j]? = some (.own pa ds))/\σV[j]? = some (some (.ref a))
noncomputable def exV(σ:Sg)(σV:L2.St)(pa:Bool)(al:List Nat)(a:Addr):Prop:=(RT a/\¬ alR σ σV al a)\/exB Y old pa a
noncomputable def Rv(σ:Sg)(σV:L2.St)(H:Hp)(v:Vl)(u:V):Prop:=Rep K H (exV RT Y old σ σV v.pa v.al) v.d u
noncomputable def Ro(σ:Sg)(σV:L2.St)(H H':Hp)(v:Vl)(u:V):Prop:=
 aH H H'/\(if v.fr=true then ∃a xs ds,u=.ref a/\v.d=.lst ds/\H a=none/\H' a=some (.lst xs)/\Reps K H' (λb=>b=a\/exV RT Y old σ σV v.pa v.al b) ds xs
  else Rv K RT Y old σ σV H' v u)
noncomputable def Rvs(σ:Sg)(σV:L2.St)(H:Hp):List Vl->List V->Prop
 | [],us=>us=[]
 | v::vs,us=>∃u r,us=u::r/\Rv K RT Y old σ σV H v u/\Rvs σ σV H vs r
end
section
variable {K:Fg} {RT Y old:Addr->Prop} {σ:Sg} {σV:L2.St} {H H' H1 H2:Hp} {v:Vl} {u:V}
theorem aT.imp(hr:∀b ks,SqT K H b ks->SqT K H' b ks){k:NK}{b:Addr}(h:aT K H k b):aT K H' k b:=by
 obtain⟨bs,h1,h2⟩:=h
 refine⟨bs,hr _ _ h1,?_⟩
 clear h1
 induction h2 with
 | nil=>exact .nil
 | cons h t ih=>exact .cons (hr _ _ h) ih
theorem Dx.imp{RT':Addr->Prop}{σ':Sg}{σV':L2.St}(L:Dx K RT old σ σV H)(m:Nat->Nat)(hs:∀j ks,σ'[j]? = some (.dct ks)->σ[m j]? = some (.dct ks)/\σV'[j]? = σV[m j]?)(hm:∀i j ks ks',σ'[i]? = some (.dct ks)->σ'[j]? = some (.dct ks')->m i=m j->i=j)
 (hh:∀a xs,H a=some (bQ a xs)->RT a->¬ old a->H' a=some (bQ a xs)/\RT' a) (hr:∀b ks,SqT K H b ks->SqT K H' b ks):Dx K RT' old σ' σV' H' where
 at':=λi ks e=>by
  obtain⟨e1,e2⟩:=hs i ks e
  obtain⟨a,xs,h1,h2,h3,h4,h5,h6⟩:=L.at' (m i) ks e1
  obtain⟨g1,g2⟩:=hh a xs h2 h3 h4
  exact⟨a,xs,by rw[e2];exact h1,g1,g2,h4,h5,λx hx=>aT.imp hr (h6 x hx)⟩
 inj:=λi j ks ks' a q1 q2 v1 v2=>by
  obtain⟨e1,e2⟩:=hs i ks q1
  obtain⟨e3,e4⟩:=hs j ks' q2
  exact hm i j ks ks' q1 q2 (L.inj (m i) (m j) ks ks' a e1 e3 (by rw[<-e2];exact v1) (by rw[<-e4];exact v2))
theorem RtO.grow{a:Addr}(h:RtO H a)(s:aH H H'):RtO H' a:=h.imp (λ⟨xs,e⟩=>⟨xs,s _ _ e⟩) λ⟨xs,e⟩=>⟨xs,s _ _ e⟩
theorem Sx.grow(S:Sx K RT Y old σ σV H)(s:aH H H')(t:Tk K H'):Sx K RT Y old σ σV H' where
 sh:=λi pa d e=>let ⟨v,h1,h2⟩:=S.sh i pa d e;⟨v,h1,h2.grow s⟩
 own:=λi pa ds e=>let ⟨a,xs,h1,h2,h3,h4,h5⟩:=S.own i pa ds e;⟨a,xs,h1,s _ _ h2,h3,h4,h5.grow s⟩
 trk:=λa h z=>S.trk a h (s.free z)
 yo:=S.yo
 tk:=t
 rt:=λa h=>(S.rt a h).grow s
 inj:=S.inj
 len:=S.len
 dx:=S.dx.imp id (λ_ _ e=>⟨e,rfl⟩) (λ_ _ _ _ _ _ e=>e) (λa xs e z _=>⟨s _ _ e,z⟩) λ_ _ r=>aH.seqT s r
theorem exV.trk(S:Sx K RT Y old σ σV H){pa:Bool}{al:List Nat}{a:Addr}(h:exV RT Y old σ σV pa al a):H a≠none:=by
 rcases h with⟨h,_⟩|h|⟨_,h⟩
 . exact S.trk a (.inl h)
 . exact S.trk a (.inr (.inl h))
 . exact S.trk a (.inr (.inr h))
theorem Ro.rv(S:Sx K RT Y old σ σV H)(h:Ro K RT Y old σ σV H H' v u):Rv K RT Y old σ σV H' v u:=by
 obtain⟨s,h⟩:=h
 by_cases hf:v.fr=true
 . rw[if_pos hf] at h
   obtain⟨a,xs,ds,e1,e2,e3,e4,r⟩:=h
   unfold Rv
   rw[e2]
   exact⟨a,xs,e1,SqL.of e4,λz=>exV.trk S z e3,r.weak λb z=>.inr z⟩
 . rw[if_neg hf] at h
   exact h
theorem Rv.grow(h:Rv K RT Y old σ σV H v u)(s:aH H H'):Rv K RT Y old σ σV H' v u:=Rep.grow h s
theorem Rvs.grow:∀{vs:List Vl} {us:List V},Rvs K RT Y old σ σV H vs us->aH H H'->Rvs K RT Y old σ σV H' vs us
 | [],_,h,_=>h
 | v::vs,_,h,s=>by
  obtain⟨u,r,e,h1,h2⟩:=h
  exact⟨u,r,e,h1.grow s,Rvs.grow h2 s⟩
theorem Ro.plain(s:aH H H')(hf:v.fr=false)(h:Rv K RT Y old σ σV H' v u):Ro K RT Y old σ σV H H' v u:=⟨s,by rw[if_neg (by rw[hf];decide)];exact h⟩
theorem Ro.from(h:Ro K RT Y old σ σV H1 H' v u)(s:aH H H1):Ro K RT Y old σ σV H H' v u:=by
 obtain⟨s',h⟩:=h
 refine⟨s.trans s',?_⟩
 by_cases hf:v.fr=true
 . rw[if_pos hf] at h ⊢
   obtain⟨a,xs,ds,e1,e2,e3,e4,r⟩:=h
   exact⟨a,xs,ds,e1,e2,s.free e3,e4,r⟩
 . rw[if_neg hf] at h ⊢
   exact h
theorem Ro.cl{d:D}(s:aH H H')(h:Rep K H' (exV RT Y old σ σV false []) d u):Ro K RT Y old σ σV H H' (.cl d) u:=Ro.plain s rfl h
theorem Rv.sub{d:D}{x:V}{ds:List D}{xs:List V}{j:Nat}(h:Rep K H (exV RT Y old σ σV v.pa v.al) d x):Rv K RT Y old σ σV H (v.sub d) x:=by
 unfold Rv Vl.sub
 by_cases hn:noL d=true
 . rw[if_pos hn]
   exact Rep.free d x hn h
 . rw[if_neg hn]
   exact h
theorem alR.mono{al al':List Nat}{a:Addr}(h:alR σ σV al a)(s:∀j∈al,j∈al'):alR σ σV al' a:=by
 obtain⟨j,hj,q⟩:=h
 exact⟨j,s j hj,q⟩
theorem exV.mono{pa pa':Bool}{al al':List Nat}{a:Addr}(h:exV RT Y old σ σV pa' al' a)(hp:pa=true->pa'=true)(s:∀j∈al,j∈al'):exV RT Y old σ σV pa al a:=by
 rcases h with⟨h1,h2⟩|h|⟨h1,h2⟩
 . exact .inl ⟨h1,λz=>h2 (z.mono s)⟩
 . exact .inr (.inl h)
 . refine .inr (.inr ⟨?_,h2⟩)
   cases pa with
   | false=>rfl
   | true=>rw[hp rfl] at h1;cases h1
theorem Rvs.length:∀{vs:List Vl} {us:List V},Rvs K RT Y old σ σV H vs us->vs.length=us.length
 | [],_,h=>by rw[show _=[] from h];rfl
 | v::vs,_,h=>by
  obtain⟨u,r,e,_,h2⟩:=h
  subst e
  rw[lC,lC,Rvs.length h2]
theorem jO{vs:List Vl}{v:Vl}(h:v∈vs):∀j∈v.al,j∈bK vs:=λj hj=>List.mem_flatMap.mpr ⟨v,h,hj⟩
theorem rW{vs:List Vl}{v:Vl}(h:v∈vs)(hp:v.pa=true):dH vs=true:=List.any_eq_true.mpr ⟨v,h,hp⟩
theorem Rvs.reps:∀{vs:List Vl} {us:List V} {pa:Bool} {al:List Nat},Rvs K RT Y old σ σV H vs us->(∀v∈vs,(v.pa=true->pa=true)/\∀j∈v.al,j∈al) ->
 Reps K H (exV RT Y old σ σV pa al) (vs.map (·.d)) us
 | [],_,_,_,h,_=>h
 | v::vs,_,_,_,h,q=>by
  obtain⟨u,r,e,h1,h2⟩:=h
  have q1:=q v List.mem_cons_self
  exact⟨u,r,e,Rep.weak h1 λa z=>z.mono q1.1 q1.2,Rvs.reps h2 λw hw=>q w (List.mem_cons_of_mem _ hw)⟩
theorem Rvs.all{vs:List Vl}{us:List V}(h:Rvs K RT Y old σ σV H vs us):Reps K H (exV RT Y old σ σV (dH vs) (bK vs)) (vs.map (·.d)) us:=
 h.reps λv hv=>⟨λz=>rW hv z,jO hv⟩
theorem Ro.fresh{p:Addr}{xs:List V}{ds:List D}(hp:H p=none)(ht:Tk K (upd H p (.lst xs)))(hd:v.d=.lst ds)(hf:v.fr=true)(S:Sx K RT Y old σ σV H)(r:Reps K H (exV RT Y old σ σV v.pa v.al) ds xs) :
 Ro K RT Y old σ σV H (upd H p (.lst xs)) v (.ref p):=by
 have s:aH H (upd H p (.lst xs)):=λb o q=>by rw[aJ (bE q hp)];exact q
 refine⟨s,?_⟩
 rw[if_pos hf]
 refine⟨p,xs,ds,rfl,hd,hp,bD,?_⟩
 refine Reps.imp (λ_ _ q=>aH.seqT s q) (λa ys n q=>⟨λz=>?_,s.seq q⟩) (λ_ _ q=>s _ _ q) ds xs r
 rcases z with z|z
 . subst z
   rcases q with(q|⟨o,q⟩)|⟨o,its,n',q,_⟩
   . rw[hp] at q;cases q
   . rw[hp] at q;cases q
   . have z:=ht a (by rw[bD];simp)
     rw[q] at z;cases z
 . exact n z
theorem aH.new{p:Addr}{o:HO}(hp:H p=none):aH H (upd H p o):=λb u q=>by rw[aJ (bE q hp)];exact q
theorem Ro.tup{p:Addr}{xs:List V}{ds:List D}(hp:H p=none)(hd:v.d=.tup ds)(hf:v.fr=false)(r:Reps K H (exV RT Y old σ σV v.pa v.al) ds xs) :
 Ro K RT Y old σ σV H (upd H p (.tup xs)) v (.ref p):=by
 refine Ro.plain (aH.new hp) hf ?_
 unfold Rv
 rw[hd]
 exact⟨p,xs,rfl,SqT.of bD,r.grow (aH.new hp)⟩
end
section
variable (X:Cx) (P:Pg) (cl:Caller) (RT Y old:Addr->Prop)
noncomputable def wE(σ:Sg)(c:E):TE:=λσV H Q=>Sx X.K RT Y old σ σV H/\RE (ev P cl σ c) λv=>∀u H',Tk X.K H'->Ro X.K RT Y old σ σV H H' v u->Q u H'
noncomputable def wT(σ:Sg)(c:E):TT:=λσV H Q=>Sx X.K RT Y old σ σV H/\RE (tst P cl σ c) λk=>∀H',Tk X.K H'->aH H H'->Q k H'
noncomputable def wA(σ:Sg)(cs:Es):TA:=λσV H Q=>Sx X.K RT Y old σ σV H/\RE (evs P cl σ cs) λvs=>∀us H',Tk X.K H'->aH H H'->Rvs X.K RT Y old σ σV H' vs us->Q us H'
end
section
variable {X:Cx} {P:Pg} {cl:Caller} {RT Y old:Addr->Prop} {σ:Sg} {pos:Pos}
theorem _root_.L2.Inv.tk{pins:List (Addr×Obj)}{σV:L2.St}{H:Hp}{s:Shared}(I:Inv X pins σV H s):Tk X.K H:=λb hb=>by
 cases q:X.K.lookup b with
 | none=>rfl
 | some o=>exact absurd (I.bs b o (I.ok.mod.kin b o q)).2 hb
theorem _root_.L2.PE.imp{e:Expr}{t t':TE}(h:PE X e t)(f:∀σV H Q,Tk X.K H->t' σV H Q->t σV H λv H'=>Tk X.K H'->Q v H'):PE X e t':=λpins s σV H Q I hw=>
 thn (h pins s σV H _ I (f σV H Q I.tk hw)) λu s' ⟨v,H',I',r,q⟩=>⟨v,H',I',r,q I'.tk⟩
theorem _root_.L2.PT.imp{e:Expr}{t t':TT}(h:PT X e t)(f:∀σV H Q,Tk X.K H->t' σV H Q->t σV H λv H'=>Tk X.K H'->Q v H'):PT X e t':=λpins s σV H Q I hw=>
 thn (h pins s σV H _ I (f σV H Q I.tk hw)) λk s' ⟨H',I',q⟩=>⟨H',I',q I'.tk⟩
theorem _root_.L2.PA.imp{es:List Expr}{t t':TA}(h:PA X es t)(f:∀σV H Q,Tk X.K H->t' σV H Q->t σV H λv H'=>Tk X.K H'->Q v H'):PA X es t':=λpos pins s σV H Q I hw=>
 thn (h pos pins s σV H _ I (f σV H Q I.tk hw)) λu s' ⟨v,H',I',r,q⟩=>⟨v,H',I',r,q I'.tk⟩
theorem wE.two{a b:E}{σV:L2.St}{H:Hp}{p:Vl->Vl->Prop}{Q:V->V->Hp->Prop}(S:Sx X.K RT Y old σ σV H)(h:RE (ev P cl σ a) λx=>RE (ev P cl σ b) λy=>p x y)
 (f:∀x y ux uy H2,p x y->Tk X.K H2->aH H H2->Sx X.K RT Y old σ σV H2->Rv X.K RT Y old σ σV H2 x ux->Rv X.K RT Y old σ σV H2 y uy->Q ux uy H2) :
 wE X P cl RT Y old σ a σV H λux H1=>wE X P cl RT Y old σ b σV H1 λuy H2=>Q ux uy H2:=by
 refine⟨S,h.mono λx hx ux H1 t1 r1=>⟨S.grow r1.1 t1,hx.mono λy hy uy H2 t2 r2=>?_⟩⟩
 have S1:=S.grow r1.1 t1
 exact f x y ux uy H2 hy t2 (r1.1.trans r2.1) (S1.grow r2.1 t2) ((r1.rv S).grow r2.1) (r2.rv S1)
theorem Ro.val{d:D}{u:V}{σV:L2.St}{H H':Hp}(s:aH H H')(h:∀ex,Rep X.K H' ex d u):Ro X.K RT Y old σ σV H H' (.cl d) u:=Ro.cl s (h _)
theorem s_c {d : D} {c : Const} {k : Nat} (h : eqC d c = true) : PE X (.Constant c k pos) (wE X P cl RT Y old σ (.c d)) := by
 have key : ∀ {v : V}, (∀ (H : Hp) ex, Rep X.K H ex d v) -> PE X (.Constant c k pos) (tC v) -> PE X (.Constant c k pos) (wE X P cl RT Y old σ (.c d)) := λ hv hp =>
  hp.imp λ σV H Q t ⟨S, q⟩ t' => q _ H t' (Ro.val (aH.refl H) (hv H))
 cases d with
 | non => cases c with
  | none => exact key (λ _ _ => rfl) aEj
  | _ => cases h
 | bl b => cases c with
  | bool b' => have e : b = b' := by simpa [eqC] using h
               subst e; exact key (λ _ _ => rfl) aGn
  | _ => cases h
 | int b => cases c with
  | int b' => have e : b = b' := by simpa [eqC] using h
              subst e; exact key (λ _ _ => rfl) aEi
  | _ => cases h
 | str b => cases c with
  | str b' => have e : b = b' := by simpa [eqC] using h
              subst e; exact key (λ _ _ => rfl) aEk
  | _ => cases h
 | _ => cases c <;> cases h
theorem s_v{i:Nat}{x:Str}(hN:X.N[i]? = some x)(hv:Vis X.env.scope x)(hd:(x==("__debug__" : Str))=false)(hcd:(x==("__classdict__" : Str))=false) :
 PE X (.Name x pos) (wE X P cl RT Y old σ (.v i)):=by
 refine(gJ hN hv hd hcd).imp λσV H Q t ⟨S,q⟩=>?_
 have q:RE (bX σ i) _:=q
 unfold bX at q
 cases e:σ[i]? with
 | none=>rw[e] at q;exact q.elim
 | some sl=>
  rw[e] at q
  cases sl with
  | dead=>exact q.elim
  | dct _=>exact q.elim
  | sh pa d=>
   obtain⟨v,h1,h2⟩:=S.sh i pa d e
   refine⟨v,h1,λt'=>q v H t' (Ro.plain (aH.refl H) rfl ?_)⟩
   unfold Rv
   by_cases hn:noL d=true
   . exact Rep.free d v hn h2
   . refine Rep.weak h2 λa z=>?_
     rcases z with⟨z,_⟩|z|⟨z,z'⟩
     . exact .inl z
     . exact .inr (.inl z)
     . have:pa=false:=by simpa[hn] using z
       exact .inr (.inr ⟨this,z'⟩)
  | own pa ds=>
   obtain⟨a,xs,h1,h2,h3,h4,h5⟩:=S.own i pa ds e
   refine⟨.ref a,h1,λt'=>q _ H t' (Ro.plain (aH.refl H) rfl ?_)⟩
   unfold Rv
   refine⟨a,xs,rfl,SqL.of h2,λz=>?_,h5.weak λb z=>?_⟩
   . rcases z with⟨_,z⟩|z|⟨_,z⟩
     . exact z ⟨i,by simp,⟨pa,ds,e⟩,h1⟩
     . exact h4 (S.yo a z)
     . exact h4 z
   . rcases z with⟨z,_⟩|z
     . exact .inl z
     . exact .inr z
end
noncomputable def aAv(prog:Program)(w:World)(K:Fg)(a:Addr)(t:List (Str×D)):Prop:=(a==sysModules)=false/\∃vs:List (Key×Value),(∀h:Heap,K.In h->h.DictOf (eD prog w) a vs) /\
 ∀k:Str,(t.lookup k=none/\valueAt vs (Sum.inr k:Key)=none)\/∃d u v,t.lookup k=some d/\valueAt vs (Sum.inr k:Key)=some u/\aR v u/\∀(H:Hp) (ex:Addr->Prop),Rep K H ex d v
section
variable {X:Cx}
end
section
variable {X:Cx} {RT Y old:Addr->Prop} {σ:Sg} {σV:L2.St} {H:Hp} {s:Shared} {pins:List (Addr×Obj)} {Q:VK} {ux uy:V} {vx vy:Value} {x y:Vl}
theorem _root_.L2.EP.tk{u:Value}{s':Shared}(h:EP X pins σV (λv H'=>Tk X.K H'->Q v H') u s'):EP X pins σV Q u s':=by
 obtain⟨v,H',I',r,q⟩:=h
 exact⟨v,H',I',r,q (Inv.tk I')⟩
abbrev Wn(X:Cx)(RT Y old:Addr->Prop)(σ:Sg)(σV:L2.St)(H:Hp)(Q:VK)(v:Vl):Prop:=∀u H',Tk X.K H'->Ro X.K RT Y old σ σV H H' v u->Q u H'
theorem Wn.val{d:D}{u:V}(w:Wn X RT Y old σ σV H Q (.cl d))(t:Tk X.K H)(h:∀ex,Rep X.K H ex d u):Q u H:=w u H t (Ro.cl (aH.refl H) (h _))
theorem Rv.int{i:Int}{u:V}(h:Rv X.K RT Y old σ σV H x u)(e:x.d=.int i):u=.int i:=by unfold Rv at h;rw[e] at h;exact h
theorem Rv.str{i:Str}{u:V}(h:Rv X.K RT Y old σ σV H x u)(e:x.d=.str i):u=.str i:=by unfold Rv at h;rw[e] at h;exact h
theorem Rv.bl{i:Bool}{u:V}(h:Rv X.K RT Y old σ σV H x u)(e:x.d=.bl i):u=.bl i:=by unfold Rv at h;rw[e] at h;exact h
theorem Rv.non{u:V}(h:Rv X.K RT Y old σ σV H x u)(e:x.d=.non):u=.non:=by unfold Rv at h;rw[e] at h;exact h
theorem Rv.tup{ds:List D}{u:V}(h:Rv X.K RT Y old σ σV H x u)(e:x.d=.tup ds):∃a xs,u=.ref a/\SqT X.K H a xs/\Reps X.K H (exV RT Y old σ σV x.pa x.al) ds xs:=by unfold Rv at h;rw[e] at h;exact h
theorem Rv.lst{ds:List D}{u:V}(h:Rv X.K RT Y old σ σV H x u)(e:x.d=.lst ds):∃a xs,u=.ref a/\SqL X.K H a xs/\¬ exV RT Y old σ σV x.pa x.al a/\Reps X.K H (exV RT Y old σ σV x.pa x.al) ds xs:=by unfold Rv at h;rw[e] at h;exact h
theorem aEV:lim<=sizeLine:=by unfold lim;rw[sizeLine_eq];decide
theorem cT{n:Nat}(h:n<=lim):n<=sizeLine:=Nat.le_trans h aEV
theorem eK{ds:List D}{xs:List V}{pa:Bool}{al:List Nat}{K:Fg}(r:Reps K H (exV RT Y old σ σV pa al) ds xs) :
 Reps K H (exV RT Y old σ σV (pa&&!noLs ds) (if noLs ds=true then [] else al)) ds xs:=by
 by_cases hn:noLs ds=true
 . exact Reps.free ds xs hn r
 . rw[if_neg hn]
   refine r.weak λa z=>z.mono (λhp=>?_) λj hj=>hj
   rw[hp];simp[hn]
noncomputable def aHc(K:Fg):R2:=λx y H Q=>∃l b xs zs,x=.ref l/\y=.ref b/\SqL K H l xs/\SqL K H b zs/\xs.length+zs.length<=sizeLine/\∀p,H p=none->Q (.ref p) (upd H p (.lst (xs++zs)))
theorem aCA:OpR X (binaryOp .Add) (aHc X.K):=by
 intro pins s σV H x y v u Q I rx ry h
 obtain⟨l,b,xs,zs,rfl,rfl,hH,hB,hz,q⟩:=h
 cases rx
 cases ry
 obtain⟨its,r,pl,z⟩:=I.list hH
 obtain⟨its2,r2,pl2,z2⟩:=I.list hB
 obtain⟨⟨cls,dd,data,sl⟩,ho,hc,n,hd⟩:=pl.isList
 obtain⟨⟨cls2,dd2,data2,sl2⟩,ho2,hc2,n2,hd2⟩:=pl2.isList
 simp only at hc hd hc2 hd2
 subst hc hd hc2 hd2
 have e:its.toArray++its2.toArray=(its++its2).toArray:=by simp
 have hl:=r.length
 have hl2:=r2.length
 refine concat_meets ⟨_,ho,rfl⟩ ⟨_,ho2,rfl⟩ noFill_list_add seq_list_add PySem.F.slot_list_add PySem.F.entry_list_add (PySem.F.args_list_add_2 _ _) (list_addW l b its.toArray its2.toArray n n2 dd dd2 sl sl2 (by rw[List.size_toArray,List.size_toArray];omega)) ⟨ho,ho2,?_⟩
 rw[e]
 exact⟨.ref _,_,I.lnew (t':=s.toks) (r.append r2) (by rw[lA];omega),rfl,q _ I.fresh⟩
theorem aCB(x:Str):Str.rep x 1=x:=by
 unfold Str.rep
 cases x
 simp
theorem yG(x:Str)(h:x.length=0)(k:Nat):Str.rep x k=x:=by
 have hx:x.cps=#[]:=by
  unfold Str.length at h
  exact Array.eq_empty_of_size_eq_zero h
 have go:∀k,(List.replicate k x.cps).foldl (·++·) #[]=#[]:=by
  intro k
  rw[hx]
  induction k with
  | zero=>rfl
  | succ k ih=>rw[List.replicate_succ,List.foldl_cons];simpa using ih
 unfold Str.rep
 rw[go k]
 cases x
 simp at hx
 rw[hx]
theorem uH(x:Str)(k:Nat):(⟨(List.replicate k x.cps).foldl (·++·) #[]⟩:Str).length=x.length*k:=by
 have go:∀(k:Nat) (acc:Array Nat),((List.replicate k x.cps).foldl (·++·) acc).size=acc.size+x.cps.size*k:=by
  intro k
  induction k with
  | zero=>intro acc;simp
  | succ k ih=>
   intro acc
   rw[List.replicate_succ,List.foldl_cons,ih,Array.size_append,Nat.mul_succ]
   omega
 show((List.replicate k x.cps).foldl (·++·) #[]).size=x.cps.size*k
 rw[go]
 simp
theorem aCC:OpR X (binaryOp .Mult) (λx y H Q=>∃a k,x=.str a/\y=.int k/\aF k=true/\a.length*k.toNat<=lim/\Q (.str (Str.rep a k.toNat)) H):=by
 intro pins s σV H x y v u Q I rx ry h
 obtain⟨a,k,rfl,rfl,hk,hl,q⟩:=h
 obtain⟨t,rfl⟩:=rx
 obtain⟨t',rfl⟩:=ry
 unfold aF at hk
 simp only[bA,decide_eq_true_eq] at hk
 have h1:-(2 ^ 62:Int)<=k:=hk.1
 have h2:k<(2 ^ 62:Int):=hk.2
 have e1:decide (k < -(2 ^ 63:Int))=false:=decide_eq_false (by omega)
 have e2:decide (k ≥ (2 ^ 63:Int))=false:=decide_eq_false (by omega)
 have fin:∀z:Str,z=Str.rep a k.toNat->∀tk,EP X pins σV Q (.str z tk) { s with toks:=s.toks+1 }:=λz e tk=>by
  subst e
  exact⟨.str _,H,I.tok _,⟨_,rfl⟩,q⟩
 refine P.mul_str (by rw[e1,e2];rfl) (λn1 n2 z=>?_) (λn1 n2=>?_) ?_
 . have k1:1<=k:=by omega
   have z1:(a.length:Int)*k<=(lim:Int):=by
    have hk':((k.toNat:Nat):Int)=k:=by omega
    have:=Int.ofNat_le.mpr hl
    rw[Int.natCast_mul] at this
    rw[<-hk']
    exact_mod_cast this
   have z2:(2 ^ 63-1:Int) / k<a.length:=z
   have z3:(2 ^ 63-1:Int)<a.length*k:=Int.lt_mul_of_ediv_lt (by omega) z2
   have z4:(lim:Int)=1000000:=rfl
   omega
 . unfold Builtin.Str.tooLong
   have:=cT hl
   exact decide_eq_false (by omega)
 . split
   . rename_i hn
     have:k.toNat=0:=by omega
     refine⟨by decide,?_⟩
     exact fin _ (by rw[this];rfl) _
   . split
     . rename_i hn h1'
       have hz:Str.rep a k.toNat=a:=by
        rcases Bool.or_eq_true_iff.mp h1' with z|z
        . have:k=1:=eq_of_beq z
          subst this
          exact aCB a
        . exact yG a (eq_of_beq z) _
       exact⟨.str a,H,I,⟨_,rfl⟩,by rw[hz] at q;exact q⟩
     . refine⟨?_,fin _ rfl _⟩
       have:=cT hl
       rw[uH]
       exact this
noncomputable def aEW(K:Fg):R2:=λx y H Q=>∃a b xs ys,x=.ref a/\y=.ref b/\SqT K H a xs/\SqT K H b ys/\xs.length+ys.length<=sizeLine /\
 (xs=[]->Q (.ref b) H)/\(xs≠[]->ys=[]->Q (.ref a) H)/\(xs≠[]->ys≠[]->∀p,H p=none->Q (.ref p) (upd H p (.tup (xs++ys))))
theorem aAw:OpR X (binaryOp .Add) (aEW X.K):=by
 intro pins s σ H x y v u Q I rx ry h
 obtain⟨a,b,xs,ys,rfl,rfl,ha,hb,hz,q0,q1,q2⟩:=h
 by_cases hx:xs=[]
 . cases rx
   cases ry
   obtain⟨its,r1,p1,_⟩:=I.tuple ha
   obtain⟨its2,r2,p2,_⟩:=I.tuple hb
   obtain⟨⟨cls,dd,data,sl⟩,ho,hc,n,hd⟩:=id p1
   obtain⟨⟨cls2,dd2,data2,sl2⟩,ho2,hc2,n2,hd2⟩:=id p2
   simp only at hc hd hc2 hd2
   subst hc hd hc2 hd2
   have hi:its=[]:=r1.nil_iff.mpr hx
   exact concat_meets ⟨_,ho,rfl⟩ ⟨_,ho2,rfl⟩ noFill_tuple_add seq_tuple_add PySem.F.slot_tuple_add PySem.F.entry_tuple_add (PySem.F.args_tuple_add_2 _ _)
    (tuple_addW0 a b its.toArray its2.toArray n n2 dd dd2 sl sl2 (by simp[hi])) ⟨ho,ho2,⟨.ref b,H,I,rfl,q0 hx⟩⟩
 . exact aCl pins s σ H _ _ v u Q I rx ry ⟨a,b,xs,ys,rfl,rfl,ha,hb,hx,hz,q1 hx,q2 hx⟩
theorem aAx{o:Operator}(I:Inv X pins σV H s)(S:Sx X.K RT Y old σ σV H)(rx:aR ux vx)(ry:aR uy vy)(hx:Rv X.K RT Y old σ σV H x ux)(hy:Rv X.K RT Y old σ σV H y uy)
 (hfr:x.fr=true->∃a xs,ux=.ref a/\H a=some (.lst xs)) (h:RE (opD o x y) (Wn X RT Y old σ σV H Q)):wpAny (model X.prog X.w) X.A (binaryOp o vx vy) (EP X pins σV Q) X.xe s:=by
 have t:=Inv.tk I
 have go:∀{f:Value->Value->Sem Value} {r:R2},OpR X f r->(r ux uy H λv H'=>Tk X.K H'->Q v H')->wpAny (model X.prog X.w) X.A (f vx vy) (EP X pins σV Q) X.xe s:=λhr q=>
  thn (hr pins s σV H ux uy vx vy _ I rx ry q) λu s' z=>EP.tk z
 cases o with
 | Add=>
  have h:RE (aEO x y) (Wn X RT Y old σ σV H Q):=h
  unfold aEO at h
  split at h
  . rename_i i j d1 d2
    exact go aEv ⟨i,j,hx.int d1,hy.int d2,λ_=>h.val t λ_=>rfl⟩
  . rename_i i j d1 d2
    obtain⟨c,h⟩:=h.iff
    exact go tV ⟨i,j,hx.str d1,hy.str d2,cT (of_decide_eq_true c),λ_=>Wn.val h t λ_=>rfl⟩
  . rename_i as bs d1 d2
    obtain⟨c,h⟩:=h.iff
    obtain⟨a,xs,e1,q1,r1⟩:=hx.tup d1
    obtain⟨b,ys,e2,q2,r2⟩:=hy.tup d2
    have l1:=r1.length
    have l2:=r2.length
    have c':=of_decide_eq_true c
    have r1':Reps X.K H (exV RT Y old σ σV (x.pa||y.pa) (x.al++y.al)) as xs:=r1.weak λa z=>z.mono (λhp=>by rw[hp];rfl) λj hj=>List.mem_append_left _ hj
    have r2':Reps X.K H (exV RT Y old σ σV (x.pa||y.pa) (x.al++y.al)) bs ys:=r2.weak λa z=>z.mono (λhp=>by rw[hp,Bool.or_true]) λj hj=>List.mem_append_right _ hj
    refine go aAw ⟨a,b,xs,ys,e1,e2,q1,q2,cT (by omega),λz t'=>?_,λz z' t'=>?_,λz z' p hp t'=>?_⟩
    . subst z
      have:as=[]:=List.length_eq_zero_iff.mp (by simpa using l1)
      subst this
      exact h _ _ t' (Ro.plain (aH.refl H) rfl ⟨b,ys,rfl,q2,r2'⟩)
    . subst z'
      have:bs=[]:=List.length_eq_zero_iff.mp (by simpa using l2)
      subst this
      exact h _ _ t' (Ro.plain (aH.refl H) rfl ⟨a,xs,rfl,q1,by rw[List.append_nil];exact r1'⟩)
    . exact h _ _ t' (Ro.tup hp rfl rfl (r1'.append r2'))
  . rename_i as bs d1 d2
    obtain⟨c,h⟩:=h.iff
    obtain⟨a,xs,e1,q1,_,r1⟩:=hx.lst d1
    obtain⟨b,ys,e2,q2,_,r2⟩:=hy.lst d2
    have l1:=r1.length
    have l2:=r2.length
    have c':=of_decide_eq_true c
    refine go aCA ⟨a,b,xs,ys,e1,e2,q1,q2,cT (by omega),λp hp t'=>h _ _ t' (Ro.fresh hp t' rfl rfl S ?_)⟩
    refine Reps.append ((eK r1).weak λa z=>z.mono (λhp=>?_) λj hj=>List.mem_append_left _ hj) ((eK r2).weak λa z=>z.mono (λhp=>?_) λj hj=>List.mem_append_right _ hj)
    . show(_||_)=true
      rw[hp];rfl
    . show(_||_)=true
      rw[hp,Bool.or_true]
  . exact h.elim
 | Mult=>
  have h:RE (aEP x y) (Wn X RT Y old σ σV H Q):=h
  unfold aEP at h
  split at h
  . rename_i i j d1 d2
    obtain⟨c,h⟩:=h.iff
    refine go aEx ⟨i,j,hx.int d1,hy.int d2,?_,λ_=>Wn.val h t λ_=>rfl⟩
    simp only[kT,Bool.or_eq_true,bA,decide_eq_true_eq] at c
    exact c
  . rename_i i j d1 d2
    obtain⟨c,h⟩:=h.iff
    simp only[bA,decide_eq_true_eq] at c
    exact go aCC ⟨i,j,hx.str d1,hy.int d2,c.1,c.2,λ_=>Wn.val h t λ_=>rfl⟩
  . rename_i as k d1 d2
    obtain⟨c,h⟩:=h.iff
    simp only[bA,decide_eq_true_eq] at c
    obtain⟨a,xs,e1,q1,_,r1⟩:=hx.lst d1
    obtain⟨a',xs',e1',q1'⟩:=hfr c.1.1.1
    rw[e1] at e1'
    cases e1'
    have e3:xs=xs':=I.list_inj q1 (SqL.of q1')
    subst e3
    have l1:=r1.length
    have hk:=c.1.1.2
    unfold aF at hk
    simp only[bA,decide_eq_true_eq] at hk
    have hk1:=hk.1
    have hk2:=hk.2
    refine go aEK ⟨a,k,xs,e1,hy.int d2,q1',by omega,by omega,cT (by rw[<-l1];exact c.1.2),λp hp t'=>h _ _ t' (Ro.fresh hp t' rfl rfl S ?_)⟩
    exact Reps.flat (Reps.free as xs c.2 r1) _
  . rename_i as k d1 d2
    obtain⟨c,h⟩:=h.iff
    simp only[bA,decide_eq_true_eq,Bool.not_eq_true',List.isEmpty_eq_false_iff] at c
    obtain⟨⟨⟨⟨c1,c2⟩,c3⟩,c4⟩,c5⟩:=c
    obtain⟨a,xs,e1,q1,r1⟩:=hx.tup d1
    have l1:=r1.length
    unfold aF at c2
    simp only[bA,decide_eq_true_eq] at c2
    have hk2:=c2.2
    have r2:=Reps.flat (Reps.free (ex':=exV RT Y old σ σV false []) as xs c5 r1) k.toNat
    refine go aCv ⟨a,k,xs,e1,hy.int d2,q1,λz=>c3 (List.length_eq_zero_iff.mp (by rw[l1,z];rfl)),c1,by omega,cT (by rw[<-l1];exact c4),λz t'=>?_,λ_ p hp t'=>h _ _ t' (Ro.tup hp rfl rfl r2)⟩
    subst z
    have e:∀{α:Type} (l:List α),(List.replicate (1:Int).toNat l).flatten=l:=λl=>by simp
    rw[e] at h
    rw[e,e] at r2
    exact h _ _ t' (Ro.cl (aH.refl H) ⟨a,xs,rfl,q1,r2⟩)
  . exact h.elim
 | Sub=>
  dsimp only[opD,rR] at h
  split at h
  . rename_i i j d1 d2
    exact go aEw ⟨i,j,hx.int d1,hy.int d2,λ_=>h.val t λ_=>rfl⟩
  . exact h.elim
 | FloorDiv=>
  dsimp only[opD,rR] at h
  split at h
  . rename_i i j d1 d2
    obtain⟨c,h⟩:=h.iff
    refine go aCd ⟨i,j,hx.int d1,hy.int d2,?_,λ_=>Wn.val h t λ_=>rfl⟩
    simp only[vK,bA,decide_eq_true_eq] at c
    exact c
  . exact h.elim
 | Mod=>
  dsimp only[opD,rR] at h
  split at h
  . rename_i i j d1 d2
    obtain⟨c,h⟩:=h.iff
    exact go aEy ⟨i,j,hx.int d1,hy.int d2,of_decide_eq_true c,λ_=>Wn.val h t λ_=>rfl⟩
  . exact h.elim
 | Pow=>
  dsimp only[opD,rR] at h
  split at h
  . rename_i i j d1 d2
    obtain⟨c,h⟩:=h.iff
    refine go aEz ⟨i,j,hx.int d1,hy.int d2,?_,λ_=>Wn.val h t λ_=>rfl⟩
    simp only[aDF,bA,decide_eq_true_eq] at c
    exact⟨c.1.1,by omega,c.2⟩
  . exact h.elim
 | _=>exact h.elim
end
end Hp
end
noncomputable section
namespace Hp
open PySem PySem.Spec PyProof.Rows L2 PySem.SeqAt
noncomputable def fC(n:Nat)(ds es:List D)(j:Nat):Bool:=match ds[j]?,es[j]? with
 | some x,some y=>(eqF n x y).getD false
 | _,_=>false
theorem vN:∀{n:Nat} {ds es:List D} {k:Bool},cP n ds es=some k->∀{j:Nat} {x y:D},ds[j]? = some x->es[j]? = some y->∃b,eqF n x y=some b
 | n,[],es,k,h,j,x,y,e1,e2=>by simp at e1
 | n,d::ds,[],k,h,j,x,y,e1,e2=>by simp at e2
 | n,d::ds,e::es,k,h,j,x,y,e1,e2=>by
  rw[cP] at h
  cases h1:eqF n d e with
  | none=>rw[h1] at h;simp at h
  | some b=>
   cases h2:cP n ds es with
   | none=>rw[h1,h2] at h;simp at h
   | some b'=>
    cases j with
    | zero=>simp at e1 e2;subst e1 e2;exact⟨b,h1⟩
    | succ j=>exact vN h2 (by simpa using e1) (by simpa using e2)
theorem lB:∀{n:Nat} {ds es:List D} {k:Bool},cP n ds es=some k->k=((List.range (min ds.length es.length)).all (fC n ds es)&&ds.length==es.length)
 | n,[],[],k,h=>by simp[cP] at h;simp[<-h]
 | n,[],e::es,k,h=>by simp[cP] at h;simp[<-h]
 | n,d::ds,[],k,h=>by simp[cP] at h;simp[<-h]
 | n,d::ds,e::es,k,h=>by
  rw[cP] at h
  cases h1:eqF n d e with
  | none=>rw[h1] at h;simp at h
  | some b=>
   cases h2:cP n ds es with
   | none=>rw[h1,h2] at h;simp at h
   | some b'=>
    rw[h1,h2] at h
    have hk:(b&&b')=k:=Option.some.inj h
    have ih:=lB h2
    have e0:fC n (d::ds) (e::es) 0=b:=by simp[fC,h1]
    have es':∀j,fC n (d::ds) (e::es) (j+1)=fC n ds es j:=λj=>by simp[fC]
    have hm:min (d::ds).length (e::es).length=min ds.length es.length+1:=by simp only[lC];omega
    rw[hm,List.range_succ_eq_map,List.all_cons,e0,List.all_map]
    have:(fC n (d::ds) (e::es))∘Nat.succ=fC n ds es:=funext λj=>es' j
    rw[this,<-hk,ih]
    simp[Bool.and_assoc]
section
variable {X:Cx} {σV:L2.St} {H:Hp} {s:Shared} {pins:List (Addr×Obj)}
theorem _root_.L2.Inv.lt_ne(I:L2.Inv X pins σV H s){a:Addr}{xs ys:List V}(h1:SqL X.K H a xs)(h2:SqT X.K H a ys):False:=by
 obtain⟨its,_,pl,_⟩:=I.list h1
 obtain⟨its2,_,pt,_⟩:=I.tuple h2
 exact ne_of_list_tuple pl.isList (show s.heap.IsTuple a its2.toArray from pt) rfl
theorem aAy{n:Nat}{ds:List (D×D)}{e:D}{k:Bool}(h:eqF (n+1) (.dic ds) e=some k):∃a x b y,ds=[(.int a,.int x)]/\e=.dic [(.int b,.int y)]/\k=(a==b&&x==y):=by
 unfold eqF at h
 split at h <;> first|(cases h;done)|(rename_i e1 e2;cases e1;done)|(rename_i e1;cases e1;done)|skip
 . rename_i a x b y e
   cases e
   cases h
   exact⟨a,x,b,y,rfl,rfl,rfl⟩
 . rename_i z _ _ _ _ _ _ _ _ _ _
   exact absurd rfl (z _)
theorem kB{K:Fg}{H:Hp}{ex:Addr->Prop}{a x:Int}{u:V}(h:Rep K H ex (.dic [(.int a,.int x)]) u):∃p,u=.ref p/\H p=some (.dK [(.inl a,.int x)]):=by
 obtain⟨p,ks,e,g,r⟩:=h
 obtain⟨k',v,r',e1,e2,e3,e4⟩:=r
 have e4:r'=[]:=e4
 have e3:v=.int x:=e3
 subst e4 e3 e1
 cases k' with
 | inl i=>cases e2;exact⟨p,e,g⟩
 | inr z=>cases e2
mutual
theorem kC(I:L2.Inv X pins σV H s):∀(n:Nat) (d e:D) (u:V) (k:Bool) (ex ex':Addr->Prop),Rep X.K H ex d u->Rep X.K H ex' e u->eqF n d e=some k->k=true
 | 0,d,e,u,k,_,_,_,_,h=>by simp[eqF] at h
 | n+1,.non,e,u,k,_,_,h1,h2,h=>by
  rw[show u=.non from h1] at h2
  cases e with
  | non=>simpa[eqF] using h.symm
  | tup ds=>obtain⟨a,xs,z,_⟩:=h2;cases z
  | lst ds=>obtain⟨a,xs,z,_⟩:=h2;cases z
  | dic ds=>obtain⟨a,xs,z,_⟩:=h2;cases z
  | err _ _=>exact h2.elim
  | bl b=>cases(show V.non=.bl b from h2)
  | int b=>cases(show V.non=.int b from h2)
  | str b=>cases(show V.non=.str b from h2)
 | n+1,.bl b,e,u,k,_,_,h1,h2,h=>by
  rw[show u=.bl b from h1] at h2
  cases e with
  | bl b'=>cases(show V.bl b=.bl b' from h2);simpa[eqF] using h.symm
  | tup ds=>obtain⟨a,xs,z,_⟩:=h2;cases z
  | lst ds=>obtain⟨a,xs,z,_⟩:=h2;cases z
  | dic ds=>obtain⟨a,xs,z,_⟩:=h2;cases z
  | err _ _=>exact h2.elim
  | non=>cases(show V.bl b=.non from h2)
  | int b'=>cases(show V.bl b=.int b' from h2)
  | str b'=>cases(show V.bl b=.str b' from h2)
 | n+1,.int b,e,u,k,_,_,h1,h2,h=>by
  rw[show u=.int b from h1] at h2
  cases e with
  | int b'=>cases(show V.int b=.int b' from h2);simpa[eqF] using h.symm
  | tup ds=>obtain⟨a,xs,z,_⟩:=h2;cases z
  | lst ds=>obtain⟨a,xs,z,_⟩:=h2;cases z
  | dic ds=>obtain⟨a,xs,z,_⟩:=h2;cases z
  | err _ _=>exact h2.elim
  | non=>cases(show V.int b=.non from h2)
  | bl b'=>cases(show V.int b=.bl b' from h2)
  | str b'=>cases(show V.int b=.str b' from h2)
 | n+1,.str b,e,u,k,_,_,h1,h2,h=>by
  rw[show u=.str b from h1] at h2
  cases e with
  | str b'=>cases(show V.str b=.str b' from h2);simpa[eqF] using h.symm
  | tup ds=>obtain⟨a,xs,z,_⟩:=h2;cases z
  | lst ds=>obtain⟨a,xs,z,_⟩:=h2;cases z
  | dic ds=>obtain⟨a,xs,z,_⟩:=h2;cases z
  | err _ _=>exact h2.elim
  | non=>cases(show V.str b=.non from h2)
  | bl b'=>cases(show V.str b=.bl b' from h2)
  | int b'=>cases(show V.str b=.int b' from h2)
 | n+1,.tup ds,e,u,k,ex,ex',h1,h2,h=>by
  obtain⟨a,xs,z,q,r⟩:=h1
  subst z
  cases e with
  | tup es=>
   obtain⟨a',ys,z,q',r'⟩:=h2
   cases z
   have:xs=ys:=I.tuple_inj q q'
   subst this
   exact eqs_same I n ds es xs k ex ex' r r' (by simpa[eqF] using h)
  | lst es=>
   obtain⟨a',ys,z,q',_,r'⟩:=h2
   cases z
   exact(I.lt_ne q' q).elim
  | dic ds=>simp[eqF] at h
  | err _ _=>exact h2.elim
  | non=>cases(show V.ref a=.non from h2)
  | bl b'=>cases(show V.ref a=.bl b' from h2)
  | int b'=>cases(show V.ref a=.int b' from h2)
  | str b'=>cases(show V.ref a=.str b' from h2)
 | n+1,.lst ds,e,u,k,ex,ex',h1,h2,h=>by
  obtain⟨a,xs,z,q,_,r⟩:=h1
  subst z
  cases e with
  | lst es=>
   obtain⟨a',ys,z,q',_,r'⟩:=h2
   cases z
   have:xs=ys:=I.list_inj q q'
   subst this
   have hl:ds.length=es.length:=r.length.trans r'.length.symm
   exact eqs_same I n ds es xs k ex ex' r r' (by simpa[eqF,hl] using h)
  | tup es=>
   obtain⟨a',ys,z,q',r'⟩:=h2
   cases z
   exact(I.lt_ne q q').elim
  | dic ds=>simp[eqF] at h
  | err _ _=>exact h2.elim
  | non=>cases(show V.ref a=.non from h2)
  | bl b'=>cases(show V.ref a=.bl b' from h2)
  | int b'=>cases(show V.ref a=.int b' from h2)
  | str b'=>cases(show V.ref a=.str b' from h2)
 | n+1,.dic ds,e,u,k,ex,ex',h1,h2,h=>by
  obtain⟨a,x,b,y,e1,e2,ek⟩:=aAy h
  subst e1 e2 ek
  obtain⟨p,e1,g1⟩:=kB h1
  obtain⟨p',e2,g2⟩:=kB h2
  cases e1.symm.trans e2
  have g:=g1.symm.trans g2
  simp at g
  simp[g]
 | n+1,.err _ _,e,u,k,ex,ex',h1,h2,h=>h1.elim
theorem eqs_same(I:L2.Inv X pins σV H s):∀(n:Nat) (ds es:List D) (us:List V) (k:Bool) (ex ex':Addr->Prop),Reps X.K H ex ds us->Reps X.K H ex' es us->cP n ds es=some k->k=true
 | n,[],[],us,k,_,_,h1,h2,h=>by simpa[cP] using h.symm
 | n,[],e::es,us,k,_,_,h1,h2,h=>by
  obtain⟨x,r,z,_⟩:=h2
  rw[show us=[] from h1] at z;cases z
 | n,d::ds,[],us,k,_,_,h1,h2,h=>by
  obtain⟨x,r,z,_⟩:=h1
  rw[show us=[] from h2] at z;cases z
 | n,d::ds,e::es,us,k,ex,ex',h1,h2,h=>by
  obtain⟨x,r,z,a1,b1⟩:=h1
  obtain⟨x',r',z',a2,b2⟩:=h2
  rw[z] at z'
  cases z'
  rw[cP] at h
  cases q1:eqF n d e with
  | none=>rw[q1] at h;simp at h
  | some b=>
   cases q2:cP n ds es with
   | none=>rw[q1,q2] at h;simp at h
   | some b'=>
    rw[q1,q2] at h
    have e1:=kC I n d e x b ex ex' a1 a2 q1
    have e2:=eqs_same I n ds es r b' ex ex' b1 b2 q2
    subst e1 e2
    simpa using h.symm
end
noncomputable def Eq3(A:Around)(s:Shared)(v z:Value)(k:Bool):Prop:=EqAt A s v z k/\RcAt A s v z k/\RcNeAt A s v z (!k)
theorem vO{xs:List V}{us:List Value}(r:aI xs us){j:Nat}(h:j<us.toArray.size):∃x,xs[j]? = some x/\aR x us.toArray[j]:=by
 have hl:=r.length
 have hj:j<xs.length:=by rw[List.size_toArray] at h;omega
 obtain⟨u,e,q⟩:=r.get (List.getElem?_eq_getElem hj)
 refine⟨xs[j],List.getElem?_eq_getElem hj,?_⟩
 have:us.toArray[j]=u:=by
  have e':us[j]? = some us.toArray[j]:=by simp[List.getElem?_eq_getElem (show j<us.length by simpa using h)]
  rw[e'] at e
  exact Option.some.inj e
 rw[this]
 exact q
theorem nQ(A:Around):A.in1.units=A.units+1:=rfl
theorem vP(I:L2.Inv X pins σV H s):∀(n:Nat) (A:Around) (d e:D) (u w:V) (v z:Value) (k:Bool) (ex ex':Addr->Prop),A.units+n<cLine->Rep X.K H ex d u->Rep X.K H ex' e w->aR u v->aR w z->eqF n d e=some k->Eq3 A s v z k:=by
 intro n
 induction n with
 | zero=>intro A d e u w v z k ex ex' _ _ _ _ _ h;simp[eqF] at h
 | succ n ih=>
  intro A d e u w v z k ex ex' hA h1 h2 r1 r2 h
  have hu:A.units<cLine:=by omega
  have items:∀{ds es:List D} {xs ys:List V} {its its2:List Value} {k:Bool},Reps X.K H ex ds xs->Reps X.K H ex' es ys->aI xs its->aI ys its2->cP n ds es=some k ->
   ∀j (_:j<its.toArray.size) (_:j<its2.toArray.size),EqAt A.in1 s its.toArray[j] its2.toArray[j] (fC n ds es j):=by
   intro ds es xs ys its its2 k q1 q2 v1 v2 hk j hj1 hj2
   obtain⟨x,ex1,rx⟩:=vO v1 hj1
   obtain⟨y,ey1,ry⟩:=vO v2 hj2
   obtain⟨d',ed,rd⟩:=q1.get' ex1
   obtain⟨e',ee,re⟩:=q2.get' ey1
   obtain⟨b,hb⟩:=vN hk ed ee
   have hj:fC n ds es j=b:=by simp[fC,ed,ee,hb]
   rw[hj]
   exact(ih A.in1 d' e' x y _ _ b ex ex' (by rw[nQ];omega) rd re rx ry hb).1
  cases d with
  | err _ _=>exact h1.elim
  | dic ds=>
   obtain⟨a,x,b,y,e1,e2,ek⟩:=aAy h
   subst e1 e2 ek
   obtain⟨p,e1,g1⟩:=kB h1
   obtain⟨p',e2,g2⟩:=kB h2
   subst e1 e2
   cases r1
   cases r2
   have both:=aEN hu (aDE I.hok g1) (aDE I.hok g2)
   refine⟨?_,both.1,both.2⟩
   by_cases hab:p=p'
   . subst hab
     have e:=kC I (n+1) _ _ (.ref p) _ ex ex' h1 h2 h
     rw[e]
     exact EqAt.same _
   . exact EqAt.of_refs hab both.1
  | non=>
   rw[show u=.non from h1] at r1
   cases r1
   cases e with
   | err _ _=>exact h2.elim
   | dic _=>simp[eqF] at h
   | non=>rw[show w=.non from h2] at r2;cases r2;simp[eqF] at h;subst h;exact⟨EqAt.same _,RcAt.none_none,RcNeAt.none_none⟩
   | bl b=>rw[show w=.bl b from h2] at r2;cases r2;simp[eqF] at h;subst h;exact⟨EqAt.none_bool _,RcAt.none_bool _,RcNeAt.none_bool _⟩
   | int b=>rw[show w=.int b from h2] at r2;obtain⟨t,rfl⟩:=r2;simp[eqF] at h;subst h;exact⟨EqAt.none_int _ _,RcAt.none_int _ _,RcNeAt.none_int _ _⟩
   | str b=>rw[show w=.str b from h2] at r2;obtain⟨t,rfl⟩:=r2;simp[eqF] at h;subst h;exact⟨EqAt.none_str _ _,RcAt.none_str _ _,RcNeAt.none_str _ _⟩
   | tup es=>
    obtain⟨b,ys,rfl,q,r⟩:=h2
    cases r2
    obtain⟨its,_,p,_⟩:=I.tuple q
    simp[eqF] at h;subst h
    exact⟨EqAt.none_tuple (show s.heap.IsTuple b its.toArray from p) hu,RcAt.none_tuple (show s.heap.IsTuple b its.toArray from p) hu,RcNeAt.none_tuple (show s.heap.IsTuple b its.toArray from p) hu⟩
   | lst es=>
    obtain⟨b,ys,rfl,q,_,r⟩:=h2
    cases r2
    obtain⟨its,_,p,_⟩:=I.list q
    simp[eqF] at h;subst h
    exact⟨EqAt.none_list p.isList hu,RcAt.none_list p.isList hu,RcNeAt.none_list p.isList hu⟩
  | bl a=>
   rw[show u=.bl a from h1] at r1
   cases r1
   cases e with
   | err _ _=>exact h2.elim
   | dic _=>simp[eqF] at h
   | non=>rw[show w=.non from h2] at r2;cases r2;simp[eqF] at h;subst h;exact⟨EqAt.bool_none _,RcAt.bool_none _,RcNeAt.bool_none _⟩
   | bl b=>rw[show w=.bl b from h2] at r2;cases r2;simp only[eqF,Option.some.injEq] at h;subst h;exact⟨EqAt.bool_bool _ _,RcAt.bool_bool _ _,RcNeAt.bool_bool _ _⟩
   | int b=>rw[show w=.int b from h2] at r2;obtain⟨t,rfl⟩:=r2;simp only[eqF,Option.some.injEq] at h;subst h;exact⟨EqAt.bool_int _ _ _,RcAt.bool_int _ _ _,RcNeAt.bool_int _ _ _⟩
   | str b=>rw[show w=.str b from h2] at r2;obtain⟨t,rfl⟩:=r2;simp[eqF] at h;subst h;exact⟨EqAt.bool_str _ _ _,RcAt.bool_str _ _ _,RcNeAt.bool_str _ _ _⟩
   | tup es=>
    obtain⟨b,ys,rfl,q,r⟩:=h2
    cases r2
    obtain⟨its,_,p,_⟩:=I.tuple q
    simp[eqF] at h;subst h
    exact⟨EqAt.bool_tuple _ (show s.heap.IsTuple b its.toArray from p) hu,RcAt.bool_tuple _ (show s.heap.IsTuple b its.toArray from p) hu,RcNeAt.bool_tuple _ (show s.heap.IsTuple b its.toArray from p) hu⟩
   | lst es=>
    obtain⟨b,ys,rfl,q,_,r⟩:=h2
    cases r2
    obtain⟨its,_,p,_⟩:=I.list q
    simp[eqF] at h;subst h
    exact⟨EqAt.bool_list _ p.isList hu,RcAt.bool_list _ p.isList hu,RcNeAt.bool_list _ p.isList hu⟩
  | int a=>
   rw[show u=.int a from h1] at r1
   obtain⟨t1,rfl⟩:=r1
   cases e with
   | err _ _=>exact h2.elim
   | dic _=>simp[eqF] at h
   | non=>rw[show w=.non from h2] at r2;cases r2;simp[eqF] at h;subst h;exact⟨EqAt.int_none _ _,RcAt.int_none _ _,RcNeAt.int_none _ _⟩
   | bl b=>rw[show w=.bl b from h2] at r2;cases r2;simp only[eqF,Option.some.injEq] at h;subst h;exact⟨EqAt.int_bool _ _ _,RcAt.int_bool _ _ _,RcNeAt.int_bool _ _ _⟩
   | int b=>rw[show w=.int b from h2] at r2;obtain⟨t,rfl⟩:=r2;simp only[eqF,Option.some.injEq] at h;subst h;exact⟨EqAt.int_int _ _ _ _,RcAt.int_int _ _ _ _,RcNeAt.int_int _ _ _ _⟩
   | str b=>rw[show w=.str b from h2] at r2;obtain⟨t,rfl⟩:=r2;simp[eqF] at h;subst h;exact⟨EqAt.int_str _ _ _ _,RcAt.int_str _ _ _ _,RcNeAt.int_str _ _ _ _⟩
   | tup es=>
    obtain⟨b,ys,rfl,q,r⟩:=h2
    cases r2
    obtain⟨its,_,p,_⟩:=I.tuple q
    simp[eqF] at h;subst h
    exact⟨EqAt.int_tuple _ _ (show s.heap.IsTuple b its.toArray from p) hu,RcAt.int_tuple _ _ (show s.heap.IsTuple b its.toArray from p) hu,RcNeAt.int_tuple _ _ (show s.heap.IsTuple b its.toArray from p) hu⟩
   | lst es=>
    obtain⟨b,ys,rfl,q,_,r⟩:=h2
    cases r2
    obtain⟨its,_,p,_⟩:=I.list q
    simp[eqF] at h;subst h
    exact⟨EqAt.int_list _ _ p.isList hu,RcAt.int_list _ _ p.isList hu,RcNeAt.int_list _ _ p.isList hu⟩
  | str a=>
   rw[show u=.str a from h1] at r1
   obtain⟨t1,rfl⟩:=r1
   cases e with
   | err _ _=>exact h2.elim
   | dic _=>simp[eqF] at h
   | non=>rw[show w=.non from h2] at r2;cases r2;simp[eqF] at h;subst h;exact⟨EqAt.str_none _ _,RcAt.str_none _ _,RcNeAt.str_none _ _⟩
   | bl b=>rw[show w=.bl b from h2] at r2;cases r2;simp[eqF] at h;subst h;exact⟨EqAt.str_bool _ _ _,RcAt.str_bool _ _ _,RcNeAt.str_bool _ _ _⟩
   | int b=>rw[show w=.int b from h2] at r2;obtain⟨t,rfl⟩:=r2;simp[eqF] at h;subst h;exact⟨EqAt.str_int _ _ _ _,RcAt.str_int _ _ _ _,RcNeAt.str_int _ _ _ _⟩
   | str b=>rw[show w=.str b from h2] at r2;obtain⟨t,rfl⟩:=r2;simp only[eqF,Option.some.injEq] at h;subst h;exact⟨EqAt.str_str _ _ _ _,RcAt.str_str _ _ _ _,RcNeAt.str_str _ _ _ _⟩
   | tup es=>
    obtain⟨b,ys,rfl,q,r⟩:=h2
    cases r2
    obtain⟨its,_,p,_⟩:=I.tuple q
    simp[eqF] at h;subst h
    exact⟨EqAt.str_tuple _ _ (show s.heap.IsTuple b its.toArray from p) hu,RcAt.str_tuple _ _ (show s.heap.IsTuple b its.toArray from p) hu,RcNeAt.str_tuple _ _ (show s.heap.IsTuple b its.toArray from p) hu⟩
   | lst es=>
    obtain⟨b,ys,rfl,q,_,r⟩:=h2
    cases r2
    obtain⟨its,_,p,_⟩:=I.list q
    simp[eqF] at h;subst h
    exact⟨EqAt.str_list _ _ p.isList hu,RcAt.str_list _ _ p.isList hu,RcNeAt.str_list _ _ p.isList hu⟩
  | tup ds=>
   have h1':=h1
   obtain⟨a,xs,rfl,q1,rp1⟩:=h1
   cases r1
   obtain⟨its1,v1,p1,_⟩:=I.tuple q1
   have p1':s.heap.IsTuple a its1.toArray:=p1
   cases e with
   | err _ _=>exact h2.elim
   | dic _=>simp[eqF] at h
   | non=>rw[show w=.non from h2] at r2;cases r2;simp[eqF] at h;subst h;exact⟨EqAt.tuple_none p1' hu,RcAt.tuple_none p1' hu,RcNeAt.tuple_none p1' hu⟩
   | bl b=>rw[show w=.bl b from h2] at r2;cases r2;simp[eqF] at h;subst h;exact⟨EqAt.tuple_bool _ p1' hu,RcAt.tuple_bool _ p1' hu,RcNeAt.tuple_bool _ p1' hu⟩
   | int b=>rw[show w=.int b from h2] at r2;obtain⟨t,rfl⟩:=r2;simp[eqF] at h;subst h;exact⟨EqAt.tuple_int _ _ p1' hu,RcAt.tuple_int _ _ p1' hu,RcNeAt.tuple_int _ _ p1' hu⟩
   | str b=>rw[show w=.str b from h2] at r2;obtain⟨t,rfl⟩:=r2;simp[eqF] at h;subst h;exact⟨EqAt.tuple_str _ _ p1' hu,RcAt.tuple_str _ _ p1' hu,RcNeAt.tuple_str _ _ p1' hu⟩
   | tup es=>
    have h2':=h2
    obtain⟨b,ys,rfl,q2,rp2⟩:=h2
    cases r2
    obtain⟨its2,v2,p2,_⟩:=I.tuple q2
    have hk:cP n ds es=some k:=by simpa[eqF] using h
    have hv:=lB hk
    have l1:its1.toArray.size=ds.length:=by rw[List.size_toArray,<-v1.length,rp1.length]
    have l2:its2.toArray.size=es.length:=by rw[List.size_toArray,<-v2.length,rp2.length]
    have rc:RcAt A s (.ref a) (.ref b) k:=by
     rw[hv,<-l1,<-l2]
     exact RcAt.tuples p1' (show s.heap.IsTuple b its2.toArray from p2) hu (items rp1 rp2 v1 v2 hk)
    have rn:RcNeAt A s (.ref a) (.ref b) (!k):=by
     rw[hv,<-l1,<-l2]
     exact RcNeAt.tuples p1' (show s.heap.IsTuple b its2.toArray from p2) hu (items rp1 rp2 v1 v2 hk)
    refine⟨?_,rc,rn⟩
    by_cases hab:a=b
    . subst hab
      have:=kC I (n+1) (.tup ds) (.tup es) (.ref a) k ex ex' h1' h2' h
      subst this
      exact EqAt.same _
    . exact EqAt.of_refs hab rc
   | lst es=>
    obtain⟨b,ys,rfl,q2,_,rp2⟩:=h2
    cases r2
    obtain⟨its2,v2,p2,_⟩:=I.list q2
    simp[eqF] at h;subst h
    exact⟨EqAt.tuple_list p1' p2.isList hu,RcAt.tuple_list p1' p2.isList hu,RcNeAt.tuple_list p1' p2.isList hu⟩
  | lst ds=>
   have h1':=h1
   obtain⟨a,xs,rfl,q1,_,rp1⟩:=h1
   cases r1
   obtain⟨its1,v1,p1,_⟩:=I.list q1
   have p1':=p1.isList
   cases e with
   | err _ _=>exact h2.elim
   | dic _=>simp[eqF] at h
   | non=>rw[show w=.non from h2] at r2;cases r2;simp[eqF] at h;subst h;exact⟨EqAt.list_none p1' hu,RcAt.list_none p1' hu,RcNeAt.list_none p1' hu⟩
   | bl b=>rw[show w=.bl b from h2] at r2;cases r2;simp[eqF] at h;subst h;exact⟨EqAt.list_bool _ p1' hu,RcAt.list_bool _ p1' hu,RcNeAt.list_bool _ p1' hu⟩
   | int b=>rw[show w=.int b from h2] at r2;obtain⟨t,rfl⟩:=r2;simp[eqF] at h;subst h;exact⟨EqAt.list_int _ _ p1' hu,RcAt.list_int _ _ p1' hu,RcNeAt.list_int _ _ p1' hu⟩
   | str b=>rw[show w=.str b from h2] at r2;obtain⟨t,rfl⟩:=r2;simp[eqF] at h;subst h;exact⟨EqAt.list_str _ _ p1' hu,RcAt.list_str _ _ p1' hu,RcNeAt.list_str _ _ p1' hu⟩
   | lst es=>
    have h2':=h2
    obtain⟨b,ys,rfl,q2,_,rp2⟩:=h2
    cases r2
    obtain⟨its2,v2,p2,_⟩:=I.list q2
    have l1:its1.toArray.size=ds.length:=by rw[List.size_toArray,<-v1.length,rp1.length]
    have l2:its2.toArray.size=es.length:=by rw[List.size_toArray,<-v2.length,rp2.length]
    have both:RcAt A s (.ref a) (.ref b) k/\RcNeAt A s (.ref a) (.ref b) (!k):=by
     by_cases hl:ds.length=es.length
     . have hk:cP n ds es=some k:=by simpa[eqF,hl] using h
       have hv:=lB hk
       rw[<-hl,Nat.min_self,beq_self_eq_true,Bool.and_true,<-l1] at hv
       rw[hv]
       exact⟨RcAt.lists p1' p2.isList (by rw[l1,l2,hl]) hu (items rp1 rp2 v1 v2 hk),RcNeAt.lists p1' p2.isList (by rw[l1,l2,hl]) hu (items rp1 rp2 v1 v2 hk)⟩
     . have hk:k=false:=by simpa[eqF,hl] using h.symm
       subst hk
       have hz:(its1.toArray.size != its2.toArray.size)=true:=by rw[l1,l2];simpa using hl
       exact⟨RcAt.lists_lengths p1' p2.isList hz hu,RcNeAt.lists_lengths p1' p2.isList hz hu⟩
    refine⟨?_,both.1,both.2⟩
    by_cases hab:a=b
    . subst hab
      have:=kC I (n+1) (.lst ds) (.lst es) (.ref a) k ex ex' h1' h2' h
      subst this
      exact EqAt.same _
    . exact EqAt.of_refs hab both.1
   | tup es=>
    obtain⟨b,ys,rfl,q2,rp2⟩:=h2
    cases r2
    obtain⟨its2,v2,p2,_⟩:=I.tuple q2
    have p2':s.heap.IsTuple b its2.toArray:=p2
    simp[eqF] at h;subst h
    exact⟨EqAt.list_tuple p1' p2' hu,RcAt.list_tuple p1' p2' hu,RcNeAt.list_tuple p1' p2' hu⟩
end
end Hp
end
noncomputable section
namespace HT
open PySem PyProof.Rows
section
open PySem.SeqAt
open PySem.AutoSeq1 (wpAny_loadPart')
open PySem.MeetsSeq PySem.MeetsSeq2 PySem.MeetsSeq3
theorem aAz(A:Around)(s:Shared)(a:Int)(t:Tok)(c:Int)(u:Tok)(prog:Program)(w:World)(E:Value->Shared->Prop)(Q:Value->Shared->Prop)(h:Q (.bool (decide (c<=a))) s) :
 wpAny (model prog w) A (richCompare .GtE (.int a t) (.int c u)) Q E s:=
 (PyProof.Rows.ge_int h:wpAny (model prog w) A (compareOp .GtE (.int a t) (.int c u)) Q E s)
theorem nH(l b:Addr)(items items2:Array Value)(n n2:Nat)(dd dd2:Option Addr)(sl sl2:Array (Option Value))(ns ms:List Int)(hi:IntsAre items.toList ns)(hj:IntsAre items2.toList ms) :
 Meets (Builtin.«tuple.__ge__» ⟨[.ref l,.ref b],[]⟩)
  (λ_ R s=>s.heap.get? l=some { cls:=.type "tuple",dict:=dd,data:=.seq items n,slots:=sl }/\s.heap.get? b=some { cls:=.type "tuple",dict:=dd2,data:=.seq items2 n2,slots:=sl2 } /\
   R (.ok (.ret (.bool (!lexLt ns ms)))) s):=
 .of_wp λprog w A R s h=>by
  obtain⟨hp,g,d,tk,os⟩:=s;obtain⟨hl,hb,h⟩:=h
  have f2:=AutoSeq1.sub_tuple_tuple
  have z1:items.size=ns.length:=by rw[<-hi.length];simp
  have z2:items2.size=ms.length:=by rw[<-hj.length];simp
  wp_walk using wpAny_loadPart' hl,wpAny_loadPart' hb,wpAny_forIn_list _ (λrest b s'=>b.1=none/\s'=⟨hp,g,d,tk,os⟩/\∃(vs ws:List Value) (ns' ms':List Int),rest=vs.zip ws /\
   IntsAre vs ns'/\IntsAre ws ms'/\ns'.length+items2.size=ms'.length+items.size/\R (.ok (.ret (.bool (!lexLt ns' ms')))) ⟨hp,g,d,tk,os⟩) _
  case turn=>
   rintro ⟨y,x⟩ rest b s' ⟨hb',rfl,vs,ws,ns',ms',hz,hvi,hwi,hlen,hR⟩
   cases hvi with
   | nil=>rw[List.zip_nil_left] at hz;cases hz
   | cons a t hvi'=>
    cases hwi with
    | nil=>rw[List.zip_nil_right] at hz;cases hz
    | cons c u hwi'=>
     rw[List.zip_cons_cons] at hz
     injection hz with hyx hrest
     injection hyx with hy hx
     subst hy hx
     rw[lexLt_cons] at hR
     simp only[lC] at hlen
     obtain⟨e,he,hiff⟩:=rE A.in1 ⟨hp,g,d,tk,os⟩ a t c u
     refine wpAny_bind (he prog w _ _ ?_)
     cases e with
     | true=>
      rw[if_pos (hiff.mp rfl)] at hR
      wp_walk
      exact⟨rfl,rfl,_,_,_,_,hrest,hvi',hwi',by omega,hR⟩
     | false=>
      have hne:¬ a=c:=λq=>absurd (hiff.mpr q) bN
      rw[if_neg hne] at hR
      have hge:(!decide (a<c))=decide (c<=a):=by
       by_cases q:a<c
       . rw[decide_eq_true q,decide_eq_false (by omega)];rfl
       . rw[decide_eq_false q,decide_eq_true (by omega)];rfl
      rw[hge] at hR
      have hri:=aAz A.in1 ⟨hp,g,d,tk,os⟩ a t c u prog w
      wp_walk using hri
      exact⟨_,rfl,by simpa using hR⟩
  case fin=>
   rintro ⟨b1,b2⟩ s' ⟨hb',rfl,vs,ws,ns',ms',hz,hvi,hwi,hlen,hR⟩
   simp only at hb'
   subst hb'
   have hv:lexLt ns' ms'=decide (items.size<items2.size):=by
    cases hvi with
    | nil=>
     cases hwi with
     | nil=>
      simp only[lN] at hlen
      rw[gI]
      exact(decide_eq_false (by omega)).symm
     | cons c u hw=>
      simp only[lN,lC] at hlen
      rw[eX]
      exact(decide_eq_true (by omega)).symm
    | cons a t hv=>
     cases hwi with
     | nil=>
      simp only[lN,lC] at hlen
      rw[eY]
      exact(decide_eq_false (by omega)).symm
     | cons c u hw=>
      rw[List.zip_cons_cons] at hz
      cases hz
   rw[hv] at hR
   wp_walk
   refine⟨_,rfl,?_⟩
   have e:(!decide (items.size<items2.size))=decide (items.size ≥ items2.size):=by
    by_cases q:items.size<items2.size
    . rw[decide_eq_true q,decide_eq_false (by omega)];rfl
    . rw[decide_eq_false q,decide_eq_true (by omega)];rfl
   rw[e] at hR
   simpa[Builtin.Tuple.tupleCompareSizes] using hR
  case h=>
   exact⟨rfl,rfl,items.toList,items2.toList,ns,ms,rfl,hi,hj,by omega,h⟩
end
theorem jW:entryFor table "tuple.__ge__" = some Builtin.«tuple.__ge__»:=entryFor_of_tree (by kernel_rfl)
section
variable {prog:Program} {w:World} {A:Around} {E:Value->Shared->Prop} {s:Shared}
theorem ge_tupInts{l b:Addr}{items items2:Array Value}{ns ms:List Int}{Q:Value->Shared->Prop}(hl:IsTup s.heap l items)(hb:IsTup s.heap b items2)(hi:IntsAre items.toList ns)(hj:IntsAre items2.toList ms)
 (hu:A.units<cLine) (h:Q (.bool (!lexLt ns ms)) s):wpAny (model prog w) A (compareOp .GtE (.ref l) (.ref b)) Q E s:=by
 obtain⟨⟨cls,dd,data,sl⟩,ho,hc,n,hd⟩:=id hl
 obtain⟨⟨cls2,dd2,data2,sl2⟩,ho2,hc2,n2,hd2⟩:=id hb
 simp only at hc hd hc2 hd2
 subst hc hd hc2 hd2
 exact richCompare_meets_room (op:=.GtE) ⟨_,ho,rfl⟩ ⟨_,ho2,rfl⟩ PySem.F.slot_tuple_ge jW (PySem.F.args_tuple_ge_2 _ _) (nH l b items items2 n n2 dd dd2 sl sl2 ns ms hi hj)
  ⟨ho,ho2,show Value.bool (!lexLt ns ms)≠Value.notImplemented/\Q (.bool (!lexLt ns ms)) s from⟨(λx=>nomatch x),h⟩⟩ hu
end
end HT
end
noncomputable section
namespace Hp
open PySem PySem.Spec PyProof.Rows L2 PySem.SeqAt
section
variable {X:Cx} {σV:L2.St} {H:Hp} {s:Shared} {pins:List (Addr×Obj)}
mutual
theorem vQ(I:L2.Inv X pins σV H s):∀(d e:D) (u:V) (ex ex':Addr->Prop),Rep X.K H ex d u->Rep X.K H ex' e u->(∀kvs,d≠.dic kvs)->eT d=true->eT e=true->d=e
 | .non,e,u,_,_,h1,h2,_,_,_=>by
  rw[show u=.non from h1] at h2
  cases e with
  | non=>rfl
  | _=>first|(obtain⟨a,xs,z,_⟩:=h2;cases z)|exact h2.elim|(injection h2)
 | .bl b,e,u,_,_,h1,h2,_,_,_=>by
  rw[show u=.bl b from h1] at h2
  cases e with
  | bl b'=>cases(show V.bl b=.bl b' from h2);rfl
  | _=>first|(obtain⟨a,xs,z,_⟩:=h2;cases z)|exact h2.elim|(injection h2)
 | .int b,e,u,_,_,h1,h2,_,_,_=>by
  rw[show u=.int b from h1] at h2
  cases e with
  | int b'=>cases(show V.int b=.int b' from h2);rfl
  | _=>first|(obtain⟨a,xs,z,_⟩:=h2;cases z)|exact h2.elim|(injection h2)
 | .str b,e,u,_,_,h1,h2,_,_,_=>by
  rw[show u=.str b from h1] at h2
  cases e with
  | str b'=>cases(show V.str b=.str b' from h2);rfl
  | _=>first|(obtain⟨a,xs,z,_⟩:=h2;cases z)|exact h2.elim|(injection h2)
 | .tup ds,e,u,ex,ex',h1,h2,_,n1,n2=>by
  obtain⟨a,xs,z,q,r⟩:=h1
  subst z
  cases e with
  | tup es=>
   obtain⟨a',ys,z,q',r'⟩:=h2
   cases z
   have:xs=ys:=I.tuple_inj q q'
   subst this
   rw[reps_inj I ds es xs ex ex' r r' (by simpa[eT] using n1) (by simpa[eT] using n2)]
  | lst es=>
   obtain⟨a',ys,z,q',_,r'⟩:=h2
   cases z
   exact(I.lt_ne q' q).elim
  | dic _=>simp[eT] at n2
  | err _ _=>exact h2.elim
  | _=>injection h2
 | .lst ds,e,u,ex,ex',h1,h2,_,n1,n2=>by
  obtain⟨a,xs,z,q,_,r⟩:=h1
  subst z
  cases e with
  | lst es=>
   obtain⟨a',ys,z,q',_,r'⟩:=h2
   cases z
   have:xs=ys:=I.list_inj q q'
   subst this
   rw[reps_inj I ds es xs ex ex' r r' (by simpa[eT] using n1) (by simpa[eT] using n2)]
  | tup es=>
   obtain⟨a',ys,z,q',r'⟩:=h2
   cases z
   exact(I.lt_ne q q').elim
  | dic _=>simp[eT] at n2
  | err _ _=>exact h2.elim
  | _=>injection h2
 | .dic kvs,e,u,_,_,_,_,hn,_,_=>absurd rfl (hn kvs)
 | .err _ _,e,u,_,_,h1,_,_,_,_=>h1.elim
theorem reps_inj(I:L2.Inv X pins σV H s):∀(ds es:List D) (us:List V) (ex ex':Addr->Prop),Reps X.K H ex ds us->Reps X.K H ex' es us->noDics ds=true->noDics es=true->ds=es
 | [],[],_,_,_,_,_,_,_=>rfl
 | [],e::es,us,_,_,h1,h2,_,_=>by
  obtain⟨x,r,z,_⟩:=h2
  rw[show us=[] from h1] at z;cases z
 | d::ds,[],us,_,_,h1,h2,_,_=>by
  obtain⟨x,r,z,_⟩:=h1
  rw[show us=[] from h2] at z;cases z
 | d::ds,e::es,us,ex,ex',h1,h2,n1,n2=>by
  obtain⟨x,r,z,a1,b1⟩:=h1
  obtain⟨x',r',z',a2,b2⟩:=h2
  rw[z] at z'
  cases z'
  simp only[noDics,bA] at n1 n2
  rw[vQ I d e x ex ex' a1 a2 (λkvs z=>by subst z;simp[eT] at n1) n1.1 n2.1,reps_inj I ds es r ex ex' b1 b2 n1.2 n2.2]
end
theorem cQ:∀{ds:List D} {ns:List Int} {xs:List V} {ex:Addr->Prop},bB ds=some ns->Reps X.K H ex ds xs->xs=ns.map V.int
 | [],ns,xs,ex,h,r=>by
  simp[bB] at h
  subst h
  exact r
 | .int a::ds,ns,xs,ex,h,r=>by
  obtain⟨x,r',z,h1,h2⟩:=r
  rw[bB] at h
  cases q:bB ds with
  | none=>rw[q] at h;cases h
  | some ms=>
   rw[q] at h
   cases h
   rw[z,show x=.int a from h1,cQ q h2]
   rfl
 | .non::ds,ns,xs,ex,h,r=>by simp[bB] at h
 | .bl _::ds,ns,xs,ex,h,r=>by simp[bB] at h
 | .str _::ds,ns,xs,ex,h,r=>by simp[bB] at h
 | .tup _::ds,ns,xs,ex,h,r=>by simp[bB] at h
 | .lst _::ds,ns,xs,ex,h,r=>by simp[bB] at h
 | .dic _::ds,ns,xs,ex,h,r=>by simp[bB] at h
 | .err _ _::ds,ns,xs,ex,h,r=>by simp[bB] at h
theorem vR:∀(ns ms:List Int),aCx ns ms=HT.lexLt ns ms
 | [],[]=>rfl
 | [],_::_=>rfl
 | _::_,[]=>rfl
 | x::xs,y::ys=>by rw[aCx,HT.lexLt_cons,vR xs ys]
theorem nR{as bs:List D}{k:Bool}(h:aCy as bs=some k):∃ns ms,bB as=some ns/\bB bs=some ms/\k=HT.lexLt ns ms:=by
 unfold aCy at h
 cases q1:bB as with
 | none=>rw[q1] at h;cases h
 | some ns=>
  cases q2:bB bs with
  | none=>rw[q1,q2] at h;cases h
  | some ms=>
   rw[q1,q2] at h
   exact⟨ns,ms,rfl,rfl,(Option.some.inj h).symm.trans (vR ns ms)⟩
theorem vS:∀{x:D} {ys:List D} {k:Bool},rS x ys=some k->(∀y∈ys,∃b,eqD y x=some b)/\(k=true↔∃y∈ys,eqD y x=some true)
 | x,[],k,h=>by
  simp[rS] at h
  subst h
  simp
 | x,y::ys,k,h=>by
  rw[rS] at h
  cases q1:eqD y x with
  | none=>rw[q1] at h;simp at h
  | some a=>
   cases q2:rS x ys with
   | none=>rw[q1,q2] at h;simp at h
   | some b=>
    rw[q1,q2] at h
    have hk:(a||b)=k:=Option.some.inj h
    obtain⟨i1,i2⟩:=vS q2
    refine⟨λz hz=>?_,?_⟩
    . rcases List.mem_cons.mp hz with e|e
      . subst e;exact⟨a,q1⟩
      . exact i1 z e
    . rw[<-hk,Bool.or_eq_true,i2]
      constructor
      . rintro (e|⟨z,hz,e⟩)
        . exact⟨y,List.mem_cons_self,by rw[q1,e]⟩
        . exact⟨z,List.mem_cons_of_mem _ hz,e⟩
      . rintro ⟨z,hz,e⟩
        rcases List.mem_cons.mp hz with e'|e'
        . subst e';rw[q1] at e;exact .inl (Option.some.inj e)
        . exact .inr ⟨z,e',e⟩
theorem gM:∀{ds:List D} {d:D},noDics ds=true->d∈ds->eT d=true
 | d'::ds,d,h,hm=>by
  simp only[noDics,bA] at h
  rcases List.mem_cons.mp hm with e|e
  . subst e;exact h.1
  . exact gM h.2 e
open Classical in
theorem fS(I:L2.Inv X pins σV H s){A:Around}(hA:A.units+hG+1<cLine){x:D}{ux:V}{vx:Value}{ex ex':Addr->Prop}{ys:List D}{xs:List V}{its:List Value}{k:Bool}
 (hx:Rep X.K H ex x ux) (rx:aR ux vx) (r:Reps X.K H ex' ys xs) (v:aI xs its) (hn:noDics ys=true) (h:rS x ys=some k) :
 ∃e:Value->Bool,(∀y,y∈its.toArray->EqAt A.in1 s y vx (e y))/\its.toArray.any e=k:=by
 obtain⟨h1,h2⟩:=vS h
 have at':∀y∈its,∃u d,aR u y/\Rep X.K H ex' d u/\d∈ys:=λy hy=>by
  obtain⟨j,hj⟩:=List.getElem?_of_mem hy
  have hl:=v.length
  have hjl:j<xs.length:=by have:=(List.getElem?_eq_some_iff.mp hj).1;omega
  obtain⟨u',e',q⟩:=v.get (List.getElem?_eq_getElem hjl)
  rw[hj] at e'
  cases e'
  obtain⟨d,hd,rd⟩:=r.get' (List.getElem?_eq_getElem hjl)
  exact⟨_,d,q,rd,mG hd⟩
 refine⟨λy=>decide (∃u d,aR u y/\Rep X.K H ex' d u/\d∈ys/\eqD d x=some true),λy hy=>?_,?_⟩
 . obtain⟨u,d,q,rd,hd⟩:=at' y (by simpa using hy)
   obtain⟨b,hb⟩:=h1 d hd
   have key:(decide (∃u d,aR u y/\Rep X.K H ex' d u/\d∈ys/\eqD d x=some true))=b:=by
    cases b with
    | true=>exact decide_eq_true ⟨u,d,q,rd,hd,hb⟩
    | false=>
     refine decide_eq_false ?_
     rintro ⟨u',d',q',rd',hd',hb'⟩
     have e1:u'=u:=q'.inj q
     subst e1
     have n1:=gM hn hd
     have n2:=gM hn hd'
     have e2:d=d':=vQ I d d' u' ex' ex' rd rd' (λkvs z=>by subst z;simp[eT] at n1) n1 n2
     subst e2
     rw[hb] at hb'
     cases hb'
   show EqAt A.in1 s y vx (decide (∃u d,aR u y/\Rep X.K H ex' d u/\d∈ys/\eqD d x=some true))
   rw[key]
   exact(vP I hG A.in1 d x u ux y vx b ex' ex (by rw[nQ];omega) rd hx q rx hb).1
 . rw[Bool.eq_iff_iff,h2]
   constructor
   . intro q
     have q':its.any (λy=>decide (∃u d,aR u y/\Rep X.K H ex' d u/\d∈ys/\eqD d x=some true))=true:=by simpa using q
     obtain⟨y,hy,q''⟩:=List.any_eq_true.mp q'
     obtain⟨u,d,_,_,hd,e⟩:=of_decide_eq_true q''
     exact⟨d,hd,e⟩
   . rintro ⟨d,hd,e⟩
     have:its.any (λy=>decide (∃u d,aR u y/\Rep X.K H ex' d u/\d∈ys/\eqD d x=some true))=true:=by
      obtain⟨j,hj⟩:=List.getElem?_of_mem hd
      obtain⟨u,hu,ru⟩:=r.get hj
      obtain⟨y,hy,q⟩:=v.get hu
      exact List.any_eq_true.mpr ⟨y,mG hy,decide_eq_true ⟨u,d,q,ru,hd,e⟩⟩
     simpa using this
end
section
variable {X:Cx} {RT Y old:Addr->Prop} {σ:Sg} {σV:L2.St} {H:Hp} {s:Shared} {pins:List (Addr×Obj)} {Q:VK} {ux uy:V} {vx vy:Value} {x y:Vl}
theorem yH{o:CmpOp}{k:Bool}{σV2:L2.St}(I:L2.Inv X pins σV H s)(hA:X.A.units+200<cLine)(rx:aR ux vx)(ry:aR uy vy)(hx:Rv X.K RT Y old σ σV2 H x ux)(hy:Rv X.K RT Y old σ σV2 H y uy)
 (h:bZ o x.d y.d=some k) (q:Q (.bl k) H):wpAny (model X.prog X.w) X.A (compareOp o vx vy) (EP X pins σV Q) X.xe s:=by
 have hu:X.A.units<cLine:=by omega
 have fin:EP X pins σV Q (.bool k) s:=⟨.bl k,H,I,rfl,q⟩
 have hD:hG=120:=rfl
 have go:∀{f:Value->Value->Sem Value} {r:R2},OpR X f r->r ux uy H Q->wpAny (model X.prog X.w) X.A (f vx vy) (EP X pins σV Q) X.xe s:=λhr q=>hr pins s σV H ux uy vx vy Q I rx ry q
 have e3:∀{b:Bool},eqD x.d y.d=some b->Eq3 X.A s vx vy b:=λ{b} hb=>vP I hG X.A x.d y.d ux uy vx vy b _ _ (by omega) hx hy rx ry hb
 cases o with
 | Eq=>exact(e3 h).2.1 X.prog X.w X.xe _ fin
 | NotEq=>
  simp only[bZ,Option.map_eq_some_iff] at h
  obtain⟨b,hb,e⟩:=h
  subst e
  exact(e3 hb).2.2 X.prog X.w X.xe _ fin
 | Lt=>
  simp only[bZ] at h
  unfold ltD at h
  split at h
  . rename_i a b d1 d2
    exact go aGC ⟨a,b,hx.int d1,hy.int d2,by show Q (.bl (decide (a<b))) H;rw[Option.some.inj h];exact q⟩
  . rename_i as bs d1 d2
    obtain⟨ns,ms,q1,q2,e⟩:=nR h
    obtain⟨a,xs,e1,p1,r1⟩:=hx.tup d1
    obtain⟨b,ys,e2,p2,r2⟩:=hy.tup d2
    rw[cQ q1 r1] at p1
    rw[cQ q2 r2] at p2
    exact go (aEF hu) ⟨a,b,ns,ms,e1,e2,p1,p2,by rw[<-e];exact q⟩
  . cases h
 | Gt=>
  simp only[bZ] at h
  split at h
  . rename_i a b d1 d2
    exact go aGE ⟨a,b,hx.int d1,hy.int d2,by show Q (.bl (decide (b<a))) H;rw[Option.some.inj h];exact q⟩
  . cases h
 | LtE=>
  simp only[bZ] at h
  unfold leD at h
  split at h
  . rename_i a b d1 d2
    exact go aGD ⟨a,b,hx.int d1,hy.int d2,by show Q (.bl (decide (a<=b))) H;rw[Option.some.inj h];exact q⟩
  . cases h
 | GtE=>
  simp only[bZ] at h
  split at h
  . rename_i a b d1 d2
    exact go aGF ⟨a,b,hx.int d1,hy.int d2,by show Q (.bl (decide (b<=a))) H;rw[Option.some.inj h];exact q⟩
  . rename_i as bs d1 d2
    simp only[Option.map_eq_some_iff] at h
    obtain⟨b',hb,e'⟩:=h
    obtain⟨ns,ms,q1,q2,e⟩:=nR hb
    obtain⟨a,xs,e1,p1,r1⟩:=hx.tup d1
    obtain⟨b,ys,e2,p2,r2⟩:=hy.tup d2
    rw[cQ q1 r1] at p1
    rw[cQ q2 r2] at p2
    subst e1 e2
    cases rx
    cases ry
    obtain⟨its,v1,t1,_⟩:=I.tuple p1
    obtain⟨its2,v2,t2,_⟩:=I.tuple p2
    refine HT.ge_tupInts t1 t2 (eG v1) (eG v2) hu ?_
    rw[<-e,e']
    exact fin
  . cases h
 | Is=>
  simp only[bZ] at h
  split at h
  . rename_i d2
    refine go aEA ⟨hy.non d2,?_⟩
    have:decide (ux=V.non)=k:=by
     rw[<-Option.some.inj h]
     unfold isNone
     split
     . rename_i d1;rw[hx.non d1];simp
     . rename_i d1
       refine decide_eq_false λz=>?_
       rw[z] at hx
       unfold Rv at hx
       cases q':x.d with
       | non=>exact d1 q'
       | _=>rw[q'] at hx;first|(obtain⟨a,xs,z',_⟩:=hx;cases z')|exact hx.elim|injection hx
    rw[this]
    exact q
  . cases h
 | IsNot=>
  simp only[bZ] at h
  split at h
  . rename_i d2
    refine go aCe ⟨hy.non d2,?_⟩
    have:(!decide (ux=V.non))=k:=by
     rw[<-Option.some.inj h]
     unfold isNone
     split
     . rename_i d1;rw[hx.non d1];simp
     . rename_i d1
       rw[decide_eq_false λz=>?_]
       rw[z] at hx
       unfold Rv at hx
       cases q':x.d with
       | non=>exact d1 q'
       | _=>rw[q'] at hx;first|(obtain⟨a,xs,z',_⟩:=hx;cases z')|exact hx.elim|injection hx
    rw[this]
    exact q
  . cases h
 | In=>
  simp only[bZ] at h
  unfold inD at h
  split at h
  . rename_i ys d2
    by_cases hn:noDics ys=true
    . rw[if_pos hn] at h
      obtain⟨b,xs,e2,p2,_,r2⟩:=hy.lst d2
      subst e2
      cases ry
      obtain⟨its,v2,t2,_⟩:=I.list p2
      obtain⟨e,he,hk⟩:=fS I (A:=X.A) (by omega) hx rx r2 v2 hn h
      exact in_listAt e t2.isList he (by rw[hk];exact fin)
    . rw[if_neg hn] at h;cases h
  . rename_i ys d2
    by_cases hn:noDics ys=true
    . rw[if_pos hn] at h
      obtain⟨b,xs,e2,p2,r2⟩:=hy.tup d2
      subst e2
      cases ry
      obtain⟨its,v2,t2,_⟩:=I.tuple p2
      obtain⟨e,he,hk⟩:=fS I (A:=X.A) (by omega) hx rx r2 v2 hn h
      exact in_tupleAt e (show s.heap.IsTuple b its.toArray from t2) he (by rw[hk];exact fin)
    . rw[if_neg hn] at h;cases h
  . rename_i a b d1 d2
    exact go xW ⟨a,b,hx.str d1,hy.str d2,by rw[show(!(Builtin.Str.occurrences b a 0 b.length 1).isEmpty)=k from Option.some.inj h];exact q⟩
  . cases h
 | NotIn=>
  simp only[bZ,Option.map_eq_some_iff] at h
  obtain⟨k',h,ek⟩:=h
  subst ek
  unfold inD at h
  split at h
  . rename_i ys d2
    by_cases hn:noDics ys=true
    . rw[if_pos hn] at h
      obtain⟨b,xs,e2,p2,_,r2⟩:=hy.lst d2
      subst e2
      cases ry
      obtain⟨its,v2,t2,_⟩:=I.list p2
      obtain⟨e,he,hk⟩:=fS I (A:=X.A) (by omega) hx rx r2 v2 hn h
      exact notIn_listAt e t2.isList he (by rw[hk];exact fin)
    . rw[if_neg hn] at h;cases h
  . rename_i ys d2
    by_cases hn:noDics ys=true
    . rw[if_pos hn] at h
      obtain⟨b,xs,e2,p2,r2⟩:=hy.tup d2
      subst e2
      cases ry
      obtain⟨its,v2,t2,_⟩:=I.tuple p2
      obtain⟨e,he,hk⟩:=fS I (A:=X.A) (by omega) hx rx r2 v2 hn h
      exact notIn_tupleAt e (show s.heap.IsTuple b its.toArray from t2) he (by rw[hk];exact fin)
    . rw[if_neg hn] at h;cases h
  . rename_i a b d1 d2
    exact go pG ⟨a,b,hx.str d1,hy.str d2,by rw[show(!(Builtin.Str.occurrences b a 0 b.length 1).isEmpty)=k' from Option.some.inj h];exact q⟩
  . cases h
end
end Hp
end
noncomputable section
namespace Hp
open PySem PySem.Spec PyProof.Rows L2
section
variable {X:Cx} {RT Y old:Addr->Prop} {σ:Sg} {σV:L2.St} {H:Hp} {s:Shared} {pins:List (Addr×Obj)} {Q:VK} {ux uy:V} {vx vy:Value} {x y:Vl}
theorem uI(n:Nat)(k:Int):Hp.ixN n k=L2.ixN n k:=rfl
theorem Rv.ofSub{d:D}{u:V}(h:Rep X.K H (exV RT Y old σ σV x.pa x.al) d u):Ro X.K RT Y old σ σV H H (x.sub d) u:=by
 refine Ro.plain (aH.refl H) ?_ (Rv.sub (ds:=[]) (xs:=[]) (j:=0) h)
 unfold Vl.sub Vl.cl
 split <;> rfl
theorem yI(t:Tk X.K H)(hx:Rv X.K RT Y old σ σV H x ux)(hy:Rv X.K RT Y old σ σV H y uy)(h:RE (dW x y) (Wn X RT Y old σ σV H Q)):rIx X.K ux uy H (λv H'=>Tk X.K H'->Q v H'):=by
 unfold dW at h
 split at h
 . rename_i ds k d1 d2
   obtain⟨a,xs,e,q,_,r⟩:=hx.lst d1
   cases hj:Hp.ixN ds.length k with
   | none=>rw[hj] at h;exact h.elim
   | some j=>
    rw[hj] at h
    cases hd:ds[j]? with
    | none=>simp only[hd] at h;exact h.elim
    | some d=>
     simp only[hd] at h
     obtain⟨v,hv,rv⟩:=r.get hd
     refine .inl ⟨a,xs,k,v,e,hy.int d2,q,?_,λt'=>h v H t' (Rv.ofSub rv)⟩
     unfold atI
     rw[<-r.length,<-uI,hj]
     exact hv
 . rename_i ds k d1 d2
   obtain⟨a,xs,e,q,r⟩:=hx.tup d1
   cases hj:Hp.ixN ds.length k with
   | none=>rw[hj] at h;exact h.elim
   | some j=>
    rw[hj] at h
    cases hd:ds[j]? with
    | none=>simp only[hd] at h;exact h.elim
    | some d=>
     simp only[hd] at h
     obtain⟨v,hv,rv⟩:=r.get hd
     refine .inr (.inl ⟨a,xs,k,v,e,hy.int d2,q,?_,λt'=>h v H t' (Rv.ofSub rv)⟩)
     unfold atI
     rw[<-r.length,<-uI,hj]
     exact hv
 . rename_i z k d1 d2
   obtain⟨c,h⟩:=h.iff
   have c':=of_decide_eq_true c
   cases hj:Hp.ixN z.length k with
   | none=>rw[hj] at h;exact h.elim
   | some j=>
    rw[hj] at h
    cases hd:z.cps.toList[j]? with
    | none=>simp only[hd] at h;exact h.elim
    | some c=>
     simp only[hd] at h
     refine .inr (.inr ⟨z,k,c,hx.str d1,hy.int d2,cT c',?_,λt'=>Wn.val h t' λ_=>rfl⟩)
     unfold atI
     have hl:z.cps.toList.length=z.length:=by simp[Str.length]
     rw[hl,<-uI,hj]
     exact hd
 . exact h.elim
theorem pQ(n d:Nat)(o:Option Int):Hp.sIx n d o=HT.sIx n d o:=by cases o <;> rfl
theorem rX{K:Fg}{ex:Addr->Prop}{ds:List D}{xs:List V}(r:Reps K H ex ds xs)(lo hi:Option Int):Reps K H ex (cut ds lo hi) (rF xs lo hi):=by
 unfold cut rF
 rw[pQ,pQ,r.length]
 exact(r.drop _).take _
theorem gD{prog:Program}{w:World}{A:Around}{E:Value->Shared->Prop}{t sl:Addr}{items:Array Value}{vl vu:Value}{lo hi:Option Int}{Q:Value->Shared->Prop}(ht:IsTup s.heap t items)(hs:s.heap.IsSliceOf sl vl vu .none)(pl:IsPart vl lo)(pu:IsPart vu hi)
 (hw:HT.sIx items.size 0 lo=0/\HT.sIx items.size items.size hi=items.size) (h:Q (.ref t) s):wpAny (model prog w) A (getItem (.ref t) (.ref sl)) Q E s:=by
 obtain⟨os,hos,hcs,hds⟩:=id hs
 have hTs:s.TypeIs (.ref sl) "slice" := ⟨os,hos,hcs⟩
 unfold getItem
 try with_reducible refine wpAny_holding ?_
 first|refine wpAny_bind (wpAny_pure ?_)|skip
 refine wpAny_bind (wpAny_sequenceKey ht.typeIs (by decide) ?_)
 refine wpAny_bind (wpAny_callSpecial?_slot (name:=Str.ofString "__getitem__") ht.typeIs PyProof.Rows.slot_tuple_getitem
  (wpAny_call_entry PyProof.Rows.slot_tuple_getitem ht.typeIs entry_tuple_getitem ?_ (args_tuple_getitem _ _)))
 show wpAny _ _ (Builtin.Tuple.tupleItemsOf (.ref t) >>= _) _ _ s
 refine wpAny_bind (tupleItemsOf_ ht ?_)
 refine wpAny_bind (wpAny_typeOf hTs ?_)
 rw[if_pos (by decide)]
 refine wpAny_bind (HT.sliceApplied_gen hs pl pu ?_)
 have hyes:(((HT.sIx items.size 0 lo:Nat):Int)==0&&(1:Int)==1&&(HT.sIx items.size items.size hi-HT.sIx items.size 0 lo)==items.size)=true:=by
  rw[hw.1,hw.2]
  simp
 show wpAny _ _ (if (((HT.sIx items.size 0 lo:Nat):Int)==0&&(1:Int)==1&&(HT.sIx items.size items.size hi-HT.sIx items.size 0 lo)==items.size)=true then _ else _) _ _ s
 rw[if_pos hyes]
 unfold Builtin.Tuple.tupleIsExact
 refine wpAny_bind (wpAny_bind (wpAny_typeOf ht.typeIs (wpAny_pure ?_)))
 rw[if_pos (beq_self_eq_true _)]
 exact wpAny_bind (wpAny_rule (wpAny_pure ⟨_,rfl,wpAny_pure h⟩))
noncomputable def rY(K:Fg):V->Option Int->Option Int->Hp->VK->Prop:=λx lo hi H Q=>∃a xs,x=.ref a/\SqT K H a xs/\(HT.sIx xs.length 0 lo=0/\HT.sIx xs.length xs.length hi=xs.length)/\Q (.ref a) H
theorem aCD:SlR X (rY X.K):=by
 intro pins s σ H x v vl vu lo hi sl Q I rx hs pl pu h
 obtain⟨a,xs,rfl,hx,hw,q⟩:=h
 cases rx
 obtain⟨its,r,ht,hz⟩:=I.tuple hx
 have hlen:its.toArray.size=xs.length:=by rw[List.size_toArray];exact r.length.symm
 refine⟨"tuple",_,PyProof.Rows.slot_tuple_getitem.lookup,ht.typeIs,?_⟩
 exact gD ht hs pl pu (by rw[hlen];exact hw) ⟨.ref a,H,I,rfl,q⟩
theorem aEX:SlR X (λx lo hi H Q=>aAb X.K x lo hi H Q\/aAa X.K x lo hi H Q\/rY X.K x lo hi H Q\/aAs x lo hi H Q):=aCo.or (aEE.or (aCD.or aEU))
theorem yJ{α:Type}{xs:List α}{lo hi:Option Int}(h1:Hp.sIx xs.length 0 lo=0)(h2:Hp.sIx xs.length xs.length hi=xs.length):cut xs lo hi=xs:=by
 unfold cut
 rw[h1,h2,List.drop_zero,Nat.sub_zero,List.take_length]
theorem yK{lo hi:Option Int}(S:Sx X.K RT Y old σ σV H)(t:Tk X.K H)(hx:Rv X.K RT Y old σ σV H x ux)(h:RE (dD x lo hi) (Wn X RT Y old σ σV H Q)) :
 aAb X.K ux lo hi H (λv H'=>Tk X.K H'->Q v H')\/aAa X.K ux lo hi H (λv H'=>Tk X.K H'->Q v H')\/rY X.K ux lo hi H (λv H'=>Tk X.K H'->Q v H')\/aAs ux lo hi H (λv H'=>Tk X.K H'->Q v H'):=by
 unfold dD at h
 split at h
 . rename_i ds d1
   obtain⟨a,xs,e,q,_,r⟩:=hx.lst d1
   refine .inl ⟨a,xs,e,q,λp hp t'=>h _ _ t' (Ro.fresh hp t' rfl rfl S ?_)⟩
   exact rX (eK r) lo hi
 . rename_i ds d1
   obtain⟨a,xs,e,q,r⟩:=hx.tup d1
   have r':=eK r
   by_cases hw:HT.sIx xs.length 0 lo=0/\HT.sIx xs.length xs.length hi=xs.length
   . refine .inr (.inr (.inl ⟨a,xs,e,q,hw,λt'=>h _ _ t' (Ro.plain (aH.refl H) rfl ?_)⟩))
     have e':cut ds lo hi=ds:=yJ (by rw[pQ,r.length];exact hw.1) (by rw[pQ,r.length];exact hw.2)
     unfold Rv
     show Rep X.K H _ (.tup (cut ds lo hi)) (.ref a)
     rw[e']
     exact⟨a,xs,rfl,q,r'⟩
   . exact .inr (.inl ⟨a,xs,e,q,hw,λp hp t'=>h _ _ t' (Ro.tup hp rfl rfl (rX r' lo hi))⟩)
 . rename_i a d1
   obtain⟨hl,h⟩:=h.iff
   have e:ux=.str a:=by
    have z:=hx
    unfold Rv at z
    rw[d1] at z
    exact z
   exact .inr (.inr (.inr ⟨a,e,cT (of_decide_eq_true hl),λt'=>h _ _ t' (Ro.cl (aH.refl H) rfl)⟩))
 . exact h.elim
theorem log2_lt{i:Int}(h:i.natAbs<2 ^ 1000):i.natAbs.log2<1920:=by
 by_cases hz:i.natAbs=0
 . rw[hz];decide
 . have:=(Nat.log2_lt hz).mpr (Nat.lt_of_lt_of_le h (Nat.pow_le_pow_right (by decide) (show 1000<=1920 by decide)))
   exact this
noncomputable def rBi(X:Cx)(b:Bi):List V->Hp->VK->Prop:=match b with
 | .len=>λxs H Q=>(∃p ys,xs=[.ref p]/\(SqL X.K H p ys\/SqT X.K H p ys)/\Q (.int ys.length) H)\/∃z,xs=[.str z]/\z.length<=sizeLine/\Q (.int z.length) H
 | .list=>λxs H Q=>∃p ys,xs=[.ref p]/\(SqL X.K H p ys\/SqT X.K H p ys)/\∀l,H l=none->Q (.ref l) (upd H l (.lst ys))
 | _=>λ_ _ _=>False
noncomputable def aDO:Bi->Value
 | .len=>.builtin "len" | .list=>.type "list" | .tuple=>.type "tuple" | .min=>.builtin "min" | .max=>.builtin "max" | .abs=>.builtin "abs" | .int=>.type "int" | .str=>.type "str"
 | .all=>.builtin "all" | .any=>.builtin "any" | .sum=>.builtin "sum" | .sorted=>.builtin "sorted" | .bool=>.type "bool" | .repr=>.builtin "repr"
theorem aCE(hc:X.calm=true)(hg:X.A.guards=some [])(hu:X.A.units+200<cLine)(b:Bi)(hb:aAr b=true):gG X (aDO b) (rBi X b):=by
 cases b with
 | len=>exact pH.or pI
 | list=>exact pJ
 | _=>cases hb
theorem aAA{b:Bi}(hb:aAr b=true)(S:Sx X.K RT Y old σ σV H){vs:List Vl}{us:List V}(hv:Rvs X.K RT Y old σ σV H vs us)(h:RE (biD b vs) (Wn X RT Y old σ σV H Q)) :
 rBi X b us H (λv H'=>Tk X.K H'->Q v H'):=by
 unfold biD at h
 split at h
 . rename_i x
   obtain⟨u,r,e,hx,hr⟩:=hv
   rw[show r=[] from hr] at e
   subst e
   cases b with
   | len=>
    dsimp only[aER] at h
    split at h
    . rename_i ds d1
      obtain⟨a,xs,e,q,_,r⟩:=hx.lst d1
      exact .inl ⟨a,xs,by rw[e],.inl q,λt'=>by rw[<-r.length];exact Wn.val h t' λ_=>rfl⟩
    . rename_i ds d1
      obtain⟨a,xs,e,q,r⟩:=hx.tup d1
      exact .inl ⟨a,xs,by rw[e],.inr q,λt'=>by rw[<-r.length];exact Wn.val h t' λ_=>rfl⟩
    . rename_i z d1
      obtain⟨c,h⟩:=h.iff
      exact .inr ⟨z,by rw[hx.str d1],cT (of_decide_eq_true c),λt'=>Wn.val h t' λ_=>rfl⟩
    . exact h.elim
   | list=>
    dsimp only[aER] at h
    split at h
    . rename_i ds d1
      obtain⟨a,xs,e,q,_,r⟩:=hx.lst d1
      exact⟨a,xs,by rw[e],.inl q,λp hp t'=>h _ _ t' (Ro.fresh hp t' rfl rfl S (eK r))⟩
    . rename_i ds d1
      obtain⟨a,xs,e,q,r⟩:=hx.tup d1
      exact⟨a,xs,by rw[e],.inr q,λp hp t'=>h _ _ t' (Ro.fresh hp t' rfl rfl S (eK r))⟩
    . exact h.elim
   | tuple=>cases hb
   | abs=>cases hb
   | int=>cases hb
   | str=>cases hb
   | all=>cases hb
   | repr=>cases hb
   | bool=>cases hb
   | sum=>cases hb
   | any=>cases hb
   | sorted=>cases hb
   | min=>exact h.elim
   | max=>exact h.elim
 . rename_i x y
   obtain⟨u,r,e,hx,u',r',e',hy,hr⟩:=hv
   rw[show r'=[] from hr] at e'
   subst e' e
   cases b with
   | min=>cases hb
   | max=>cases hb
   | _=>exact h.elim
 . exact h.elim
noncomputable def rZ:Cl->Option Value
 | .tInt=>some (.type "int")|.tBool=>some (.type "bool")|.tStr=>some (.type "str")|.tList=>some (.type "list")|.tTuple=>some (.type "tuple")|.tDict=>some (.type "dict")
 | _=>none
noncomputable def tyD:D->Option String
 | .non=>some "NoneType" | .bl _=>some "bool" | .int _=>some "int" | .str _=>some "str" | .tup _=>some "tuple" | .lst _=>some "list" | .dic _=>some "dict" | .err _ _=>none
theorem eL(K:Fg)(P:Pg){c:Cl}{cv:Value}{d:D}{k:Bool}{T:String}(hc:rZ c=some cv)(hT:tyD d=some T)(h:isI [c] P d=some k):PySem.W.kitOne K (.type T) cv=some k:=by
 cases c with
 | own c=>cases hc
 | tValueError=>cases hc
 | tInt=>cases hc;cases d <;> cases hT <;> simp[isI] at h <;> subst h <;> kernel_rfl
 | tBool=>cases hc;cases d <;> cases hT <;> simp[isI] at h <;> subst h <;> kernel_rfl
 | tStr=>cases hc;cases d <;> cases hT <;> simp[isI] at h <;> subst h <;> kernel_rfl
 | tList=>cases hc;cases d <;> cases hT <;> simp[isI] at h <;> subst h <;> kernel_rfl
 | tTuple=>cases hc;cases d <;> cases hT <;> simp[isI] at h <;> subst h <;> kernel_rfl
 | tDict=>cases hc;cases d <;> cases hT <;> simp[isI] at h <;> subst h <;> kernel_rfl
theorem yL(P:Pg){c:Cl}{cv:Value}{k:Bool}(I:L2.Inv X pins σV H s)(rx:aR ux vx)(hx:Rv X.K RT Y old σ σV H x ux)(hc:rZ c=some cv)(h:isI [c] P x.d=some k)(q:Q (.bl k) H) :
 wpAny (model X.prog X.w) X.A (PySem.call (.builtin "isinstance") [vx,cv]) (EP X pins σV Q) X.xe s:=by
 have fin:∀tk,EP X pins σV Q (.bool k) { s with toks:=tk }:=λtk=>⟨.bl k,H,I.tok tk,rfl,q⟩
 cases d:x.d with
 | non=>
  have e:=eL X.K P hc (by rw[d];rfl) h
  rw[hx.non d] at rx;cases rx
  exact PySem.W.kia_one PySem.W.kitx_none I.kIn True.intro e (λz=>nomatch z) fin
 | bl b=>
  have e:=eL X.K P hc (by rw[d];rfl) h
  rw[hx.bl d] at rx;cases rx
  exact PySem.W.kia_one PySem.W.kitx_bool I.kIn True.intro e (λz=>nomatch z) fin
 | int i=>
  have e:=eL X.K P hc (by rw[d];rfl) h
  rw[hx.int d] at rx;obtain⟨t,rfl⟩:=rx
  exact PySem.W.kia_one PySem.W.kitx_int I.kIn True.intro e (λz=>nomatch z) fin
 | str z=>
  have e:=eL X.K P hc (by rw[d];rfl) h
  rw[hx.str d] at rx;obtain⟨t,rfl⟩:=rx
  exact PySem.W.kia_one PySem.W.kitx_str I.kIn True.intro e (λz=>nomatch z) fin
 | tup ds=>
  have e:=eL X.K P hc (by rw[d];rfl) h
  obtain⟨a,xs,e1,p,_⟩:=hx.tup d
  subst e1
  cases rx
  obtain⟨its,_,t,_⟩:=I.tuple p
  obtain⟨o,h1,h2,_⟩:=t
  exact PySem.W.kia_one PySem.W.kitx_tuple I.kIn ⟨o,h1,h2⟩ e (λz=>nomatch z) fin
 | lst ds=>
  have e:=eL X.K P hc (by rw[d];rfl) h
  obtain⟨a,xs,e1,p,_⟩:=hx.lst d
  subst e1
  cases rx
  obtain⟨its,_,t,_⟩:=I.list p
  obtain⟨o,n,h1,h2,_⟩:=t
  exact PySem.W.kia_one PySem.W.kitx_list I.kIn ⟨o,h1,h2⟩ e (λz=>nomatch z) fin
 | dic kvs=>
  have e:=eL X.K P hc (by rw[d];rfl) h
  unfold Rv at hx
  rw[d] at hx
  obtain⟨a,ks,e1,p,_⟩:=hx
  subst e1
  cases rx
  obtain⟨_,_,vs,_,o,es,ep,h1,h2,_⟩:=(show cO X.prog X.w H s.heap a (.dK ks) from I.hok a _ p)
  exact PySem.W.kia_one PySem.W.kitx_dict I.kIn ⟨o,h1,h2.1⟩ e (λz=>nomatch z) fin
 | err _ _=>
  unfold Rv at hx
  rw[d] at hx
  exact hx.elim
end
end Hp
end
noncomputable section
namespace L2
open PySem PySem.Spec PyProof.Rows
noncomputable def gE(cells:List (Str×Addr)):List (Str×NameKind)->List (Str×Addr)->List (Str×Addr)
 | [],acc=>acc
 | (n,k)::r,acc=>if k==.free then gE cells r ((n,(cells.lookup n).getD 0)::acc) else gE cells r acc
theorem clos_mem{cells:List (Str×Addr)}:∀{names:List (Str×NameKind)} {acc:List (Str×Addr)} {p:Str×Addr},p∈gE cells names acc->p∈acc\/((p.1,NameKind.free)∈names/\p.2=(cells.lookup p.1).getD 0)
 | [],_,_,h=>.inl h
 | (n,k)::r,acc,p,h=>by
  unfold gE at h
  by_cases hk:(k==NameKind.free)=true
  . rw[if_pos hk] at h
    rcases clos_mem h with q|q
    . rcases List.mem_cons.mp q with q|q
      . subst q
        have:k=.free:=eq_of_beq hk
        subst this
        exact .inr ⟨List.mem_cons_self,rfl⟩
      . exact .inl q
    . exact .inr ⟨List.mem_cons_of_mem _ q.1,q.2⟩
  . rw[if_neg hk] at h
    rcases clos_mem h with q|q
    . exact .inl q
    . exact .inr ⟨List.mem_cons_of_mem _ q.1,q.2⟩
theorem lD{cells:List (Str×Addr)}:∀{names:List (Str×NameKind)} {acc:List (Str×Addr)} {p:Str×Addr},p∈acc->p∈gE cells names acc
 | [],_,_,h=>h
 | (n,k)::r,acc,p,h=>by
  unfold gE
  by_cases hk:(k==NameKind.free)=true
  . rw[if_pos hk];exact lD (List.mem_cons_of_mem _ h)
  . rw[if_neg hk];exact lD h
theorem iA{cells:List (Str×Addr)}:∀{names:List (Str×NameKind)} {acc:List (Str×Addr)} {n:Str},(n,NameKind.free)∈names->(n,(cells.lookup n).getD 0)∈gE cells names acc
 | [],_,_,h=>by simp at h
 | (m,k)::r,acc,n,h=>by
  unfold gE
  rcases List.mem_cons.mp h with q|q
  . cases q
    rw[if_pos (by rfl:(NameKind.free==NameKind.free)=true)]
    exact lD List.mem_cons_self
  . by_cases hk:(k==NameKind.free)=true
    . rw[if_pos hk];exact iA q
    . rw[if_neg hk];exact iA q
theorem cU{α:Type}:∀{l:List (Str×α)} {x:Str} {a:α},(x,a)∈l->∃b,l.lookup x=some b
 | (y,b)::r,x,a,h=>by
  rw[List.lookup_cons]
  cases hx:x==y with
  | true=>exact⟨b,rfl⟩
  | false=>
   rcases List.mem_cons.mp h with q|q
   . cases q
     simp at hx
   . exact cU q
theorem bI{cells:List (Str×Addr)}{names:List (Str×NameKind)}(hh:∀n,(n,NameKind.free)∈names->∃c,cells.lookup n=some c){x:Str}{c:Addr}(h:(gE cells names []).lookup x=some c):cells.lookup x=some c:=by
 rcases clos_mem (PySem.mem_of_lookup h) with q|⟨q1,q2⟩
 . simp at q
 . obtain⟨c',e⟩:=hh x q1
   simp only at q2
   rw[e] at q2
   rw[e,q2];rfl
theorem eU{scope:Scope}{env:Env}(hh:∀n,(n,NameKind.free)∈scope.names->∃c,env.cells.lookup n=some c):closureFor scope env=pure (gE env.cells scope.names []):=by
 have go:∀(l:List (Str×NameKind)) (acc:List (Str×Addr)),(∀n,(n,NameKind.free)∈l->∃c,env.cells.lookup n=some c) ->
  (forIn l acc (λ(x:Str×NameKind) (r:List (Str×Addr))=>(match x with|(name,kind)=>if (kind==NameKind.free)=true then do let __do_lift<-cellOf env name;pure (ForInStep.yield ((name,__do_lift)::r)) else pure (ForInStep.yield r):Sem (ForInStep (List (Str×Addr))))))=(pure (gE env.cells l acc):Sem (List (Str×Addr))):=by
  intro l
  induction l with
  | nil=>intro acc _;rfl
  | cons p r ih=>
   intro acc hl
   obtain⟨n,k⟩:=p
   rw[List.forIn_cons]
   unfold gE
   by_cases hk:(k==NameKind.free)=true
   . have:k=.free:=eq_of_beq hk
     subst this
     obtain⟨c,e⟩:=hl n List.mem_cons_self
     have e':cellOf env n=pure c:=by unfold cellOf;rw[e]
     simp only[beq_self_eq_true,if_true,e']
     rw[e]
     exact ih _ λm hm=>hl m (List.mem_cons_of_mem _ hm)
   . simp only[hk,if_false]
     exact ih _ λm hm=>hl m (List.mem_cons_of_mem _ hm)
 unfold closureFor
 exact(bind_pure _).trans (go scope.names [] hh)
section
variable {prog:Program} {w:World} {A:Around} {R:Result->Shared->Prop} {s:Shared}
theorem fD{elt target iter:Expr}{ifs:List Expr}{scope:Scope}{pos:Pos}{it acc:Value}{env:Env}(I:Nat->Shared->Prop)
 (turn:∀n s,I n s->wpAny (model prog w) A (pyNext it) (λr s₁=>match r with
  | none=>R (.ok .next) s₁
  | some v=>wpAny (model prog w) A (letOwnedTupleGo target it v) (λ_ s₁'=>wpAny (model prog w) A (assign target env v) (λ_ s₂=>
   wpAny (model prog w) A (forIn ifs true λc r=>if r=true then do let ok<-isTrue c env (eval c env);pure (ForInStep.yield ok) else pure (ForInStep.yield r)) (λok s₃=>
    if ok=true then wpAny (model prog w) A (eval elt env) (λx s₄=>
     wpAny (model prog w) A (call (.builtin "list.append") [acc,x]) (λ_ s₅=>∃m,m<n/\I m s₅) (λ_ _=>False) s₄) (λ_ _=>False) s₃
    else ∃m,m<n/\I m s₃) (λ_ _=>False) s₂) (λ_ _=>False) s₁') (λ_ _=>False) s₁) (λ_ _=>False) s)
 (n:Nat) (h:I n s) :
 codeAny (model prog w) A (.compLoop (.ListComp elt [⟨target,iter,ifs,0⟩] scope pos) 0 it acc env) R s:=by
 refine codeAny_loop rfl I (λn s hI=>?_) n h
 show wpAny _ A ((compTurn (.ListComp elt [⟨target,iter,ifs,0⟩] scope pos) 0 it acc env).onRaise (λx=>do noteFrame x env;theTreesLotGoes x)) _ _ s
 refine wpAny_noted ?_
 rw[compTurn_list]
 refine wpAny_bind (wpAny_standAt (wpAny_bind (wpAny_mono (turn n s hI) (λr s₁ h₁=>?_) λ_ _ h'=>h'.elim)))
 cases r with
 | none=>exact wpAny_pure h₁
 | some v=>
  refine wpAny_bind (wpAny_mono h₁ (λ_ s₁' h₁'=>?_) λ_ _ h'=>h'.elim)
  refine wpAny_bind (wpAny_mono h₁' (λ_ s₂ h₂=>wpAny_bind (wpAny_mono h₂ (λok s₃ h₃=>?_) λ_ _ h'=>h'.elim)) λ_ _ h'=>h'.elim)
  cases ok with
  | false=>exact wpAny_pure ⟨rfl,h₃⟩
  | true=>
   exact wpAny_bind (wpAny_bind (wpAny_mono h₃ (λx s₄ h₄=>wpAny_bind (wpAny_mono h₄ (λ_ s₅ h₅=>wpAny_pure (wpAny_pure ⟨rfl,h₅⟩)) λ_ _ h'=>h'.elim)) λ_ _ h'=>h'.elim))
end
noncomputable def cD(X:Cx)(scope:Scope)(N':List Str)(C:Addr)(s₀:Shared)(H₀:Hp)(ex:List Addr):Cx:=
 { X with env:=compEnvC scope (gE X.env.cells scope.names []) C X.env,N:=N',s₀:=s₀,H₀:=H₀,outer:=X.stack,ex:=ex,fn:=λ_=>false,pn:=[],xe:=λ_ _=>False }
noncomputable def PTs(X:Cx)(ifs:List Expr)(t:TT):Prop:=
 ∀(pins:List (Addr×Obj)) (s:Shared) (σ:St) (H:Hp) (Q:Bool->Hp->Prop),Inv X pins σ H s->t σ H Q ->
  wpAny (model X.prog X.w) X.A (forIn ifs true λc r=>if r=true then do let ok<-isTrue c X.env (eval c X.env);pure (ForInStep.yield ok) else pure (ForInStep.yield r)) (TP X pins σ Q) X.xe s
theorem aCF{X:Cx}:PTs X [] (λ_ H Q=>Q true H):=λpins s σ H Q I h=>wpAny_pure ⟨H,I,h⟩
theorem aCG{X:Cx}{c:Expr}{t:TT}(h:PT X c t):PTs X [c] t:=λpins s σ H Q I hw=>wpAny_tests_one (h pins s σ H Q I hw)
structure bU (X:Cx) (scope:Scope) (k:Nat) (caps:List Nat) (N':List Str):Prop where
 kind:scope.kind=.function
 nocell:∀y∈scope.names,y.2≠.cell
 loc:∀y∈scope.names,y.2=.local->scope.names.lookup y.1=some .local
 free:∀n,(n,NameKind.free)∈scope.names->X.env.kindOf n=some .cell\/X.env.kindOf n=some .free
 len:N'.length=k+caps.length
 cap:∀j i,caps[j]? = some i->∃x,N'[k+j]? = some x/\X.N[i]? = some x/\scope.names.lookup x=some .free/\X.env.kindOf x=some .cell
 ndp:X.N.Nodup
noncomputable def gN(k:Nat)(caps:List Nat)(σ:St):St:=List.replicate k none++caps.map λi=>(σ[i]?).getD none
noncomputable def aAB(k:Nat)(caps:List Nat)(wi:TI)(g:TG)(tt:TT)(te:TE):TE:=λσ H Q=>wi σ H λJ H1=>
 ∃W:Nat->Nat->List V->St->Hp->Prop,(∃m,W 0 m [] (gN k caps σ) H1)/\∀i m ys σ1 H,W i m ys σ1 H ->
  (J.stop i H/\ys.length<=sizeLine/\∀p,H p=none->Q (.ref p) (upd H p (.lst ys))) \/
  (J.go i H/\ys.length<sizeLine/\∀x H',J.yld i H x H'->g x σ1 H' λσ2 H2=>tt σ2 H2 λb H3=>
   if b=true then te σ2 H3 λy H4=>∃m',m'<m/\W (i+1) m' (ys++[y]) σ2 H4 else ∃m',m'<m/\W (i+1) m' ys σ2 H3)
theorem HOk.track{P:Program}{w:World}{H:Hp}{h:Heap}{a:Addr}{o:HO}(ok:HOk P w H h)(n:H a=none)(new:cO P w (upd H a o) h a o):HOk P w (upd H a o) h:=λb u e=>by
 by_cases hb:b=a
 . subst hb;rw[bD] at e;cases e;exact new
 . rw[aJ hb] at e
   exact(ok b u e).stay (λ_ _ _ q=>q) (λc q=>by rw[aJ (bE q n)];exact q) λc xs q=>by rw[aJ (bE q n)];exact q
abbrev cA(its:List Value)(n:Nat):Obj:={ cls:=.type "list",data:=.seq its.toArray n }
section
variable {X:Cx} {scope:Scope} {k:Nat} {caps:List Nat} {N':List Str} {pins:List (Addr×Obj)} {σ:St} {H:Hp} {s:Shared} {fp:List Addr}
theorem Inv.cellLt(I:Inv X pins σ H s){x:Str}{c:Addr}(e:X.env.cells.lookup x=some c):c<s.heap.objs.size:=by
 obtain⟨v,q⟩:=I.cell x c e
 exact q.lt
theorem dJ:∀{l:List (Str×NameKind)} {x:Str} {k:NameKind},l.lookup x=some k->(x,k)∈l:=λh=>PySem.mem_of_lookup h
theorem relabel_lookup{env:Env}:∀{names:List (Str×NameKind)} {x:Str} {k:NameKind},
 (names.map λ(n,k)=>if (k==NameKind.free&&env.scope.kind==.function&&env.kindOf n==some .cell) then (n,NameKind.cell) else (n,k)).lookup x=some k ->
 (k=.cell/\names.lookup x=some .free/\env.kindOf x=some .cell)\/names.lookup x=some k
 | [],_,_,h=>by simp at h
 | (n,k')::r,x,k,h=>by
  have ih:=@relabel_lookup env r x k
  rw[mC] at h
  by_cases hc:(k'==NameKind.free&&env.scope.kind==.function&&env.kindOf n==some .cell)=true
  . simp only[hc,if_true,List.lookup_cons] at h ⊢
    cases hx:x==n with
    | true=>
     rw[hx] at h
     simp only at h ⊢
     simp only[bA] at hc
     have e1:k'=.free:=eq_of_beq hc.1.1
     have e2:env.kindOf n=some .cell:=eq_of_beq hc.2
     have e3:x=n:=eq_of_beq hx
     subst e3
     cases h
     exact .inl ⟨rfl,by rw[e1],e2⟩
    | false=>rw[hx] at h;exact ih h
  . simp only[Bool.not_eq_true] at hc
    simp only[hc,if_false,List.lookup_cons,bF] at h ⊢
    cases hx:x==n with
    | true=>rw[hx] at h;exact .inr h
    | false=>rw[hx] at h;exact ih h
theorem aJB(CS:bU X scope k caps N')(I:Inv X pins σ H s)(f:∀b∈fp,iR X pins H b)(hf:∀b∈fp,b<s.heap.objs.size) :
 (cD X scope N' (s.heap.objs.size+1) { s with heap:=s.heap.push (cA [] 0) } H (s.heap.objs.size::fp)).Ok:=by
 have hh:∀n,(n,NameKind.free)∈scope.names->∃c,X.env.cells.lookup n=some c:=λn hn=>I.ok.has n (CS.free n hn)
 have ge:∀b o,s.heap.get? b=some o->(s.heap.push (cA [] 0)).get? b=some o:=λb o e=>Heap.get?_push_of_some _ e
 have fsub:∀b∈frs X.stack,∃o,s.heap.get? b=some o:=λb hb=>by
  obtain⟨_,o,ho,_⟩:=I.stack.mem hb
  exact⟨o,ho⟩
 refine⟨I.ok.mod,?_,I.ok.glob,I.ok.blt,?_,λx y c h1 h2=>?_,λx hx=>?_,λx c h _=>?_,I.ok.hd,I.ok.frames,.inl rfl,λb hb=>?_,λb o e=>?_,?_,λb o e hb=>?_,λb hb=>?_,?_,I.stkFree⟩
 . exact CS.kind
 . show(s.heap.push (cA [] 0)).objs.size<=s.heap.objs.size+1
   rw[Heap.size_push]
   exact Nat.le_refl _
 . exact I.ok.inj x y c (bI hh h1) (bI hh h2)
 . have fr:(x,NameKind.free)∈scope.names:=by
    rcases hx with q|q
    . rcases relabel_lookup q with⟨_,z,_⟩|z
      . exact dJ z
      . exact absurd rfl (CS.nocell _ (dJ z))
    . rcases relabel_lookup q with⟨z,_⟩|z
      . cases z
      . exact dJ z
   obtain⟨c,e⟩:=cU (iA (cells:=X.env.cells) (acc:=[]) fr)
   exact⟨c,e⟩
 . cases(show false=true from h)
 . refine⟨?_,λx c e=>?_⟩
   . show b≠s.heap.objs.size+1
     rcases List.mem_cons.mp hb with z|z
     . rw[z];exact Nat.ne_of_lt (Nat.lt_succ_self _)
     . exact Nat.ne_of_lt (Nat.lt_succ_of_lt (hf b z))
   . have e':=bI hh e
     rcases List.mem_cons.mp hb with z|z
     . rw[z];exact Nat.ne_of_lt (I.cellLt e')
     . exact(f b z).2.2.2.2.1 x c e'
 . exact⟨ge b o (I.bs b o e).1,(I.bs b o e).2⟩
 . show X.base.objs.size<=(s.heap.push (cA [] 0)).objs.size
   rw[Heap.size_push]
   exact Nat.le_succ_of_le (Nat.le_trans I.ok.bsz I.sz)
 . have lt:=Heap.lt_size e
   rcases List.mem_cons.mp hb with z|z
   . subst z
     exact absurd (Nat.lt_of_lt_of_le lt (Nat.le_trans I.ok.bsz I.sz)) (Nat.lt_irrefl _)
   . rcases(f b z).2.2.2.1 with q|q
     . exact I.ok.noex b o e q
     . exact absurd (Nat.lt_of_lt_of_le lt (Nat.le_trans I.ok.bsz q)) (Nat.lt_irrefl _)
 . show b∉frs X.stack
   intro hs
   rcases List.mem_cons.mp hb with z|z
   . subst z
     obtain⟨o,e⟩:=fsub _ hs
     exact absurd (Heap.lt_size e) (Nat.lt_irrefl _)
   . rcases List.mem_cons.mp (I.stkSub b hs) with q|q
     . exact(f b z).2.1 q
     . exact(f b z).2.2.1 q
 . exact I.stack.of_keeps λb o e _=>⟨o,ge b o e,rfl⟩
theorem aAC(CS:bU X scope k caps N'){j:Nat}{v:V}(h:(gN k caps σ)[j]? = some (some v)):∃j' i,j=k+j'/\caps[j']? = some i/\σ[i]? = some (some v):=by
 unfold gN at h
 by_cases hj:j<k
 . rw[List.getElem?_append_left (by simpa using hj),List.getElem?_replicate] at h
   split at h <;> cases h
 . rw[List.getElem?_append_right (by simpa using hj),List.length_replicate,List.getElem?_map] at h
   cases e:caps[j-k]? with
   | none=>rw[e] at h;cases h
   | some i=>
    rw[e] at h
    have h':(σ[i]?).getD none=some v:=Option.some.inj h
    refine⟨j-k,i,by omega,e,?_⟩
    cases q:σ[i]? with
    | none=>rw[q] at h';cases h'
    | some z=>rw[q] at h';exact congrArg some h'
theorem aHd(CS:bU X scope k caps N')(I:Inv X pins σ H s)(f:∀b∈fp,iR X pins H b)(hf:∀b∈fp,b<s.heap.objs.size){h₁:Heap}{tk:Nat}
 (hns:h₁.Ns (s.heap.objs.size+1) λ_=>none) (hk:∀b o,(s.heap.push (cA [] 0)).get? b=some o->h₁.get? b=some o) :
 Inv (cD X scope N' (s.heap.objs.size+1) { s with heap:=s.heap.push (cA [] 0) } H (s.heap.objs.size::fp)) [] (gN k caps σ) H { s with heap:=h₁,toks:=tk }:=by
 have hh:∀n,(n,NameKind.free)∈scope.names->∃c,X.env.cells.lookup n=some c:=λn hn=>I.ok.has n (CS.free n hn)
 have ge:∀b o,s.heap.get? b=some o->h₁.get? b=some o:=λb o e=>hk b o (Heap.get?_push_of_some _ e)
 have cellK:∀{c:Addr} {v:Option Value},s.heap.IsCell c v->h₁.IsCell c v:=λ{c v} ⟨o,e,d⟩=>⟨o,ge _ _ e,d⟩
 refine⟨aJB CS I f hf,rfl,I.bare,Un.kept hk,⟨_,hns,λj x v e1 e2 e3=>?_⟩,λx c e=>?_,?_,λx c e=>?_,λp hp=>absurd (show p∈([]:List (Addr×Obj)) from hp) (by simp),I.hok.kept ge,?_⟩
 . obtain⟨j',i,ej,ec,es⟩:=aAC CS e2
   obtain⟨y,h1,h2,h3,h4⟩:=CS.cap j' i ec
   have e1':N'[j]? = some x:=e1
   rw[ej,h1] at e1'
   have ey:y=x:=Option.some.inj e1'
   subst ey
   obtain⟨m,hn,hl⟩:=I.loc
   obtain⟨u,ru,lk⟩:=hl i y v h2 es (.inr (.inl h4))
   rcases lk with⟨k1,_⟩|⟨_,c,ec',hc⟩
   . rw[h4] at k1;cases k1
   . refine⟨u,ru,.inr ⟨?_,c,?_,cellK hc⟩⟩
     . have e3':Vis (relabel scope X.env) y:=e3
       rcases e3' with z|z|z
       . rcases relabel_lookup z with⟨z,_⟩|z
         . cases z
         . rw[h3] at z;cases z
       . exact .inl z
       . exact .inr z
     . obtain⟨c',e⟩:=cU (iA (cells:=X.env.cells) (acc:=[]) (dJ h3))
       have e':=bI hh e
       rw[ec'] at e'
       cases e'
       exact e
 . obtain⟨v,q⟩:=I.cell x c (bI hh e)
   exact⟨v,cellK q⟩
 . exact I.hok.fresh (Nat.le_succ _)
 . exact I.freeC x c (bI hh e)
 . show(gN k caps σ).length=N'.length
   unfold gN
   rw[lA,List.length_replicate,lM,CS.len]
theorem sA{tg iter elt:Expr}{ifs:List Expr}{pos:Pos}{g:TG}{tt:TT}{te:TE}{it:Addr}{tn:Nat->Heap->Prop}{J:It}{RR:Value->Addr->Result->Shared->Prop}{E:Value->Shared->Prop}{Q:VK}
 (CS:bU X scope k caps N') (hc:X.calm=true) (I:Inv X pins σ H s) (T:xR X.prog X.w X.K tg J fp it tn) (st:tn 0 s.heap) (f:∀b∈fp,iR X pins H b)
 (hch:∀C s₀ H₀ ex,PG (cD X scope N' C s₀ H₀ ex) tg g/\PTs (cD X scope N' C s₀ H₀ ex) ifs tt/\PE (cD X scope N' C s₀ H₀ ex) elt te)
 (hw:∃W:Nat->Nat->List V->St->Hp->Prop,(∃m,W 0 m [] (gN k caps σ) H)/\∀i m ys σ1 H,W i m ys σ1 H ->
  (J.stop i H/\ys.length<=sizeLine/\∀p,H p=none->Q (.ref p) (upd H p (.lst ys))) \/
  (J.go i H/\ys.length<sizeLine/\∀x H',J.yld i H x H'->g x σ1 H' λσ2 H2=>tt σ2 H2 λb H3=>
   if b=true then te σ2 H3 λy H4=>∃m',m'<m/\W (i+1) m' (ys++[y]) σ2 H4 else ∃m',m'<m/\W (i+1) m' ys σ2 H3))
 (hR:∀D C s' H' m,Inv X pins σ H' s'->s'.heap.Ns C m->s.heap.objs.size<C->(∀(σ':St) (s'':Shared) (h':Heap),Inv X pins σ' H' s''->Heap.SameBut C s''.heap h'->Inv X pins σ' H' { s'' with heap:=h' })->Q (.ref D) H'->RR (.ref D) C (.ok .next) s') :
 wpAny (model X.prog X.w) X.A (newList []) (λacc s₃=>wpAny (model X.prog X.w) X.A (newFunctionEnv scope X.env.globals (gE X.env.cells scope.names []) [] X.env.qual none .none (some X.env)) (λcenv s₄=>
  codeAny (model X.prog X.w) X.A (.compStart (.ListComp elt [⟨tg,iter,ifs,0⟩] scope pos) 0 (.ref it) acc { cenv with scope:=relabel scope X.env }) (RR acc cenv.locals) s₄) E s₃) E s:=by
 obtain⟨W,⟨m0,w0⟩,turn⟩:=hw
 have hf:∀b∈fp,b<s.heap.objs.size:=λb hb=>by
  obtain⟨o,e,_⟩:=T.obj 0 _ st b hb
  exact Heap.lt_size e
 refine wpAny_newObj_type (wpAny_newFunctionEnv CS.nocell (by intro y hy;simp at hy) (λh₁ hns₁ hsb₁=>?_) CS.kind)
 have hsz:(s.heap.push (cA [] 0)).objs.size=s.heap.objs.size+1:=Heap.size_push _ _
 have hns:h₁.Ns (s.heap.objs.size+1) λ_=>none:=by
  have:=hns₁
  rw[show({ s with heap:=s.heap.push (cA [] 0) }:Shared).heap.objs.size=s.heap.objs.size+1 from hsz] at this
  exact this
 have hk:∀b o,(s.heap.push (cA [] 0)).get? b=some o->h₁.get? b=some o:=λb o e=>
  hsb₁.extBut b o (Nat.ne_of_lt (by have:=Heap.lt_size e;rw[hsz] at this;show b<(s.heap.push (cA [] 0)).objs.size;rw[hsz];exact this)) (Heap.get?_push_of_some _ e)
 have I0:=aHd (N':=N') CS I f hf (tk:=s.toks+([]:List (Str×Value)).length) hns hk
 have noC:∀{b:Addr},b<s.heap.objs.size->b≠s.heap.objs.size+1:=λ{b} hb=>Nat.ne_of_lt (Nat.lt_succ_of_lt hb)
 have hDn:H s.heap.objs.size=none:=I.fresh
 have hh:∀n,(n,NameKind.free)∈scope.names->∃c,X.env.cells.lookup n=some c:=λn hn=>I.ok.has n (CS.free n hn)
 have hD1:h₁.get? s.heap.objs.size=some (cA [] 0):=hk _ _ (Heap.get?_push_size _ rfl)
 have stFs:∀b∈frs X.stack,b<s.heap.objs.size:=λb hb=>by
  obtain⟨_,o,ho,_⟩:=I.stack.mem hb
  exact Heap.lt_size ho
 have fpc:∀(pl:List (Addr×Obj)),(∀p∈pl,p.1=s.heap.objs.size)->∀{H':Hp},(∀b∈fp,H' b=none)->∀b∈fp,iR (cD X scope N' (s.heap.objs.size+1) { s with heap:=s.heap.push (cA [] 0) } H (s.heap.objs.size::fp)) pl H' b:=by
  intro pl hpl H' hn b hb
  refine⟨hn b hb,noC (hf b hb),λz=>?_,.inl (List.mem_cons_of_mem _ hb),λx c e=>(f b hb).2.2.2.2.1 x c (bI hh e),λp hp z=>?_⟩
  . rcases List.mem_cons.mp (I.stkSub b z) with q|q
    . exact(f b hb).2.1 q
    . exact(f b hb).2.2.1 q
  . have hp':p∈pl:=by simpa[cD] using hp
    rw[hpl p hp'] at z
    exact absurd (hf b hb) (by rw[<-z];exact Nat.lt_irrefl _)
 have pinD:∀{σ':St} {H':Hp} {s':Shared} {its:List Value} {n:Nat} {pl:List (Addr×Obj)},Inv (cD X scope N' (s.heap.objs.size+1) { s with heap:=s.heap.push (cA [] 0) } H (s.heap.objs.size::fp)) pl σ' H' s' ->
  s'.heap.get? s.heap.objs.size=some (cA its n)->H' s.heap.objs.size=none->Inv (cD X scope N' (s.heap.objs.size+1) { s with heap:=s.heap.push (cA [] 0) } H (s.heap.objs.size::fp)) [(s.heap.objs.size,cA its n)] σ' H' s':=by
  intro σ' H' s' its n pl J e nn
  refine J.pins_of λp hp=>?_
  have:p=(s.heap.objs.size,cA its n):=by simpa using hp
  subst this
  refine⟨e,nn,Nat.ne_of_lt (Nat.lt_succ_self _),λz=>absurd (stFs _ z) (Nat.lt_irrefl _),λv z=>by cases z⟩
 have start:codeAny (model X.prog X.w) X.A (.compLoop (.ListComp elt [⟨tg,iter,ifs,0⟩] scope pos) 0 (.ref it) (.ref s.heap.objs.size) (compEnvC scope (gE X.env.cells scope.names []) (s.heap.objs.size+1) X.env))
  (RR (.ref s.heap.objs.size) (s.heap.objs.size+1)) { s with heap:=h₁,toks:=s.toks+([]:List (Str×Value)).length }:=by
  refine fD (λn s'=>∃i ys its cnt σ1 H',Inv (cD X scope N' (s.heap.objs.size+1) { s with heap:=s.heap.push (cA [] 0) } H (s.heap.objs.size::fp)) [(s.heap.objs.size,cA its cnt)] σ1 H' s' /\
   tn i s'.heap/\(∀b∈fp,H' b=none)/\aI ys its/\W i n ys σ1 H') ?_ m0 ⟨0,[],[],0,_,H,pinD I0 hD1 hDn,T.keep _ _ _ st λb _ o e=>hk b o (Heap.get?_push_of_some _ e),λb hb=>(f b hb).1,.nil,w0⟩
  rintro n s3 ⟨i,ys,its,cnt,σ1,H3,I3,st3,fr3,rv3,w3⟩
  obtain⟨hD3,nD3,_⟩:=I3.pin (s.heap.objs.size,cA its cnt) (by simp[cD])
  have pl1:∀p∈[(s.heap.objs.size,cA its cnt)],p.1=s.heap.objs.size:=λp hp=>by
   have:p=(s.heap.objs.size,cA its cnt):=by simpa using hp
   rw[this]
  rcases turn i n ys σ1 H3 w3 with⟨stop,hz,qn⟩|⟨go,hz,step⟩
  . refine thn (T.done (cD X scope N' (s.heap.objs.size+1) { s with heap:=s.heap.push (cA [] 0) } H (s.heap.objs.size::fp)) rfl rfl rfl hc i _ s3 _ H3 _ I3 (fpc _ pl1 fr3) st3 stop) λr s4 ⟨hr,I4⟩=>?_
    subst hr
    obtain⟨hD4,nD4,_⟩:=I4.pin (s.heap.objs.size,cA its cnt) (by simp[cD])
    have u4:=I4.base
    have nb:∀{b:Addr} {o:Obj},s.heap.get? b=some o->b∉fp->b∉s.heap.objs.size::fp:=λ{b o} e hb z=>by
     rcases List.mem_cons.mp z with z|z
     . exact absurd (Heap.lt_size e) (by rw[z];exact Nat.lt_irrefl _)
     . exact hb z
    have neD:∀{b:Addr} {o:Obj},s.heap.get? b=some o->b≠s.heap.objs.size:=λ{b o} e=>Nat.ne_of_lt (Heap.lt_size e)
    have trD:∀{b:Addr} {o:HO},H b=some o->b≠s.heap.objs.size:=λ{b o} e=>bE e hDn
    have u:Un (frs X.stack) fp H (upd H3 s.heap.objs.size (.lst ys)) s.heap s4.heap:={
     keep:=λb o e nn hb hx=>u4.keep b o (Heap.get?_push_of_some _ e) nn hb (nb e hx)
     slot:=λb o e nn hb hx=>u4.slot b o (Heap.get?_push_of_some _ e) nn hb (nb e hx)
     free:=λb o e nn hx=>by rw[aJ (neD e)];exact u4.free b o (Heap.get?_push_of_some _ e) nn (nb e hx)
     there:=λb o e hx=>u4.there b o (Heap.get?_push_of_some _ e) (nb e hx)
     tups:=λb xs e=>by rw[aJ (trD e)];exact u4.tups b xs e
     frzs:=λb o u e=>by rw[aJ (trD e)];exact u4.frzs b o u e
     tbls:=λb ps e=>by rw[aJ (trD e)];exact u4.tbls b ps e }
    have hl:=rv3.length
    have hok:HOk X.prog X.w (upd H3 s.heap.objs.size (.lst ys)) s4.heap:=HOk.track I4.hok nD4 ⟨hz,its,cnt,rv3,hD4⟩
    have I5:Inv X pins σ (upd H3 s.heap.objs.size (.lst ys)) s4:=I.call' I4.os u hok I4.bare λb hb=>⟨(f b hb).2.2.2.1,(f b hb).2.1,(f b hb).2.2.2.2.1,(f b hb).2.2.2.2.2⟩
    obtain⟨m4,hn4,_⟩:=I4.loc
    refine hR s.heap.objs.size (s.heap.objs.size+1) s4 _ m4 I5 hn4 (Nat.lt_succ_self _) (λσ' s'' h' I6 hs'=>?_) (qn _ nD4)
    have:=I6.turned (t':=s''.toks) (h':=h') (it:=s.heap.objs.size+1) (λb o hb e=>hs'.extBut b o hb e) (by rw[aJ (Nat.ne_of_gt (Nat.lt_succ_self _))];exact I4.free)
     (Nat.ne_of_gt (Nat.lt_succ_of_lt I.lt)) (.inr (Nat.le_succ_of_le I.sz)) (λx c e=>Nat.ne_of_lt (Nat.lt_succ_of_lt (I.cellLt e))) λp hp z=>?_
    . exact this
    . have:=Heap.lt_size (I.pin p hp).1
      rw[z] at this
      exact absurd this (Nat.not_lt.mpr (Nat.le_succ _))
  . refine thn (T.item (cD X scope N' (s.heap.objs.size+1) { s with heap:=s.heap.push (cA [] 0) } H (s.heap.objs.size::fp)) rfl rfl rfl hc i _ s3 _ H3 _ I3 (fpc _ pl1 fr3) st3 go) λr s4 ⟨u,hr,h4⟩=>?_
    subst hr
    refine thn h4 λ_ s5 ⟨x,H5,I5,r5,y5,st5,fr5⟩=>?_
    obtain⟨hg,ht,he⟩:=hch (s.heap.objs.size+1) { s with heap:=s.heap.push (cA [] 0) } H (s.heap.objs.size::fp)
    have I5':=I5.pinned (fpc _ pl1 fr5) (T.obj _ _ st5)
    have keep:∀{σ7:St} {H7:Hp} {s7:Shared},Inv (cD X scope N' (s.heap.objs.size+1) { s with heap:=s.heap.push (cA [] 0) } H (s.heap.objs.size::fp)) ([(s.heap.objs.size,cA its cnt)]++kL fp s5.heap) σ7 H7 s7 ->
     tn (i+1) s7.heap/\(∀b∈fp,H7 b=none)/\s7.heap.get? s.heap.objs.size=some (cA its cnt)/\H7 s.heap.objs.size=none:=by
     intro σ7 H7 s7 I7
     obtain⟨hD7,nD7,_⟩:=I7.pin (s.heap.objs.size,cA its cnt) (by simp[cD])
     refine⟨T.keep _ _ _ st5 λb hb o e=>(I7.pin (b,o) (List.mem_append_right _ (List.mem_append_right _ (eE hb e)))).1,λb hb=>?_,hD7,nD7⟩
     obtain⟨o,e,d⟩:=T.obj _ _ st5 b hb
     exact(I7.pin (b,o) (List.mem_append_right _ (List.mem_append_right _ (eE hb e)))).2.1
    refine thn (hg _ s5 _ H5 x u _ I5' r5 (step x H5 y5)) λ_ s6 ⟨σ6,H6,I6,q6⟩=>?_
    refine thn (ht _ s6 σ6 H6 _ I6 q6) λb s7 ⟨H7,I7,q7⟩=>?_
    cases b with
    | false=>
     rw[if_neg bN] at q7 ⊢
     obtain⟨m',hm,w7⟩:=q7
     obtain⟨t7,f7,d7,n7⟩:=keep I7
     exact⟨m',hm,i+1,ys,its,cnt,σ6,H7,pinD I7 d7 n7,t7,f7,rv3,w7⟩
    | true=>
     rw[if_pos rfl] at q7 ⊢
     refine thn (he _ s7 σ6 H7 _ I7 q7) λyv s8 ⟨y,H8,I8,r8,q8⟩=>?_
     obtain⟨m',hm,w8⟩:=q8
     obtain⟨t8,f8,d8,n8⟩:=keep I8
     have hl:=rv3.length
     have hzv:its.toArray.size<=sizeLine:=by rw[List.size_toArray];omega
     refine call_meets F.slot_list_append ⟨_,d8,rfl⟩ F.entry_list_append (F.args_list_append_2 _ _) (PySem.list_append s.heap.objs.size its.toArray cnt yv hzv) ⟨d8,?_⟩
     have q:=PySem.IsL.update d8 (λa=>a.push yv)
     have e':its.toArray.push yv=(its++[yv]).toArray:=by simp
     rw[e'] at q
     have I9:=(I8.unpinned (pins:=[(s.heap.objs.size,cA its cnt)])).pins_of (pins':=[]) (λp hp=>absurd hp (by simp))
     have I10:=I9.turned (t':=s8.toks) (it:=s.heap.objs.size) (h':=s8.heap.update s.heap.objs.size (Obj.mapSeq λa=>a.push yv)) (λb o hb e=>(Heap.get?_update_other s8.heap _ (Ne.symm hb)).trans e) n8
      (Nat.ne_of_lt (Nat.lt_succ_self _)) (.inl List.mem_cons_self) (λx c e=>Nat.ne_of_lt (I.cellLt (bI hh e))) (λp hp=>absurd (show p∈([]:List (Addr×Obj)) from by simpa[cD] using hp) (by simp))
     refine⟨m',hm,i+1,ys++[y],its++[yv],_,σ6,H8,pinD I10 q n8,?_,f8,rv3.append (.cons r8 .nil),w8⟩
     refine T.keep _ _ _ t8 λb hb o e=>(Heap.get?_update_other s8.heap _ ?_).trans e
     intro z
     exact absurd (hf b hb) (by rw[<-z];exact Nat.lt_irrefl _)
 have startC:∀C,C=s.heap.objs.size+1->codeAny (model X.prog X.w) X.A (.compLoop (.ListComp elt [⟨tg,iter,ifs,0⟩] scope pos) 0 (.ref it) (.ref s.heap.objs.size) (compEnvC scope (gE X.env.cells scope.names []) C X.env))
  (RR (.ref s.heap.objs.size) C) { s with heap:=h₁,toks:=s.toks+([]:List (Str×Value)).length }:=by
  rintro C rfl
  exact start
 exact codeAny_compStart_list (startC _ hsz) (T.self X.A 0 _ _ _ (T.keep _ _ _ st λb _ o e=>hk b o (Heap.get?_push_of_some _ e)) (startC _ hsz))
end
section
variable {X:Cx} {scope:Scope} {k:Nat} {caps:List Nat} {N':List Str} {tg iter elt:Expr} {ifs:List Expr} {pos:Pos} {wi:TI} {g:TG} {tt:TT} {te:TE}
theorem vT(CS:bU X scope k caps N')(hc:X.calm=true)(hi:PI X tg iter wi)
 (hch:∀C s₀ H₀ ex,PG (cD X scope N' C s₀ H₀ ex) tg g/\PTs (cD X scope N' C s₀ H₀ ex) ifs tt/\PE (cD X scope N' C s₀ H₀ ex) elt te) (hs:∀x,foldedSetIterable iter X.env x=pure x) :
 PE X (.ListComp elt [⟨tg,iter,ifs,0⟩] scope pos) (aAB k caps wi g tt te):=by
 intro pins s σ H Q I h
 rw[eval_ListComp]
 refine wpAny_comprehension_free (use:=none) rfl hs (eU λn hn=>I.ok.has n (CS.free n hn)) CS.kind CS.loc (thn (hi pins s σ H _ I h) λxv s1 h1=>thn h1 λitv s2 h2=>?_)
 obtain⟨it,fp,tn,J,H2,e,I2,T,st2,f2,hw⟩:=h2
 subst e
 exact sA (RR:=λacc C=>compPost (model X.prog X.w) X.A X.xe none (EP X pins σ Q) acc C) (Q:=Q) CS hc I2 T st2 f2 hch hw λD C s' H' m J hn _ hall q=>⟨m,hn,λh' hs'=>⟨.ref D,H',hall σ s' h' J hs',rfl,q⟩⟩
theorem uJ{i:Nat}{x:Str}{pos' spos:Pos}(CS:bU X scope k caps N')(hc:X.calm=true)(hi:PI X tg iter wi)
 (hch:∀C s₀ H₀ ex,PG (cD X scope N' C s₀ H₀ ex) tg g/\PTs (cD X scope N' C s₀ H₀ ex) ifs tt/\PE (cD X scope N' C s₀ H₀ ex) elt te) (hs:∀x,foldedSetIterable iter X.env x=pure x)
 (hN:X.N.Nodup) (hx':X.N[i]? = some x) (hx:Loc X.env.scope x) (hf:X.fn x=true\/X.env.scope.names.lookup x=some .local) :
 PS X (.Assign [.Name x pos'] (.ListComp elt [⟨tg,iter,ifs,0⟩] scope pos) spos) (aCb (aAB k caps wi g tt te) (nK i)):=by
 have hb:∃b,swapsWith (.ListComp elt [⟨tg,iter,ifs,0⟩] scope pos) (some (.Name x pos')) spos.line X.env=pure b:=⟨_,rfl⟩
 obtain⟨b,hb⟩:=hb
 cases b with
 | false=>exact pC hN hx' hx (vT CS hc hi hch hs) hb hf
 | true=>
  intro pins s σ H D I h
  rw[exec_Assign_Name_used x pos' _ spos hb]
  refine wpAny_bind (wpAny_standAt (wpAny_bind ?_))
  show wpAny _ _ (comprehension (.ListComp elt [⟨tg,iter,ifs,0⟩] scope pos) scope X.env (firstIterPos [⟨tg,iter,ifs,0⟩] pos) (newList []) (firstAsync [⟨tg,iter,ifs,0⟩]) (firstIter [⟨tg,iter,ifs,0⟩] X.env) (some (assign (.Name x pos') X.env)) >>= λ_=>pure ()) _ _ s
  refine wpAny_bind (wpAny_comprehension_free (use:=some (assign (.Name x pos') X.env)) rfl hs (eU λn hn=>I.ok.has n (CS.free n hn)) CS.kind CS.loc (thn (hi pins s σ H _ I h) λxv s1 h1=>thn h1 λitv s2 h2=>?_))
  obtain⟨it,fp,tn,J,H2,e,I2,T,st2,f2,hw⟩:=h2
  subst e
  refine sA (Q:=λv H'=>D.nx (σ.set i (some v)) H') (RR:=λacc C=>compPost (model X.prog X.w) X.A X.xe (some (assign (.Name x pos') X.env)) (λ_ s'=>wpAny (model X.prog X.w) X.A (pure ()) (λ_ s'=>wpAny (model X.prog X.w) X.A (pure Flow.next) (SP X pins D) X.xe s') X.xe s') acc C) CS hc I2 T st2 f2 hch hw λD' C s' H' m J hn lt hall q=>?_
  show wpAny _ _ (assign (.Name x pos') X.env (.ref D')) _ _ s'
  refine wpAny_assign_Name (nJ (v:=V.ref D') J hN hx' hx rfl (λs'' J' hsb=>?_) hf)
  obtain⟨a,sb,ha⟩:=hsb
  refine⟨m,hn.sameBut sb ?_,λh' hs'=>?_⟩
  . rcases ha with z|z
    . rw[z];exact Nat.ne_of_gt (Nat.lt_trans I2.lt lt)
    . exact Nat.ne_of_gt (Nat.lt_trans (I2.cellLt z) lt)
  . exact wpAny_pure (wpAny_pure ⟨_,H',hall _ s'' h' J' hs',q⟩)
end
end L2
end
noncomputable section
namespace Hp
open PySem PySem.Spec PyProof.Rows L2
noncomputable def Rr(K:Fg)(H H':Hp)(Y:Addr->Prop)(r:Rt)(u:V):Prop:=
 if r.2.1=true then ∃a xs ds,u=.ref a/\r.1=.lst ds/\H a=none/\H' a=some (.lst xs)/\Reps K H' (λb=>b=a\/Y b\/(r.2.2=false/\H b≠none)) ds xs
 else Rep K H' (λb=>Y b\/(r.2.2=false/\H b≠none)) r.1 u
noncomputable def spF(K:Fg)(P:Pg)(n:Nat)(f:Nat):Sp:=λvs H Q _=>∃(ds:List D) (Y:Addr->Prop),(∀a,Y a->H a≠none)/\Reps K H Y ds vs/\RE (call P n f ds) λr=>∀u H',Tk K H'->aH H H'->Rr K H H' Y r u->Q u H'
noncomputable def bltNames:List Str:=["len", "list", "tuple", "min", "max", "abs", "int", "str", "sum", "all", "any", "sorted", "bool", "range", "zip", "enumerate", "reversed", "set", "isinstance", "dict", "repr"]
structure Md (X:Cx) (P:Pg) (Γ:Ct) (n:Nat):Prop where
 fn:∀(f:Nat) (x:Str),Γ.fns[f]? = some x->∃fa fd ps,X.mg x=some (.ref fa)/\PySem.W.keepIn X.K (.ref fa)=true/\gH X.K fd ps []/\jS X.prog X.w X.K X.mg X.base CX0 n fa fd ps (spF X.K P n f)
 blt:∀x∈bltNames,X.mg x=none
 cns:∀(x:Str) (d:D),Γ.cns.lookup x=some d->∃u v,X.mg x=some u/\aR v u/\∀H ex,Rep X.K H ex d v
 tab:∀(i:Nat) (x:Str),Γ.tbs[i]? = some x->∃a t,X.mg x=some (.ref a)/\P.tabs[i]? = some t/\aAv X.prog X.w X.K a t
structure Mc (X:Cx) (P:Pg) (Γ:Ct) (n:Nat):Prop where
 md:Md X P Γ n
 N:X.N=Γ.N
 nd:X.N.Nodup
 sc:X.env.scope.names=Γ.sc
 calm:X.calm=true
 room:gK n X.A
 xe:X.xe=λ_ _=>False
 st:∀x:Str,rT Γ x=true->X.fn x=true\/X.env.scope.names.lookup x=some .local
 fk:X.env.scope.kind=.function
section
variable {X:Cx} {P:Pg} {Γ:Ct} {n:Nat}
theorem Mc.units(M:Mc X P Γ n):X.A.units+200<cLine:=by have:=M.room.un;omega
theorem Mc.vis(M:Mc X P Γ n){x:Str}(h:aAq Γ x=true):Vis X.env.scope x:=by
 unfold aAq at h
 unfold Vis
 rw[M.sc]
 cases q:Γ.sc.lookup x with
 | none=>rw[q] at h;cases h
 | some k=>rw[q] at h;cases k <;> first|exact .inl rfl|exact .inr (.inl rfl)|exact .inr (.inr rfl)|cases h
theorem Mc.loc(M:Mc X P Γ n){x:Str}(h:rT Γ x=true):L2.Loc X.env.scope x:=by
 unfold rT at h
 unfold L2.Loc
 rw[M.sc]
 cases q:Γ.sc.lookup x with
 | none=>rw[q] at h;cases h
 | some k=>rw[q] at h;cases k <;> first|exact .inl rfl|exact .inr rfl|cases h
theorem Mc.gl(M:Mc X P Γ n){x:Str}(h:cC Γ x=true):Gl X x:=by
 unfold cC at h
 unfold Gl
 show X.env.scope.names.lookup x=_
 rw[M.sc]
 cases q:Γ.sc.lookup x with
 | none=>rw[q] at h;cases h
 | some k=>rw[q] at h;cases k <;> first|rfl|cases h
theorem aN{x:Str}(h:bR x=true):(x==("__debug__" : Str))=false:=by
 unfold bR at h
 simp only[bA,Bool.not_eq_true'] at h
 exact h.1
theorem cI{x:Str}(h:bR x=true):(x==("__classdict__" : Str))=false:=by
 unfold bR at h
 simp only[bA,Bool.not_eq_true'] at h
 exact h.2
theorem aEY:∀{d d':D},eqK d d'=true->d=d':=by
 intro d d' h
 cases d <;> cases d' <;> simp[eqK] at h <;> first|rfl|(subst h;rfl)
noncomputable def aQ:Expr->Bool
 | .Starred _ _=>false
 | .Slice _ _ _ _=>false
 | .Set _ _ _=>false
 | _=>true
theorem aAD{α:Type}{o:Option α}{f:α->Bool}(h:oB o f=true):∃a,o=some a/\f a=true:=by
 cases o with
 | none=>cases h
 | some a=>exact⟨a,rfl,h⟩
theorem aD{α:Type}{q:α->Prop}{o:Option { a:α // q a }}{f:α->Bool}(h:oS o f=true):∃a,q a/\f a=true:=by
 cases o with
 | none=>cases h
 | some a=>exact⟨a.1,a.2,h⟩
theorem aL{c:E}{e:Expr}(h:aK Γ c e=true):aQ e=true:=by
 cases c with
 | c d=>
  rcases(Bool.or_eq_true _ _).mp (show(oS (asC e) (eqC d)||oS (asN e) λx=>cC Γ x&&bR x&&oB (Γ.cns.lookup x) (eqK d))=true from h) with h|h
  . obtain⟨_,⟨_,_,rfl⟩,_⟩:=aD h;rfl
  . obtain⟨_,⟨_,rfl⟩,_⟩:=aD h;rfl
 | v i=>obtain⟨_,⟨_,rfl⟩,_⟩:=aD h;rfl
 | op o a b=>obtain⟨_,⟨_,rfl⟩,_⟩:=aD h;rfl
 | neg _=>cases h
 | nt a=>obtain⟨_,⟨_,rfl⟩,_⟩:=aD h;rfl
 | an a b=>obtain⟨_,rfl,_⟩:=aD h;rfl
 | orr a b=>obtain⟨_,rfl,_⟩:=aD h;rfl
 | ife t a b=>obtain⟨_,⟨_,rfl⟩,_⟩:=aD h;rfl
 | cmp o a b=>obtain⟨_,⟨_,rfl⟩,_⟩:=aD h;rfl
 | dnin _ _=>cases h
 | dget _ _=>cases h
 | dlen _=>cases h
 | din a j=>obtain⟨_,⟨_,rfl⟩,_⟩:=aD h;rfl
 | dgd j a d=>obtain⟨_,⟨_,_,rfl,_⟩,_⟩:=aD h;rfl
 | srtD j=>obtain⟨_,⟨_,_,rfl⟩,_⟩:=aD h;rfl
 | sop o a b=>obtain⟨_,⟨_,_,rfl⟩,_⟩:=aD h;rfl
 | cmp2 _ _ _ _ _=>cases h
 | idx a b=>obtain⟨_,⟨_,rfl⟩,_⟩:=aD h;rfl
 | sli a lo hi=>obtain⟨_,⟨_,rfl⟩,_⟩:=aD h;rfl
 | tup es=>obtain⟨_,⟨_,_,rfl⟩,_⟩:=aD h;rfl
 | lst es=>obtain⟨_,⟨_,rfl⟩,_⟩:=aD h;rfl
 | call f es=>obtain⟨_,⟨_,_,rfl⟩,_⟩:=aD h;rfl
 | bi b es=>obtain⟨_,⟨_,_,rfl⟩,_⟩:=aD h;rfl
 | mth _ _ _=>cases h
 | isi a cs=>obtain⟨_,⟨_,_,rfl⟩,_⟩:=aD h;rfl
 | comp k caps t it cond elt=>obtain⟨_,⟨_,rfl⟩,_⟩:=aD h;rfl
 | numset _=>cases h
 | tget _ _=>cases h
 | lzip _ _=>cases h
 | dic ks vs=>cases h
 | attr _ _=>cases h
theorem aB{e:Expr}{es:List Expr}{env:Env}(h:aQ e=true):starEach (e::es) env=(false,eval e env)::starEach es env:=by
 cases e <;> first|rfl|cases h
theorem fE:∀{cs:Es} {es:List Expr},chkEs Γ cs es=true->es.all aQ=true
 | .nil,[],_=>rfl
 | .nil,_::_,h=>by cases h
 | .cons _ _,[],h=>by cases h
 | .cons c cs,e::es,h=>by
  simp only[chkEs,bA] at h
  rw[List.all_cons,aL h.1,fE h.2]
  rfl
theorem cZ{pos:Pos}{env:Env}:∀{es:List Expr},es.all aQ=true->(backTo pos (starEach es env)).any (·.1)=false
 | [],_=>rfl
 | e::es,h=>by
  rw[List.all_cons,bA] at h
  rw[aB h.1]
  show(false||(backTo pos (starEach es env)).any (·.1))=false
  rw[cZ h.2]
  rfl
theorem uK{e:Expr}(h:aQ e=true):vH e:=by
 intro o i
 cases e <;> first|rfl|cases h
theorem iY{e:Expr}{env:Env}(h:aQ e=true):∀x,foldedSetIterable e env x=pure x:=by
 intro x
 cases e <;> first|rfl|cases h
theorem iB{op:CmpOp}{e:Expr}(h:aQ e=true):behindInMarks op e=false:=by
 cases e <;> first|rfl|cases h
variable {RT Y old:Addr->Prop} {σ:Sg} {pos:Pos}
abbrev WE(X:Cx)(P:Pg)(n:Nat)(RT Y old:Addr->Prop)(σ:Sg)(c:E):TE:=wE X P (call P n) RT Y old σ c
abbrev WT(X:Cx)(P:Pg)(n:Nat)(RT Y old:Addr->Prop)(σ:Sg)(c:E):TT:=wT X P (call P n) RT Y old σ c
abbrev WA(X:Cx)(P:Pg)(n:Nat)(RT Y old:Addr->Prop)(σ:Sg)(c:Es):TA:=wA X P (call P n) RT Y old σ c
theorem RE.bind'{α β:Type}{x:R α}{f:α->R β}{p:β->Prop}(h:RE (x >>= f) p):RE x λa=>RE (f a) p:=by rwa [RE.bind] at h
theorem wE.one{a:E}{σV:L2.St}{H:Hp}{p:Vl->Prop}{Q:V->Hp->Prop}(S:Sx X.K RT Y old σ σV H)(h:RE (ev P (call P n) σ a) p)
 (f:∀x u H',p x->Tk X.K H'->Sx X.K RT Y old σ σV H'->Ro X.K RT Y old σ σV H H' x u->Q u H'):WE X P n RT Y old σ a σV H Q:=
 ⟨S,h.mono λx hx u H' t r=>f x u H' hx t (S.grow r.1 t) r⟩
theorem aJC{o:Operator}{a b:E}{ea eb:Expr}(ha:PE X ea (WE X P n RT Y old σ a))(hb:PE X eb (WE X P n RT Y old σ b)):PE X (.BinOp ea o eb pos) (WE X P n RT Y old σ (.op o a b)):=by
 intro pins s σV H Q I hw
 obtain⟨S,h⟩:=hw
 have h:=RE.bind' (show RE (ev P (call P n) σ a >>= λx=>ev P (call P n) σ b >>= λy=>opD o x y) _ from h)
 refine wpAny_BinOp (thn (ha pins s σV H (λux H1=>WE X P n RT Y old σ b σV H1 λuy H2=>∃x y,Sx X.K RT Y old σ σV H2/\aH H H2/\Rv X.K RT Y old σ σV H2 x ux/\Rv X.K RT Y old σ σV H2 y uy/\(x.fr=true->∃a xs,ux=.ref a/\H2 a=some (.lst xs))/\RE (opD o x y) (Wn X RT Y old σ σV H Q)) I
  (wE.one S h λx u H1 hx t1 S1 r1=>wE.one S1 (RE.bind' hx) λy u' H2 hy t2 S2 r2=>⟨x,y,S2,r1.1.trans r2.1,(r1.rv S).grow r2.1,r2.rv S1,λhf=>?_,hy⟩)) λv s1 ⟨x',H1,I1,rx,q1⟩=>thn (hb pins s1 σV H1 _ I1 q1) λu s2 ⟨y',H2,I2,ry,q2⟩=>?_)
 . have:=r1.2
   rw[if_pos hf] at this
   obtain⟨a',xs,ds,e1,_,_,e4,_⟩:=this
   exact⟨a',xs,e1,r2.1 _ _ e4⟩
 . obtain⟨x,y,S2,sm,hx,hy,hf,h⟩:=q2
   exact aAx I2 S2 rx ry hx hy hf (h.mono λv hv u H' t r=>hv u H' t (r.from sm))
theorem aAE{H:Hp}{σV:L2.St}{x:Vl}{u:V}{k:Bool}(hx:Rv X.K RT Y old σ σV H x u)(h:yE x.d=some k):aCf X.K u H k:=by
 unfold yE at h
 split at h
 . rename_i d;rw[hx.non d];exact(Option.some.inj h).symm
 . rename_i b d;rw[hx.bl d];exact(Option.some.inj h).symm
 . rename_i i d;rw[hx.int d];exact(Option.some.inj h).symm
 . rename_i z d
   by_cases hl:z.length<=lim
   . rw[if_pos hl] at h
     rw[hx.str d]
     refine⟨cT hl,?_⟩
     rw[<-Option.some.inj h]
     cases hz:z.length with
     | zero=>rfl
     | succ m=>simp;omega
   . rw[if_neg hl] at h;cases h
 . rename_i ds d
   obtain⟨a,xs,e,q,r⟩:=hx.tup d
   rw[e]
   refine .inr (.inl ⟨xs,q,?_⟩)
   rw[<-Option.some.inj h]
   have:=r.length
   cases ds <;> cases xs <;> first|rfl|(simp at this)
 . rename_i ds d
   obtain⟨a,xs,e,q,_,r⟩:=hx.lst d
   rw[e]
   refine .inl ⟨xs,q,?_⟩
   rw[<-Option.some.inj h]
   have:=r.length
   cases ds <;> cases xs <;> first|rfl|(simp at this)
 . cases h
theorem RE.tru{x:Vl}{p:Bool->Prop}(h:RE (dQ x) p):∃k,yE x.d=some k/\p k:=by
 unfold dQ at h
 cases q:yE x.d with
 | none=>rw[q] at h;exact h.elim
 | some k=>rw[q] at h;exact⟨k,rfl,h⟩
theorem aHe{a:E}{ea:Expr}(ha:PE X ea (WE X P n RT Y old σ a)):PE X (.UnaryOp .Not ea pos) (WE X P n RT Y old σ (.nt a)):=by
 intro pins s σV H Q I hw
 obtain⟨S,h⟩:=hw
 have h:=RE.bind' (show RE (ev P (call P n) σ a >>= λx=>dQ x >>= λk=>R.ok (Vl.cl (.bl (!k)))) _ from h)
 refine UnaryOp_ (thn (ha pins s σV H (λu H1=>∃k,aCf X.K u H1 k/\Q (.bl (!k)) H1) I (wE.one S h λx u H1 hx t1 S1 r1=>?_)) λv s1 ⟨u,H1,I1,ru,k,hk,q⟩=>?_)
 . obtain⟨k,hk,hp⟩:=RE.tru (RE.bind' hx)
   exact⟨k,aAE (r1.rv S) hk,(show Wn X RT Y old σ σV H Q (Vl.cl (.bl (!k))) from hp) _ _ t1 (Ro.cl r1.1 rfl)⟩
 . refine not_of (thn (zR pins s1 σV H1 u v (λk' H'=>k'=k/\H'=H1) I1 ru ⟨k,hk,rfl,rfl⟩) λb s2 ⟨H2,I2,e1,e2⟩=>?_)
   subst e1 e2
   exact⟨.bl (!b),H2,I2,rfl,q⟩
theorem nS{c:E}{e:Expr}(ha:PE X e (WE X P n RT Y old σ c))(he:∀whole,isTrue e X.env whole=(do let v<-whole;standAt e.pos;holding [v] (truthy v)))
 (hc:∀p,RE (tst P (call P n) σ c) p->RE (ev P (call P n) σ c) λx=>RE (dQ x) p):PT X e (WT X P n RT Y old σ c):=by
 refine(zS ha he).imp λσV H Q t ⟨S,h⟩=>?_
 refine wE.one S (hc _ h) λx u H1 hx t1 S1 r1=>?_
 obtain⟨k,hk,hp⟩:=RE.tru hx
 exact⟨k,aAE (r1.rv S) hk,λt'=>hp _ t' r1.1⟩
theorem aHf{a b:E}{ea eb:Expr}{r:List Expr}(ha:PE X ea (WE X P n RT Y old σ a))(hb:PE X (.BoolOp .And (eb::r) pos) (WE X P n RT Y old σ b)):PE X (.BoolOp .And (ea::eb::r) pos) (WE X P n RT Y old σ (.an a b)):=by
 refine(aEo ha hb).imp λσV H Q t ⟨S,h⟩=>?_
 have h:=RE.bind' (show RE (ev P (call P n) σ a >>= λx=>(match x.d with|.bl true=>ev P (call P n) σ b|.bl false=>R.ok (Vl.cl (.bl false))|_=>.bad)) _ from h)
 refine wE.one S h λx u H1 hx t1 S1 r1=>?_
 split at hx
 . rename_i d1
   refine⟨true,(r1.rv S).bl d1,?_⟩
   rw[if_pos rfl]
   exact⟨S1,hx.mono λv hv u H' t r=>λ_=>hv u H' t (r.from r1.1)⟩
 . rename_i d1
   refine⟨false,(r1.rv S).bl d1,?_⟩
   rw[if_neg bN]
   exact λt'=>hx _ _ t' (Ro.cl r1.1 rfl)
 . exact hx.elim
theorem aDP{a b:E}{ea eb:Expr}{r:List Expr}(ha:PE X ea (WE X P n RT Y old σ a))(hb:PE X (.BoolOp .Or (eb::r) pos) (WE X P n RT Y old σ b)):PE X (.BoolOp .Or (ea::eb::r) pos) (WE X P n RT Y old σ (.orr a b)):=by
 refine(aGq ha hb).imp λσV H Q t ⟨S,h⟩=>?_
 have h:=RE.bind' (show RE (ev P (call P n) σ a >>= λx=>(match x.d with|.bl true=>R.ok (Vl.cl (.bl true))|.bl false=>ev P (call P n) σ b|_=>.bad)) _ from h)
 refine wE.one S h λx u H1 hx t1 S1 r1=>?_
 split at hx
 . rename_i d1
   refine⟨true,(r1.rv S).bl d1,?_⟩
   rw[if_pos rfl]
   exact λt'=>hx _ _ t' (Ro.cl r1.1 rfl)
 . rename_i d1
   refine⟨false,(r1.rv S).bl d1,?_⟩
   rw[if_neg bN]
   exact⟨S1,hx.mono λv hv u H' t r=>λ_=>hv u H' t (r.from r1.1)⟩
 . exact hx.elim
theorem aHg{t a b:E}{et ea eb:Expr}(ht:PT X et (WT X P n RT Y old σ t))(ha:PE X ea (WE X P n RT Y old σ a))(hb:PE X eb (WE X P n RT Y old σ b)):PE X (.IfExp et ea eb pos) (WE X P n RT Y old σ (.ife t a b)):=by
 refine(zK ht ha hb).imp λσV H Q t0 ⟨S,h⟩=>?_
 have h:=RE.bind' (show RE (tst P (call P n) σ t >>= λx=>if x=true then ev P (call P n) σ a else ev P (call P n) σ b) _ from h)
 refine⟨S,h.mono λk hk H1 t1 s1=>?_⟩
 cases k with
 | true=>rw[if_pos rfl] at hk ⊢;exact⟨S.grow s1 t1,hk.mono λv hv u H' t r=>λ_=>hv u H' t (r.from s1)⟩
 | false=>rw[if_neg bN] at hk ⊢;exact⟨S.grow s1 t1,hk.mono λv hv u H' t r=>λ_=>hv u H' t (r.from s1)⟩
noncomputable def w2(X:Cx)(P:Pg)(n:Nat)(RT Y old:Addr->Prop)(σ:Sg)(σV:L2.St)(H:Hp)(p:Vl->Vl->Prop)(ux uy:V)(H2:Hp):Prop:=
 ∃x y,Sx X.K RT Y old σ σV H2/\aH H H2/\Rv X.K RT Y old σ σV H2 x ux/\Rv X.K RT Y old σ σV H2 y uy/\p x y
theorem vU(M:Mc X P Γ n)(o:CmpOp):OpR X (compareOp o) (λux uy H Q=>∃(σ:Sg) (σV:L2.St) (x y:Vl) (k:Bool),Rv X.K RT Y old σ σV H x ux/\Rv X.K RT Y old σ σV H y uy/\bZ o x.d y.d=some k/\Q (.bl k) H):=by
 intro pins s σV H ux uy v u Q I rx ry h
 obtain⟨σ',σV',x,y,k,hx,hy,hk,q⟩:=h
 exact yH I M.units rx ry hx hy hk q
theorem aHh(M:Mc X P Γ n){o:CmpOp}{a b:E}{ea eb:Expr}(ha:PE X ea (WE X P n RT Y old σ a))(hb:PE X eb (WE X P n RT Y old σ b))(hp:aQ eb=true):PE X (.Compare ea [o] [eb] pos) (WE X P n RT Y old σ (.cmp o a b)):=by
 refine(vE (vU (RT:=RT) (Y:=Y) (old:=old) M o) ha hb (iB hp)).imp λσV H Q t ⟨S,h⟩=>?_
 have h:=RE.bind' (show RE (ev P (call P n) σ a >>= λx=>ev P (call P n) σ b >>= λy=>(match bZ o x.d y.d with|some k=>R.ok (Vl.cl (.bl k))|none=>.bad)) _ from h)
 refine wE.two S (h.mono λx hx=>RE.bind' hx) λx y ux uy H2 hp t2 s2 S2 hx hy=>?_
 split at hp
 . rename_i k hk
   exact⟨σ,σV,x,y,k,hx,hy,hk,λt'=>hp _ _ t' (Ro.cl s2 rfl)⟩
 . exact hp.elim
theorem aHi(M:Mc X P Γ n){o:CmpOp}{a b:E}{ea eb:Expr}(ha:PE X ea (WE X P n RT Y old σ a))(hb:PE X eb (WE X P n RT Y old σ b))(hp:aQ eb=true):PT X (.Compare ea [o] [eb] pos) (WT X P n RT Y old σ (.cmp o a b)):=by
 refine(vF (vU (RT:=RT) (Y:=Y) (old:=old) M o) ha hb (iB hp)).imp λσV H Q t ⟨S,h⟩=>?_
 have h:=RE.bind' (show RE (ev P (call P n) σ a >>= λx=>ev P (call P n) σ b >>= λy=>(match bZ o x.d y.d with|some k=>R.ok k|none=>.bad)) _ from h)
 refine wE.two S (h.mono λx hx=>RE.bind' hx) λx y ux uy H2 hp t2 s2 S2 hx hy=>?_
 split at hp
 . rename_i k hk
   exact⟨σ,σV,x,y,k,hx,hy,hk,k,rfl,λt'=>hp _ t' s2⟩
 . exact hp.elim
theorem lE{K:Fg}{H:Hp}{ex:Addr->Prop}:∀{ds:List D} {ns:List Int} {xs:List V},bB ds=some ns->Reps K H ex ds xs->xs=ns.map V.int
 | [],ns,xs,h,r=>by cases h;exact r
 | d::ds,ns,xs,h,r=>by
  obtain⟨x,r',e,h1,h2⟩:=r
  subst e
  cases d with
  | int i=>
   unfold bB at h
   split at h
   . rename_i ms q
     cases h
     rw[show x=.int i from h1,lE q h2]
     rfl
   . cases h
  | _=>cases h
theorem lF{K:Fg}{H:Hp}{ex:Addr->Prop}:∀{ds:List D} {k:NK} {xs:List V},kX ds=some k->Reps K H ex ds xs->∃bs:List Addr,xs=bs.map V.ref/\Paired (λis c=>SqT K H c (is.map V.int)) k bs
 | [],k,xs,h,r=>by cases h;exact⟨[],r,.nil⟩
 | d::ds,k,xs,h,r=>by
  obtain⟨x,r',e,h1,h2⟩:=r
  subst e
  cases d with
  | tup as=>
   unfold kX at h
   split at h
   . rename_i a q e1 e2
     cases h
     obtain⟨bs,rfl,p⟩:=lF e2 h2
     obtain⟨c,ys,rfl,q1,q2⟩:=h1
     rw[lE e1 q2] at q1
     exact⟨c::bs,rfl,.cons q1 p⟩
   . cases h
  | _=>cases h
theorem lG{K:Fg}{H:Hp}{ex:Addr->Prop}{d:D}{k:NK}{u:V}(h:dE d=some k)(r:Rep K H ex d u):∃b,u=.ref b/\aT K H k b:=by
 cases d with
 | tup ds=>
  obtain⟨b,xs,rfl,q,r⟩:=r
  obtain⟨bs,rfl,p⟩:=lF (show kX ds=some k from h) r
  exact⟨b,rfl,bs,q,p⟩
 | _=>cases h
theorem vV{xs:List NE}{ks:List (NK×D)}(h:xs.map pj=ks.map kV):xs.map (·.1)=ks.map (·.1):=by
 have:=congrArg (List.map (·.1)) h
 rw[List.map_map,List.map_map] at this
 exact this
theorem vW{K:Fg}{H:Hp}{ex:Addr->Prop}{d:D}(h:fA d=true):Rep K H ex d (dV d):=by
 cases d <;> first|rfl|cases h
theorem aHj{a b:E}{ea eb:Expr}(ha:PE X ea (WE X P n RT Y old σ a))(hb:PE X eb (WE X P n RT Y old σ b))(hp:aQ eb=true):PE X (.Subscript ea eb pos) (WE X P n RT Y old σ (.idx a b)):=by
 refine(aGM aEI ha hb (uK hp)).imp λσV H Q t ⟨S,h⟩=>?_
 have h:=RE.bind' (show RE (ev P (call P n) σ a >>= λx=>ev P (call P n) σ b >>= λy=>dW x y) _ from h)
 refine wE.two S (h.mono λx hx=>RE.bind' hx) λx y ux uy H2 hp t2 s2 S2 hx hy=>?_
 exact yI t2 hx hy (hp.mono λv hv u H' t r=>hv u H' t (r.from s2))
theorem aAF:PA X [] (WA X P n RT Y old σ .nil):=iT.imp λσV H Q t ⟨S,h⟩ t'=>h [] H t' (aH.refl H) rfl
theorem pR{c:E}{cs:Es}{e:Expr}{es:List Expr}(ha:PE X e (WE X P n RT Y old σ c))(hr:PA X es (WA X P n RT Y old σ cs))(hp:aQ e=true):PA X (e::es) (WA X P n RT Y old σ (.cons c cs)):=by
 refine(eF ha hr (aB hp)).imp λσV H Q t ⟨S,h⟩=>?_
 have h:=RE.bind' (show RE (ev P (call P n) σ c >>= λx=>evs P (call P n) σ cs >>= λxs=>R.ok (x::xs)) _ from h)
 refine wE.one S h λx u H1 hx t1 S1 r1=>⟨S1,(RE.bind' hx).mono λvs hv us H2 t2 s2 r2 t'=>?_⟩
 exact hv (u::us) H2 t' (r1.1.trans s2) ⟨u,us,rfl,(r1.rv S).grow s2,r2⟩
theorem pS:∀{cs:Es} {es:List Expr} {vs:List Vl},chkEs Γ cs es=true->evs P (call P n) σ cs=.ok vs->vs.length=es.length
 | .nil,[],vs,_,h=>by cases(show R.ok []=R.ok vs from h);rfl
 | .nil,_::_,_,h,_=>by cases h
 | .cons _ _,[],_,h,_=>by cases h
 | .cons c cs,e::es,vs,hc,h=>by
  simp only[chkEs,bA] at hc
  have h:(ev P (call P n) σ c >>= λx=>evs P (call P n) σ cs >>= λxs=>R.ok (x::xs))=R.ok vs:=h
  cases q1:ev P (call P n) σ c with
  | ok x=>
   cases q2:evs P (call P n) σ cs with
   | ok xs=>
    rw[q1] at h
    have h:(evs P (call P n) σ cs >>= λxs=>R.ok (x::xs))=R.ok vs:=h
    rw[q2] at h
    cases(show R.ok (x::xs)=R.ok vs from h)
    rw[lC,lC,pS hc.2 q2]
   | exc z=>rw[q1] at h;have h:(evs P (call P n) σ cs >>= λxs=>R.ok (x::xs))=R.ok vs:=h;rw[q2] at h;cases h
   | bad=>rw[q1] at h;have h:(evs P (call P n) σ cs >>= λxs=>R.ok (x::xs))=R.ok vs:=h;rw[q2] at h;cases h
  | exc z=>rw[q1] at h;cases h
  | bad=>rw[q1] at h;cases h
theorem RE.eq{α:Type}{x:R α}{p:α->Prop}(h:RE x p):∃a,x=.ok a/\p a:=by
 cases x with
 | ok a=>exact⟨a,rfl,h⟩
 | exc e=>exact h.elim
 | bad=>exact h.elim
theorem aHk{cs:Es}{es:List Expr}{k:Nat}(ha:PA X es (WA X P n RT Y old σ cs))(hc:chkEs Γ cs es=true)(hl:es.length<=1000):PE X (.Tuple es k pos) (WE X P n RT Y old σ (.tup cs)):=by
 refine(aEB ha).imp λσV H Q t ⟨S,h⟩=>?_
 have h:=RE.bind' (show RE (evs P (call P n) σ cs >>= λvs=>R.ok (kW vs)) _ from h)
 obtain⟨vs,e,hv⟩:=h.eq
 refine⟨S,?_⟩
 show RE (evs P (call P n) σ cs) _
 rw[e]
 intro us H1 t1 s1 r1
 have hn:us.length<=sizeLine:=by rw[<-r1.length,pS hc e,sizeLine_eq];omega
 exact⟨hn,λp hp t'=>(show Wn X RT Y old σ σV H Q (kW vs) from hv) _ _ t' ((Ro.tup hp rfl rfl r1.all).from s1)⟩
theorem aHl{cs:Es}{es:List Expr}(ha:PA X es (WA X P n RT Y old σ cs))(hc:chkEs Γ cs es=true)(hl:es.length<=1000):PE X (.List es pos) (WE X P n RT Y old σ (.lst cs)):=by
 refine(aEC ha).imp λσV H Q t ⟨S,h⟩=>?_
 have h:=RE.bind' (show RE (evs P (call P n) σ cs >>= λvs=>R.ok (cB vs)) _ from h)
 obtain⟨vs,e,hv⟩:=h.eq
 refine⟨S,?_⟩
 show RE (evs P (call P n) σ cs) _
 rw[e]
 intro us H1 t1 s1 r1
 have hn:us.length<=sizeLine:=by rw[<-r1.length,pS hc e,sizeLine_eq];omega
 exact⟨hn,λp hp t'=>(show Wn X RT Y old σ σV H Q (cB vs) from hv) _ _ t' ((Ro.fresh hp t' rfl rfl (S.grow s1 t1) r1.all).from s1)⟩
theorem aCH:∀b:Bi,aAr b=true->bootBuiltins (gL b)=some (aDO b):=by
 intro b hb
 cases b <;> first|kernel_rfl|cases hb
theorem lH:∀b:Bi,gL b∈bltNames:=by
 intro b
 cases b <;> decide +kernel
theorem nT:∀b:Bi,gL b ≠ "__name__" := by
 intro b
 cases b <;> decide +kernel
theorem aJD(M:Mc X P Γ n){b:Bi}{cs:Es}{x:Str}{p:Pos}{e:Expr}{es:List Expr}(hb:aAr b=true)(hx:gL b=x)(hg:cC Γ x=true)(ho:bR x=true)(ha:PA X (e::es) (WA X P n RT Y old σ cs))(hp:(e::es).all aQ=true) :
 PE X (.Call (.Name x p) (e::es) [] pos) (WE X P n RT Y old σ (.bi b cs)):=by
 subst hx
 have hp':aQ e=true/\es.all aQ=true:=by simpa using hp
 have body:∀(f:PE X (.Call (.Name (gL b) p) (e::es) [] pos) (tCB (rBi X b) (WA X P n RT Y old σ cs))),PE X (.Call (.Name (gL b) p) (e::es) [] pos) (WE X P n RT Y old σ (.bi b cs)):=λf=>f.imp λσV H Q t ⟨S,h⟩=>by
  have h:=RE.bind' (show RE (evs P (call P n) σ cs >>= λvs=>biD b vs) _ from h)
  refine⟨S,h.mono λvs hv us H1 t1 s1 r1=>?_⟩
  exact aAA hb (S.grow s1 t1) r1 (hv.mono λv hv u H' t r=>hv u H' t (r.from s1))
 refine body ?_
 have r:=aCE M.calm M.room.gd M.units b hb
 have bo:=aCH b hb
 cases b with
 | len=>exact zW r (M.gl hg) (M.md.blt _ (lH _)) bo ha (nT _) (aN ho) (aB hp'.1) (cZ hp'.2)
 | list=>exact xY r (M.gl hg) (M.md.blt _ (lH _)) bo ha (nT _) (aN ho) (aB hp'.1) (cZ hp'.2)
 | _=>cases hb
theorem aCI{σV:L2.St}{H H1 H':Hp}{vs:List Vl}{r:Rt}{u:V}(S1:Sx X.K RT Y old σ σV H1)(s1:aH H H1)(s':aH H1 H')(h:Rr X.K H1 H' (λb=>H1 b≠none/\exV RT Y old σ σV (dH vs) (bK vs) b) r u) :
 Ro X.K RT Y old σ σV H H' (eW vs r) u:=by
 obtain⟨d,fr,pa⟩:=r
 have key:∀b,exV RT Y old σ σV (eW vs (d,fr,pa)).pa (eW vs (d,fr,pa)).al b->(H1 b≠none/\exV RT Y old σ σV (dH vs) (bK vs) b)\/(pa=false/\H1 b≠none):=by
  intro b z
  have tk:=exV.trk S1 z
  cases pa with
  | true=>exact .inl ⟨tk,z⟩
  | false=>exact .inr ⟨rfl,tk⟩
 have efr:(eW vs (d,fr,pa)).fr=fr:=by unfold eW;split <;> rfl
 have ed:(eW vs (d,fr,pa)).d=d:=by unfold eW;split <;> rfl
 refine⟨s1.trans s',?_⟩
 rw[efr]
 unfold Rr at h
 cases fr with
 | true=>
  rw[if_pos rfl] at h ⊢
  obtain⟨a,xs,ds,e1,e2,e3,e4,rr⟩:=h
  exact⟨a,xs,ds,e1,by rw[ed];exact e2,s1.free e3,e4,rr.weak λb z=>z.elim (λz=>.inl z) λz=>.inr (key b z)⟩
 | false=>
  rw[if_neg bN] at h ⊢
  unfold Rv
  rw[ed]
  exact Rep.weak h key
theorem aAG{f:Nat}{cs:Es}{σV:L2.St}{H:Hp}{Q:VK}(S:Sx X.K RT Y old σ σV H)(h:RE (ev P (call P n) σ (.call f cs)) (Wn X RT Y old σ σV H Q)) :
 WA X P n RT Y old σ cs σV H λus H1=>spF X.K P n f (us++[]) H1 (λv H'=>Tk X.K H'->Q v H') E0:=by
 have h:=RE.bind' (show RE (evs P (call P n) σ cs >>= λvs=>call P n f (vs.map (·.d)) >>= λr=>R.ok (eW vs r)) _ from h)
 refine⟨S,h.mono λvs hv us H1 t1 s1 r1=>?_⟩
 have S1:=S.grow s1 t1
 refine⟨vs.map (·.d),λb=>H1 b≠none/\exV RT Y old σ σV (dH vs) (bK vs) b,λa z=>z.1,by rw[List.append_nil];exact r1.all.weak λa z=>z.2,(RE.bind' hv).mono λr hr u H' t' s' rr _=>?_⟩
 exact(show Wn X RT Y old σ σV H Q (eW vs r) from hr) u H' t' (aCI S1 s1 s' rr)
theorem aEZ(M:Mc X P Γ n){f:Nat}{cs:Es}{x:Str}{p:Pos}{es:List Expr}(hf:Γ.fns[f]? = some x)(hg:cC Γ x=true)(ho:bR x=true)(ha:PA X es (WA X P n RT Y old σ cs))(hp:es.all aQ=true)(hc:chkEs Γ cs es=true) :
 PE X (.Call (.Name x p) es [] pos) (WE X P n RT Y old σ (.call f cs)):=by
 obtain⟨fa,fd,ps,h1,h2,h3,h4⟩:=M.md.fn f x hf
 cases es with
 | cons e es=>
  have hp':aQ e=true/\es.all aQ=true:=by simpa using hp
  exact(aCh h4 M.room (M.gl hg) h1 h2 h3 .nil aDD ha (aN ho) (aB hp'.1) (cZ hp'.2)).imp λσV H Q t ⟨S,h⟩=>aAG S h
 | nil=>
  cases cs with
  | cons _ _=>cases hc
  | nil=>
   refine(zV h4 M.room (M.gl hg) h1 h2 h3 .nil aDD (aN ho)).imp λσV H Q t ⟨S,h⟩=>?_
   exact(aAG S h).2 [] H t (aH.refl H) rfl
theorem yM{c:Cl}{cv:Value}{x:Str}(hc:rZ c=some cv)(hx:uF Γ c=some x):bootBuiltins x=some cv/\x∈bltNames/\x ≠ "__name__" := by
 cases c <;> cases hc <;> cases hx <;> exact⟨by kernel_rfl,by decide +kernel,by decide +kernel⟩
theorem aHm(M:Mc X P Γ n){a:E}{c:Cl}{cv:Value}{f x:Str}{pf py:Pos}{ea:Expr}(hf:f=("isinstance" : Str))(hg:cC Γ f=true)(hc:rZ c=some cv)(hx:uF Γ c=some x)(hgx:cC Γ x=true)(hox:bR x=true)
 (ha:PE X ea (WE X P n RT Y old σ a)) (hp:aQ ea=true):PE X (.Call (.Name f pf) [ea,.Name x py] [] pos) (WE X P n RT Y old σ (.isi a [c])):=by
 subst hf
 intro pins s σV H Q I hw
 obtain⟨S,h⟩:=hw
 have h:=RE.bind' (show RE (ev P (call P n) σ a >>= λx=>(match isI [c] P x.d with|some k=>R.ok (Vl.cl (.bl k))|none=>.bad)) _ from h)
 obtain⟨b1,b2,b3⟩:=yM hc hx
 refine wpAny_Call_Name_kw (dP I (M.gl hg) (M.md.blt _ (by decide +kernel)) (show bootBuiltins "isinstance" = some (.builtin "isinstance") by kernel_rfl) ?_ (by decide +kernel) (by decide +kernel))
 refine PyProof.Rows.callWith_builtin1 ?_ (aB hp) rfl
 rw[aB hp]
 show wpAny _ _ (spliced ((false,eval ea X.env)::backTo pos (starEach [.Name x py] X.env))) _ _ s
 refine Calls.spliced_cons (thn (ha pins s σV H (λu H1=>∃y k,Rv X.K RT Y old σ σV H1 y u/\isI [c] P y.d=some k/\Q (.bl k) H1) I (wE.one S h λy u H1 hy t1 S1 r1=>?_)) λv s1 ⟨u,H1,I1,ru,y,k,hy,hk,q⟩=>?_)
 . split at hy
   . rename_i k hk
     exact⟨y,k,r1.rv S,hk,(show Wn X RT Y old σ σV H Q (Vl.cl (.bl k)) from hy) _ _ t1 (Ro.cl r1.1 rfl)⟩
   . exact hy.elim
 . show wpAny _ _ (spliced ((false,eval (.Name x py) X.env)::backTo pos (starEach [] X.env))) _ _ s1
   refine Calls.spliced_cons (dP I1 (M.gl hgx) (M.md.blt _ b2) b1 (Calls.spliced_nil ?_) b3 (aN hox))
   exact yL P I1 ru hy hc hk q
end
section
variable {X:Cx} {P:Pg} {n:Nat} {RT Y old:Addr->Prop} {σ:Sg} {pos:Pos}
end
section
variable {X:Cx} {P:Pg} {Γ:Ct} {n:Nat} {RT Y old:Addr->Prop} {σ:Sg} {pos:Pos}
theorem aJE{a:E}{ea:Expr}(ha:PT X ea (WT X P n RT Y old σ a)):PT X (.UnaryOp .Not ea pos) (WT X P n RT Y old σ (.nt a)):=by
 refine(aEn ha).imp λσV H Q t ⟨S,h⟩=>?_
 have h:=RE.bind' (show RE (tst P (call P n) σ a >>= λx=>R.ok (!x)) _ from h)
 exact⟨S,h.mono λk hk H1 t1 s1 t'=>(show ∀H',Tk X.K H'->aH H H'->Q (!k) H' from hk) _ t' s1⟩
theorem aAH{e:Expr}{t t':TT}(h:PW X e t)(f:∀σV H Q,Tk X.K H->t' σV H Q->t σV H λv H'=>Tk X.K H'->Q v H'):PW X e t':=λwh pins s σV H Q I hw=>
 thn (h wh pins s σV H _ I (f σV H Q I.tk hw)) λk s' ⟨H',I',q⟩=>⟨H',I',q I'.tk⟩
theorem aHn{a b:E}{ea eb:Expr}{r:List Expr}(ha:PT X ea (WT X P n RT Y old σ a))(hb:PW X (.BoolOp .And (eb::r) pos) (WT X P n RT Y old σ b)):PW X (.BoolOp .And (ea::eb::r) pos) (WT X P n RT Y old σ (.an a b)):=by
 refine aAH (aEm ha hb) λσV H Q t ⟨S,h⟩=>?_
 have h:=RE.bind' (show RE (tst P (call P n) σ a >>= λx=>if x=true then tst P (call P n) σ b else R.ok false) _ from h)
 refine⟨S,h.mono λk hk H1 t1 s1=>?_⟩
 cases k with
 | true=>rw[if_pos rfl] at hk ⊢;exact⟨S.grow s1 t1,hk.mono λv hv H' t s' _=>hv H' t (s1.trans s')⟩
 | false=>rw[if_neg bN] at hk ⊢;exact λt'=>(show ∀H',Tk X.K H'->aH H H'->Q false H' from hk) _ t' s1
theorem aDQ{a b:E}{ea eb:Expr}{r:List Expr}(ha:PT X ea (WT X P n RT Y old σ a))(hb:PW X (.BoolOp .Or (eb::r) pos) (WT X P n RT Y old σ b)):PW X (.BoolOp .Or (ea::eb::r) pos) (WT X P n RT Y old σ (.orr a b)):=by
 refine aAH (aGo ha hb) λσV H Q t ⟨S,h⟩=>?_
 have h:=RE.bind' (show RE (tst P (call P n) σ a >>= λx=>if x=true then R.ok true else tst P (call P n) σ b) _ from h)
 refine⟨S,h.mono λk hk H1 t1 s1=>?_⟩
 cases k with
 | true=>rw[if_pos rfl] at hk ⊢;exact λt'=>(show ∀H',Tk X.K H'->aH H H'->Q true H' from hk) _ t' s1
 | false=>rw[if_neg bN] at hk ⊢;exact⟨S.grow s1 t1,hk.mono λv hv H' t s' _=>hv H' t (s1.trans s')⟩
noncomputable def wO(X:Cx)(P:Pg)(n:Nat)(RT Y old:Addr->Prop)(σ:Sg)(cs:Es):TO:=λσV H Q=>Sx X.K RT Y old σ σV H/\RE (evs P (call P n) σ cs) λvs=>
 (vs=[]/\∀H',Tk X.K H'->aH H H'->Q none H')\/∃v i,vs=[v]/\v.d=.int i/\∀H',Tk X.K H'->aH H H'->Q (some i) H'
theorem aAI{e:Option Expr}{t t':TO}(h:PO X e t)(f:∀σV H Q,Tk X.K H->t' σV H Q->t σV H λv H'=>Tk X.K H'->Q v H'):PO X e t':=λpins s σV H Q I hw=>
 thn (h pins s σV H _ I (f σV H Q I.tk hw)) λu s' ⟨o,H',I',r,q⟩=>⟨o,H',I',r,q I'.tk⟩
theorem aHo:PO X none (wO X P n RT Y old σ .nil):=aAI aCj λσV H Q t ⟨S,h⟩ t'=>by
 rcases(show([]:List Vl)=[]/\_\/_ from h) with⟨_,q⟩|⟨v,i,e,_⟩
 . exact q H t' (aH.refl H)
 . cases e
theorem aHp{c:E}{e:Expr}(ha:PE X e (WE X P n RT Y old σ c)):PO X (some e) (wO X P n RT Y old σ (.cons c .nil)):=by
 refine aAI (aCk ha) λσV H Q t ⟨S,h⟩=>?_
 have h:=RE.bind' (show RE (ev P (call P n) σ c >>= λx=>evs P (call P n) σ .nil >>= λxs=>R.ok (x::xs)) _ from h)
 refine wE.one S h λx u H1 hx t1 S1 r1=>?_
 rcases(show([x]:List Vl)=[]/\_\/∃v i,([x]:List Vl)=[v]/\_/\_ from hx) with⟨e,_⟩|⟨v,i,e,hd,q⟩
 . cases e
 . cases e
   exact⟨i,(r1.rv S).int hd,λt'=>q _ t' r1.1⟩
theorem aHq{a:E}{lo hi:Es}{ea:Expr}{el eh:Option Expr}{p2:Pos}(ha:PE X ea (WE X P n RT Y old σ a))(hl:PO X el (wO X P n RT Y old σ lo))(hh:PO X eh (wO X P n RT Y old σ hi)) :
 PE X (.Subscript ea (.Slice el eh none p2) pos) (WE X P n RT Y old σ (.sli a lo hi)):=by
 refine(zZ (aEX (X:=X)) ha hl hh).imp λσV H Q t ⟨S,h⟩=>?_
 have h:=RE.bind' (show RE (ev P (call P n) σ a >>= λx=>evs P (call P n) σ lo >>= λl=>evs P (call P n) σ hi >>= λh=>(match l,h with
  | [],[]=>dD x none none
  | [l],[]=>(match l.d with|.int l=>R.iff (aF l) (dD x (some l) none)|_=>.bad)
  | [],[h]=>(match h.d with|.int h=>R.iff (aF h) (dD x none (some h))|_=>.bad)
  | [l],[h]=>(match l.d,h.d with|.int l,.int h=>R.iff (aF l&&aF h) (dD x (some l) (some h))|_,_=>.bad)
  | _,_=>.bad)) _ from h)
 refine wE.one S h λx u H1 hx t1 S1 r1=>?_
 have hx:=RE.bind' hx
 refine⟨S1,hx.mono λl hl=>?_⟩
 have hl:=RE.bind' hl
 have up:∀(L:Option Int) (H2:Hp),Tk X.K H2->aH H1 H2->(RE (evs P (call P n) σ hi) λh=>(h=[]/\RE (dD x L none) (Wn X RT Y old σ σV H Q))\/∃v i,h=[v]/\v.d=.int i/\RE (dD x L (some i)) (Wn X RT Y old σ σV H Q)) ->
  wO X P n RT Y old σ hi σV H2 λhv H3=>aAb X.K u L hv H3 (λv H'=>Tk X.K H'->Q v H')\/aAa X.K u L hv H3 (λv H'=>Tk X.K H'->Q v H')\/rY X.K u L hv H3 (λv H'=>Tk X.K H'->Q v H')\/aAs u L hv H3 (λv H'=>Tk X.K H'->Q v H'):=by
  intro L H2 t2 s2 hh
  refine⟨S1.grow s2 t2,hh.mono λhv hq=>?_⟩
  have fin:∀(U:Option Int) (H3:Hp),Tk X.K H3->aH H2 H3->RE (dD x L U) (Wn X RT Y old σ σV H Q) ->
   aAb X.K u L U H3 (λv H'=>Tk X.K H'->Q v H')\/aAa X.K u L U H3 (λv H'=>Tk X.K H'->Q v H')\/rY X.K u L U H3 (λv H'=>Tk X.K H'->Q v H')\/aAs u L U H3 (λv H'=>Tk X.K H'->Q v H'):=λU H3 t3 s3 hs=>
   yK (S1.grow (s2.trans s3) t3) t3 ((r1.rv S).grow (s2.trans s3)) (hs.mono λv hv u H' t r=>hv u H' t (r.from (r1.1.trans (s2.trans s3))))
  rcases hq with⟨e,hs⟩|⟨v,i,e,hd,hs⟩
  . exact .inl ⟨e,λH3 t3 s3=>fin none H3 t3 s3 hs⟩
  . exact .inr ⟨v,i,e,hd,λH3 t3 s3=>fin (some i) H3 t3 s3 hs⟩
 match l,hl with
 | [],hl=>
  refine .inl ⟨rfl,λH2 t2 s2=>up none H2 t2 s2 (hl.mono λh hh=>?_)⟩
  match h,hh with
  | [],hh=>exact .inl ⟨rfl,hh⟩
  | [h],hh=>
   have hh:RE (match h.d with|.int h=>R.iff (aF h) (dD x none (some h))|_=>.bad) _:=hh
   split at hh
   . rename_i i hd
     exact .inr ⟨h,i,rfl,hd,hh.iff.2⟩
   . exact hh.elim
  | _::_::_,hh=>exact hh.elim
 | [l],hl=>
  have hd:∃i,l.d=.int i:=by
   obtain⟨h,_,hh⟩:=hl.eq
   match h,hh with
   | [],hh=>
    have hh:RE (match l.d with|.int l=>R.iff (aF l) (dD x (some l) none)|_=>.bad) _:=hh
    split at hh
    . rename_i i hd;exact⟨i,hd⟩
    . exact hh.elim
   | [h],hh=>
    have hh:RE (match l.d,h.d with|.int l,.int h=>R.iff (aF l&&aF h) (dD x (some l) (some h))|_,_=>.bad) _:=hh
    split at hh
    . rename_i i j hd _;exact⟨i,hd⟩
    . exact hh.elim
   | _::_::_,hh=>exact hh.elim
  obtain⟨i,hd⟩:=hd
  refine .inr ⟨l,i,rfl,hd,λH2 t2 s2=>up (some i) H2 t2 s2 (hl.mono λh hh=>?_)⟩
  match h,hh with
  | [],hh=>
   have hh:RE (match l.d with|.int l=>R.iff (aF l) (dD x (some l) none)|_=>.bad) _:=hh
   rw[hd] at hh
   exact .inl ⟨rfl,hh.iff.2⟩
  | [h],hh=>
   have hh:RE (match l.d,h.d with|.int l,.int h=>R.iff (aF l&&aF h) (dD x (some l) (some h))|_,_=>.bad) _:=hh
   rw[hd] at hh
   split at hh
   . rename_i i' j e1 e2
     cases e1
     exact .inr ⟨h,j,rfl,e2,hh.iff.2⟩
   . exact hh.elim
  | _::_::_,hh=>exact hh.elim
 | _::_::_,hl=>exact(by
     obtain⟨h,_,hh⟩:=hl.eq
     match h,hh with
     | [],hh=>exact hh.elim
     | [_],hh=>exact hh.elim
     | _::_::_,hh=>exact hh.elim)
end
end Hp
end
noncomputable section
namespace L2
open PySem PySem.Spec PyProof.Rows
set_option maxRecDepth 100000
instance:LawfulBEq Key where
 eq_of_beq:=λ{a b} h=>by
  cases a with
  | inl x=>cases b with
   | inl y=>exact congrArg Sum.inl (eq_of_beq (show(x==y)=true from h))
   | inr y=>cases h
  | inr x=>cases b with
   | inl y=>cases h
   | inr y=>exact congrArg Sum.inr (eq_of_beq (show(x==y)=true from h))
 rfl:=λ{a}=>by
  cases a with
  | inl x=>exact(beq_self_eq_true x:(x==x)=true)
  | inr x=>exact(beq_self_eq_true x:(x==x)=true)
noncomputable def aFa(prog:Program)(w:World)(vs:List Value)(ks:List Key):Prop:=Paired (λv k=>(eD prog w).is k v=true) vs ks
theorem aFa.get{prog:Program}{w:World}:∀{vs:List Value} {ks:List Key},aFa prog w vs ks->∀{i:Nat} {v:Value},vs[i]? = some v->∃k,ks[i]? = some k/\(eD prog w).is k v=true
 | _,_,.nil,_,_,h=>by simp at h
 | _,_,.cons r _,0,_,h=>by simp at h;subst h;exact⟨_,rfl,r⟩
 | _,_,.cons _ t,i+1,v,h=>by
  obtain⟨k,h1,h2⟩:=aFa.get t (i:=i) (v:=v) (by simpa using h)
  exact⟨k,by simpa using h1,h2⟩
section
variable {prog:Program} {w:World} {A:Around} {R:Result->Shared->Prop} {I:Addr} {fp wr:List Addr} {G:Array GenState->Array GenState->Prop} {n:Nat} {P:Nat->Value->Prop} {St:Nat->Shared->Prop}
end
section
variable {prog:Program} {w:World} {A:Around} {E:Value->Shared->Prop} {s:Shared}
end
end L2
end
noncomputable section
namespace Hp
open PySem PySem.Spec PyProof.Rows L2
section
variable {X:Cx} {P:Pg} {Γ:Ct} {n:Nat} {RT Y old:Addr->Prop} {σ:Sg} {pos:Pos} {K:Fg} {H:Hp}
end
end Hp
end
noncomputable section
namespace L2
open PySem PySem.Spec PyProof.Rows
section
variable {X:Cx} {pins:List (Addr×Obj)} {σ:St} {H:Hp} {s:Shared} {h':Heap}
theorem Inv.turns{its:List Addr}{t':Nat}(I:Inv X pins σ H s)(f:∀b∈its,iR X pins H b)(k:∀b o,b∉its->s.heap.get? b=some o->h'.get? b=some o):Inv X pins σ H { s with heap:=h',toks:=t' }:=by
 have nit:∀b u,H b=some u->b∉its:=λb u e z=>by rw[(f b z).1] at e;cases e
 refine I.step (g':=s.gens) (d':=s.drawn) (ch:=its) (λb hb=>?_) (λb o _ _ hc e _=>k b o hc e) (λb o _ _ hc e _=>⟨o.slots,k b o hc e⟩) (λb o _ e n=>n)
  (λb o hc e=>⟨o,k b o hc e⟩) (λb xs e=>e) (λb o u e=>e) (λb ps e=>⟨#[],by rw[e];simp⟩) (λm hm=>?_) (λb u e=>?_) I.bare
 . obtain⟨_,f1,f2,f3,f4,f5⟩:=f b hb
   exact⟨f3,f1,f4,f5⟩
 . obtain⟨o,es,ep,ho,r⟩:=hm
   exact⟨o,es,ep,k _ o (λz=>(f _ z).2.1 rfl) ho,r⟩
 . refine(I.hok b u e).stay (λc v hc q=>k c v ?_ q) (λc q=>q) λc xs q=>q
   rcases hc with z|z
   . rw[z];exact nit b u e
   . exact nit c _ z
noncomputable def Sq(k:Bool)(K:PySem.W.Frag)(H:Hp)(a:Addr)(xs:List V):Prop:=match k with
 | true=>SqL K H a xs
 | false=>SqT K H a xs
noncomputable def uL(k:Bool)(h:Heap)(a:Addr)(its:Array Value):Prop:=match k with
 | true=>h.IsList a its
 | false=>h.IsTuple a its
noncomputable def pT(k:Bool)(h:Heap)(it a:Addr)(i:Nat):Prop:=match k with
 | true=>h.IsListIter it a i
 | false=>h.IsTupleIter it a i
theorem uL.at{k:Bool}{h:Heap}{a:Addr}{its:Array Value}(q:uL k h a its)(e:∀o,h.get? a=some o->h'.get? a=some o):uL k h' a its:=by
 cases k with
 | true=>exact Heap.IsList.at q e
 | false=>exact Heap.IsTuple.at q e
theorem pT.at{k:Bool}{h:Heap}{a it:Addr}{i:Nat}(q:pT k h it a i)(e:∀o,h.get? it=some o->h'.get? it=some o):pT k h' it a i:=by
 cases k with
 | true=>exact Heap.IsListIter.at q e
 | false=>exact Heap.IsTupleIter.at q e
theorem pT.obj{k:Bool}{h:Heap}{a it:Addr}{i:Nat}(q:pT k h it a i):∃o,h.get? it=some o/\∀v,o.data≠.cell v:=by
 cases k with
 | true=>obtain⟨o,e,c,d⟩:=q;exact⟨o,e,λv z=>by rw[d] at z;cases z⟩
 | false=>obtain⟨o,e,c,d⟩:=q;exact⟨o,e,λv z=>by rw[d] at z;cases z⟩
theorem Sq.there{k:Bool}{K:PySem.W.Frag}{a:Addr}{xs:List V}(h:Sq k K H a xs):H a≠none\/∃o,K.lookup a=some o:=by
 cases k with
 | true=>
  rcases h with(h|⟨o,h⟩)|⟨o,its,n,q,_⟩
  . exact .inl (by rw[h];simp)
  . exact .inl (by rw[h];simp)
  . exact .inr ⟨_,q⟩
 | false=>
  rcases h with(h|⟨o,h⟩)|⟨o,its,n,q,_⟩
  . exact .inl (by rw[h];simp)
  . exact .inl (by rw[h];simp)
  . exact .inr ⟨_,q⟩
theorem Inv.sqNe{k:Bool}{a b:Addr}{xs:List V}(I:Inv X pins σ H s)(h:Sq k X.K H a xs)(f:iR X pins H b):a≠b:=by
 intro e
 subst e
 rcases h.there with z|⟨o,z⟩
 . exact z f.1
 . have hb:=I.ok.mod.kin a o z
   rcases f.2.2.2.1 with q|q
   . exact I.ok.noex a o hb q
   . exact absurd (Nat.lt_of_lt_of_le (Heap.lt_size hb) (Nat.le_trans I.ok.bsz q)) (Nat.lt_irrefl _)
end
section
variable {prog:Program} {w:World} {A:Around} {E:Value->Shared->Prop} {s:Shared}
end
structure aHr (z TI TO i1 i2:Addr):Prop where
 TIz:TI≠z
 TOz:TO≠z
 i1z:i1≠z
 i2z:i2≠z
 TITO:TI≠TO
 TIi1:TI≠i1
 TIi2:TI≠i2
 TOi1:TO≠i1
 TOi2:TO≠i2
 i12:i1≠i2
theorem aHr.apart{X:Cx}{pins:List (Addr×Obj)}{σ:St}{H:Hp}{s:Shared}{ka kb:Bool}{a b z TI TO i1 i2:Addr}{xs ys:List V}(F:aHr z TI TO i1 i2)(I:Inv X pins σ H s)(f:∀c∈[z,TI,TO,i1,i2],iR X pins H c)
 (ha:Sq ka X.K H a xs) (hb:Sq kb X.K H b ys):ZipApart z TI TO i1 i2 a b:=
 ⟨F.TIz,F.TOz,F.i1z,F.i2z,F.TITO,F.TIi1,F.TIi2,F.TOi1,F.TOi2,F.i12,I.sqNe ha (f z (by simp)),I.sqNe ha (f TO (by simp)),I.sqNe ha (f i1 (by simp)),I.sqNe ha (f i2 (by simp)),
  I.sqNe hb (f z (by simp)),I.sqNe hb (f TO (by simp)),I.sqNe hb (f i1 (by simp)),I.sqNe hb (f i2 (by simp))⟩
noncomputable def Its(x:Str):It:=⟨λi _=>i<x.cps.size,λi H v H'=>H'=H/\∃c,x.cps[i]? = some c/\v=.str ⟨#[c]⟩,λi _=>x.cps.size<=i⟩
theorem sB{P:Program}{w:World}{K:PySem.W.Frag}{tg:Expr}{it:Addr}{x:Str}{t:Tok}{ty:String}(hn:["enumerate", "zip", "dict_itemiterator", "dict_reverseitemiterator", "odict_iterator", "itertools.zip_longest", "itertools.pairwise"].contains ty=false)
 (W:∀A':Around,A'.handled=none->Walks P w A' it [it] [it] x.cps.size (SignAt x) (λi h=>h.IsStrIter it ty x t i))
 (S:∀(A:Around) (i:Nat) (s:Shared) (Q:Value->Shared->Prop) (E:Value->Shared->Prop),s.heap.IsStrIter it ty x t i->Q (.ref it) s->wpAny (model P w) A (pyIter (.ref it)) Q E s):xR P w K tg (Its x) [it] it (λi h=>i<=x.cps.size/\h.IsStrIter it ty x t i) where
 mem:=by simp
 obj:=λi h st b hb=>by
  have e:b=it:=by simpa using hb
  subst e
  obtain⟨_,o,e,c,d⟩:=st
  exact⟨o,e,λv z=>by rw[d] at z;cases z⟩
 keep:=λi h h' st k=>by
  obtain⟨hi,o,e,c,d⟩:=st
  exact⟨hi,o,k it (by simp) o e,c,d⟩
 item:=by
  intro X hP hw hK hc i pins s σ H E I hf st hg
  subst hP hw hK
  obtain⟨f0,f1,f2,f3,f4,f5⟩:=hf it (by simp)
  refine(W X.A (I.ok.hd hc)).item i s _ _ hg st.2 λv h' tk hv st' kk=>?_
  obtain⟨c,u,hcc,rfl⟩:=hv
  have I1:Inv X pins σ H { s with heap:=h',toks:=tk }:=I.turned (λb o hb e=>kk b o (by simpa using hb) e) f0 f1 f3 f4 f5
  obtain⟨o,e,oc,od⟩:=id st'
  exact⟨_,rfl,kK (s:={ s with heap:=h',toks:=tk }) e oc od hn ⟨.str ⟨#[c]⟩,H,I1,⟨u,rfl⟩,⟨rfl,c,hcc,rfl⟩,⟨hg,st'⟩,λb hb=>(hf b hb).1⟩⟩
 done:=by
  intro X hP hw hK hc i pins s σ H E I hf st hg
  subst hP hw hK
  obtain⟨f0,f1,f2,f3,f4,f5⟩:=hf it (by simp)
  have e:i=x.cps.size:=Nat.le_antisymm st.1 hg
  subst e
  exact(W X.A (I.ok.hd hc)).done s _ _ st.2 λh' tk eb=>⟨rfl,I.turned (λb o hb e=>eb b o (by simpa using hb) e) f0 f1 f3 f4 f5⟩
 self:=λA i s Q E st h=>S A i s Q E st.2 h
theorem aFb{X:Cx}{tg l:Expr}{tl:TE}(hl:PE X l tl):PI X tg l (λσ H R=>tl σ H λx H1=>(∃a,x=.ref a/\(((∃xs,SqL X.K H1 a xs)/\R (Itl X.K a) H1)\/((∃xs,SqT X.K H1 a xs)/\R (Itt X.K a) H1)))\/∃z,x=.str z/\R (Its z) H1):=by
 intro pins s σ H R I h
 refine thn (hl pins s σ H _ I h) λv s1 ⟨x,H1,I1,r1,q1⟩=>?_
 rcases q1 with⟨a,e,q⟩|⟨z,e,q⟩
 . subst e
   cases r1
   rcases q with⟨⟨xs,hq⟩,q⟩|⟨⟨xs,hq⟩,q⟩
   . obtain⟨its,rv,p,hz⟩:=I1.list hq
     refine wpAny_pyIter_list p.isList ?_
     refine⟨s1.heap.objs.size,[s1.heap.objs.size],_,_,H1,rfl,I1.kept (t':=s1.toks) λb o e=>Heap.get?_push_of_some _ e,xS a _,⟨_,Heap.get?_push_size _ rfl,rfl,rfl⟩,λb hb=>?_,q⟩
     have e:b=s1.heap.objs.size:=by simpa using hb
     subst e
     exact I1.fpOk (Nat.le_refl _) (I1.hok.fresh (Nat.le_refl _))
   . obtain⟨its,rv,p,hz⟩:=I1.tuple hq
     refine wpAny_pyIter_tuple (show s1.heap.IsTuple a its.toArray from p) ?_
     refine⟨s1.heap.objs.size,[s1.heap.objs.size],_,_,H1,rfl,I1.kept (t':=s1.toks) λb o e=>Heap.get?_push_of_some _ e,tR a _,⟨_,Heap.get?_push_size _ rfl,rfl,rfl⟩,λb hb=>?_,q⟩
     have e:b=s1.heap.objs.size:=by simpa using hb
     subst e
     exact I1.fpOk (Nat.le_refl _) (I1.hok.fresh (Nat.le_refl _))
 . subst e
   obtain⟨t,rfl⟩:=r1
   cases ha:z.cps.all (·<128) with
   | false=>
    refine wpAny_pyIter_wide ha ⟨s1.heap.objs.size,[s1.heap.objs.size],_,_,H1,rfl,I1.kept (t':=s1.toks) λb o e=>Heap.get?_push_of_some _ e,sB (ty:= "str_iterator") (x:=z) (t:=t) (by decide) (λA' hA=>Walks.strWide hA _ z t) (λA i s Q E st h=>wpAny_pyIter_striter_wide st h),⟨Nat.zero_le _,_,Heap.get?_push_size _ rfl,rfl,rfl⟩,λb hb=>?_,q⟩
    have e:b=s1.heap.objs.size:=by simpa using hb
    subst e
    exact I1.fpOk (Nat.le_refl _) (I1.hok.fresh (Nat.le_refl _))
   | true=>
    refine wpAny_pyIter_ascii ha ⟨s1.heap.objs.size,[s1.heap.objs.size],_,_,H1,rfl,I1.kept (t':=s1.toks) λb o e=>Heap.get?_push_of_some _ e,sB (ty:= "str_ascii_iterator") (x:=z) (t:=t) (by decide) (λA' hA=>Walks.strAscii hA _ z t) (λA i s Q E st h=>wpAny_pyIter_striter_ascii st h),⟨Nat.zero_le _,_,Heap.get?_push_size _ rfl,rfl,rfl⟩,λb hb=>?_,q⟩
    have e:b=s1.heap.objs.size:=by simpa using hb
    subst e
    exact I1.fpOk (Nat.le_refl _) (I1.hok.fresh (Nat.le_refl _))
section
variable {prog:Program} {w:World} {A:Around} {E:Value->Shared->Prop} {s:Shared}
end
abbrev aFc(h:Heap)(z TI TO:Addr)(f0:Value)(f1:Bool):Prop:=
 h.get? z=some { cls:=.type "zip",dict:=none,data:=.fields #[f0,.bool f1,.bool false,.ref TI,.ref TO],slots:=#[] }
section
variable {prog:Program} {w:World} {A:Around} {E:Value->Shared->Prop} {s:Shared}
end
structure aKq (ka kb:Bool) (z TI TO i1 i2 l1 l2 S:Nat) (xs ys:Array Value) (i:Nat) (h:Heap) (acc:Array Value) (c:Nat):Prop where
 zip:(i=0/\IsZip h z TI TO .none/\∃u v,IsPair h TO u v)\/∃(t:Nat) (f:Bool) (ot:Obj),aFc h z TI TO (rawInt t) f/\h.get? t=some ot/\t≠z/\t≠i1/\t≠i2/\t≠S
 TI:IsPair h TI (.ref i1) (.ref i2)
 i1:pT ka h i1 l1 i
 i2:pT kb h i2 l2 i
 l1:uL ka h l1 xs
 l2:uL kb h l2 ys
 lst:h.get? S=some { cls:=.type "list",dict:=none,data:=.seq acc c,slots:=#[] }
 size:h.objs.size=S+1+i
 acc:acc=((List.range i).map λj=>Value.ref (S+1+j)).toArray
 pair:∀j,j<i->∃x y,xs[j]? = some x/\ys[j]? = some y/\IsPair h (S+1+j) x y
section
variable {prog:Program} {w:World} {A:Around} {s:Shared} {R:Result->Shared->Prop}
variable {ka kb:Bool} {z TI TO i1 i2 l1 l2 S:Nat} {xs ys:Array Value}
end
section
variable {prog:Program} {w:World} {A:Around} {E:Value->Shared->Prop} {s:Shared} {R:Result->Shared->Prop}
variable {ka kb:Bool} {z TI TO i1 i2 l1 l2:Nat} {xs ys:Array Value}
structure uM (ka kb:Bool) (z TI TO i1 i2 l1 l2:Nat) (xs ys:Array Value) (h:Heap):Prop where
 zip:IsZip h z TI TO .none
 TI:IsPair h TI (.ref i1) (.ref i2)
 TO:∃u v,IsPair h TO u v
 i1:pT ka h i1 l1 0
 i2:pT kb h i2 l2 0
 l1:uL ka h l1 xs
 l2:uL kb h l2 ys
theorem uM.at{h h':Heap}(Z:uM ka kb z TI TO i1 i2 l1 l2 xs ys h)(k:∀b o,b=z\/b=TI\/b=TO\/b=i1\/b=i2\/b=l1\/b=l2->h.get? b=some o->h'.get? b=some o):uM ka kb z TI TO i1 i2 l1 l2 xs ys h' where
 zip:=k _ _ (by simp) Z.zip
 TI:=k _ _ (by simp) Z.TI
 TO:=let ⟨u,v,q⟩:=Z.TO;⟨u,v,k _ _ (by simp) q⟩
 i1:=Z.i1.at λo e=>k _ _ (by simp) e
 i2:=Z.i2.at λo e=>k _ _ (by simp) e
 l1:=Z.l1.at λo e=>k _ _ (by simp) e
 l2:=Z.l2.at λo e=>k _ _ (by simp) e
end
section
variable {X:Cx} {pins:List (Addr×Obj)} {σ:St} {H H':Hp} {s:Shared} {h':Heap}
structure Lz (H H':Hp) (l:Nat) (xs ys:List V):Prop where
 same:∀b u,H b=some u->H' b=some u
 free:H l=none
 lst:H' l=some (.lst ((List.range (min xs.length ys.length)).map λj=>.ref (l+1+j)))
 pair:∀(j:Nat) (x y:V),xs[j]? = some x->ys[j]? = some y->H' (l+1+j)=some (.tup [x,y])
end
end L2
end
noncomputable section
namespace Hp
open PySem PySem.Spec PyProof.Rows L2
theorem Kp.refl(R:Addr->Prop)(H:Hp):Kp R H H:=λ_ _ h _=>h
theorem Kp.same{R:Addr->Prop}{H H':Hp}(s:aH H H'):Kp R H H':=λa o h _=>s a o h
section
variable {K:Fg} {RT Y old R:Addr->Prop} {σ:Sg} {σV:L2.St} {H H':Hp}
theorem Kp.seqL(k:Kp R H H'){a:Addr}{xs:List V}(n:¬ R a)(h:SqL K H a xs):SqL K H' a xs:=by
 rcases h with(h|⟨o,h⟩)|h
 . exact .inl (.inl (k _ _ h n))
 . exact .inl (.inr ⟨o,k _ _ h n⟩)
 . exact .inr h
theorem Kp.seqT(k:Kp R H H')(hR:∀a,R a->RtO H a){a:Addr}{xs:List V}(h:SqT K H a xs):SqT K H' a xs:=by
 have no:∀{o:HO},H a=some o->(∀ys,o≠.lst ys)->(∀φ,o≠.ext φ)->¬ R a:=λ{o} e n1 n2 z=>by
  rcases hR a z with⟨ys,e'⟩|⟨ys,e'⟩
  . rw[e] at e';cases e';exact n1 _ rfl
  . rw[e] at e';cases e';exact n2 _ rfl
 rcases h with(h|⟨o,h⟩)|h
 . exact .inl (.inl (k _ _ h (no h (λ_ z=>by cases z) λ_ z=>by cases z)))
 . exact .inl (.inr ⟨o,k _ _ h (no h (λ_ z=>by cases z) λ_ z=>by cases z)⟩)
 . exact .inr h
theorem Reps.kp{ex:Addr->Prop}{ds:List D}{xs:List V}(r:Reps K H ex ds xs)(k:Kp R H H')(hR:∀a,R a->RtO H a)(hx:∀a,R a->ex a):Reps K H' ex ds xs:=
 r.keep λa o e hl hn=>k a o e λz=>by
  rcases hR a z with⟨ys,e'⟩|⟨ys,e'⟩
  . rw[e] at e'
    cases e'
    exact hl ys rfl (hx a z)
  . rw[e] at e'
    cases e'
    exact hn _ rfl
theorem Rep.kp{ex:Addr->Prop}{d:D}{x:V}(r:Rep K H ex d x)(k:Kp R H H')(hR:∀a,R a->RtO H a)(hx:∀a,R a->ex a):Rep K H' ex d x:=
 r.keep λa o e hl hn=>k a o e λz=>by
  rcases hR a z with⟨ys,e'⟩|⟨ys,e'⟩
  . rw[e] at e'
    cases e'
    exact hl ys rfl (hx a z)
  . rw[e] at e'
    cases e'
    exact hn _ rfl
noncomputable def rtF(RT:Addr->Prop)(σ:Sg)(σV:L2.St)(al:List Nat)(a:Addr):Prop:=RT a/\¬ alR σ σV al a
theorem dA:∀(al:List Nat) (σ:Sg) (i:Nat),(freeze σ al)[i]? = (σ[i]?).map λs=>if i∈al then s.freeze else s
 | [],σ,i=>by cases q:σ[i]? <;> simp[freeze,q]
 | j::al,σ,i=>by
  rw[freeze,dA al]
  cases qj:σ[j]? with
  | none=>
   simp only
   cases q:σ[i]? with
   | none=>rfl
   | some s=>
    have hne:i≠j:=λe=>by subst e;rw[q] at qj;cases qj
    simp[hne]
  | some sj=>
   simp only
   by_cases hij:i=j
   . subst hij
     have hl:i<σ.length:=(List.getElem?_eq_some_iff.mp qj).1
     rw[List.getElem?_set_self hl,qj]
     simp only[Option.map_some,List.mem_cons,true_or,if_true]
     split
     . cases sj <;> rfl
     . rfl
   . rw[List.getElem?_set_ne (Ne.symm hij)]
     simp[hij]
theorem lI:∀(al:List Nat) (σ:Sg),(freeze σ al).length=σ.length
 | [],σ=>rfl
 | j::al,σ=>by
  rw[freeze,lI al]
  split
  . rw[List.length_set]
  . rfl
theorem freeze_sh{al:List Nat}{i:Nat}{pa:Bool}{d:D}(h:(freeze σ al)[i]? = some (.sh pa d)):σ[i]? = some (.sh pa d)\/∃ds,i∈al/\σ[i]? = some (.own pa ds)/\d=.lst ds:=by
 rw[dA] at h
 cases q:σ[i]? with
 | none=>rw[q] at h;cases h
 | some s=>
  rw[q] at h
  have h:(if i∈al then s.freeze else s)=.sh pa d:=Option.some.inj h
  split at h
  . rename_i hi
    cases s with
    | dead=>cases h
    | sh pa' d'=>cases h;exact .inl rfl
    | own pa' ds'=>cases h;exact .inr ⟨ds',hi,rfl,rfl⟩
    | dct _=>cases h
  . exact .inl (by rw[h])
theorem dB{al:List Nat}{i:Nat}{pa:Bool}{ds:List D}(h:(freeze σ al)[i]? = some (.own pa ds)):σ[i]? = some (.own pa ds)/\i∉al:=by
 rw[dA] at h
 cases q:σ[i]? with
 | none=>rw[q] at h;cases h
 | some s=>
  rw[q] at h
  have h:(if i∈al then s.freeze else s)=.own pa ds:=Option.some.inj h
  split at h
  . cases s <;> cases h
  . rename_i hi
    exact⟨by rw[h],hi⟩
theorem uN{al:List Nat}{i:Nat}{ds:List (NK×D)}(h:(freeze σ al)[i]? = some (.dct ds)):σ[i]? = some (.dct ds):=by
 rw[dA] at h
 cases q:σ[i]? with
 | none=>rw[q] at h;cases h
 | some s=>
  rw[q] at h
  have h:(if i∈al then s.freeze else s)=.dct ds:=Option.some.inj h
  split at h
  . cases s with
    | dct d=>exact congrArg some h
    | _=>cases h
  . rw[h]
theorem Sx.frz(S:Sx K RT Y old σ σV H)(al:List Nat):Sx K (rtF RT σ σV al) Y old (freeze σ al) σV H where
 sh:=λi pa d h=>by
  rcases freeze_sh h with h|⟨ds,hi,ho,e⟩
  . obtain⟨v,h1,h2⟩:=S.sh i pa d h
    exact⟨v,h1,h2.weak λa z=>z.elim (λz=>.inl z.1) .inr⟩
  . subst e
    obtain⟨a,xs,h1,h2,h3,h4,h5⟩:=S.own i pa ds ho
    refine⟨.ref a,h1,a,xs,rfl,SqL.of h2,?_,h5.weak λa z=>z.elim (λz=>.inl z.1) .inr⟩
    rintro (z|z|⟨_,z⟩)
    . exact z.2 ⟨i,hi,⟨pa,ds,ho⟩,h1⟩
    . exact h4 (S.yo a z)
    . exact h4 z
 own:=λi pa ds h=>by
  obtain⟨h,hi⟩:=dB h
  obtain⟨a,xs,h1,h2,h3,h4,h5⟩:=S.own i pa ds h
  refine⟨a,xs,h1,h2,⟨h3,?_⟩,h4,h5.weak λa z=>z.elim (λz=>.inl z.1) .inr⟩
  rintro ⟨j,hj,⟨pa',ds',q⟩,q'⟩
  have:=S.inj i j pa pa' ds ds' a h q h1 q'
  subst this
  exact hi hj
 trk:=λa z=>S.trk a (z.elim (λz=>.inl z.1) .inr)
 yo:=S.yo
 tk:=S.tk
 rt:=λa z=>S.rt a z.1
 inj:=λi j pa pa' ds ds' a h1 h2 h3 h4=>S.inj i j pa pa' ds ds' a (dB h1).1 (dB h2).1 h3 h4
 len:=by rw[lI];exact S.len
 dx:=S.dx.imp id (λ_ _ e=>⟨uN e,rfl⟩) (λ_ _ _ _ _ _ e=>e) (λa xs e z o=>⟨e,z,λ⟨j,_,⟨pa,ds,q⟩,q'⟩=>by
  obtain⟨b,ys,h1,h2,h3,h4,h5⟩:=S.own j pa ds q
  rw[q'] at h1
  cases h1
  rw[e] at h2
  cases h2⟩) λ_ _ r=>r
theorem Tk.new{p:Addr}{o:HO}(t:Tk K H)(h:K.lookup p=none):Tk K (upd H p o):=λb hb=>by
 by_cases e:b=p
 . rw[e];exact h
 . rw[aJ e] at hb;exact t b hb
noncomputable def Nw(K:Fg)(H:Hp)(a:Addr):Prop:=H a=none/\K.lookup a=none
theorem aCJ{a:Addr}{xs:List V}(q:SqL K H a xs):¬ Nw K H a:=by
 rintro ⟨n,k⟩
 rcases q with(q|⟨o,q⟩)|⟨o,its,m,q,_⟩
 . rw[n] at q;cases q
 . rw[n] at q;cases q
 . rw[k] at q;cases q
theorem Reps.outN{ex:Addr->Prop}{d:List D}{v:List V}(h:Reps K H ex d v):Reps K H (λb=>ex b\/Nw K H b) d v:=
 Reps.imp (λ_ _ q=>q) (λb xs nb q=>⟨λz=>z.elim nb (aCJ q),q⟩) (λ_ _ q=>q) d v h
theorem RvN.sub{ex:Addr->Prop}{v:Vl}{d:D}{x:V}(h:Rep K H' (λa=>exV RT Y old σ σV v.pa v.al a\/ex a) d x):Rep K H' (λa=>exV RT Y old σ σV (v.sub d).pa (v.sub d).al a\/ex a) (v.sub d).d x:=by
 unfold Vl.sub
 by_cases hn:noL d=true
 . rw[if_pos hn]
   exact Rep.free d x hn h
 . rw[if_neg hn]
   exact h
structure aAJ (K:Fg) (RT Y old:Addr->Prop) (σ:Sg) (σV:L2.St) (H1:Hp) (J:L2.It) (xs:List Vl) (al:List Nat):Prop where
 sub:∀v∈xs,∀j∈v.al,j∈al
 nofr:∀v∈xs,v.fr=false
 ok:∀(R:Addr->Prop),(∀b,R b->rtF RT σ σV al b)->∀(i:Nat) (H:Hp),Kp R H1 H->(i<xs.length->J.go i H)/\(xs.length<=i->J.stop i H)/\∀x H',J.yld i H x H'->∀v,xs[i]? = some v->aH H H'/\(Tk K H->Tk K H')/\Rep K H' (λa=>exV RT Y old σ σV v.pa v.al a\/Nw K H1 a) v.d x
theorem aAK{v:Vl}{d:D}:∀j∈(v.sub d).al,j∈v.al:=by
 unfold Vl.sub Vl.cl
 split
 . intro j hj;cases hj
 . intro j hj;exact hj
theorem pU{v:Vl}{d:D}:(v.sub d).fr=false:=by
 unfold Vl.sub Vl.cl
 split <;> rfl
theorem nU{x:Vl}{ds:List D}{i:Nat}{v:Vl}(h:(items x ds)[i]? = some v):∃d,ds[i]? = some d/\v=x.sub d:=by
 unfold items at h
 rw[List.getElem?_map] at h
 cases q:ds[i]? with
 | none=>rw[q] at h;cases h
 | some d=>rw[q] at h;exact⟨d,rfl,(Option.some.inj h).symm⟩
theorem uO{al:List Nat}{pa:Bool}{b:Addr}(h:rtF RT σ σV al b):exV RT Y old σ σV pa al b:=.inl h
theorem aCK(S:Sx K RT Y old σ σV H){x:Vl}{ds:List D}{a:Addr}{xs:List V}(q:SqL K H a xs)(n:¬ exV RT Y old σ σV x.pa x.al a)(r:Reps K H (exV RT Y old σ σV x.pa x.al) ds xs) :
 aAJ K RT Y old σ σV H (Itl K a) (items x ds) x.al where
 sub:=λv hv j hj=>by
  obtain⟨d,_,e⟩:=List.mem_map.mp hv
  subst e
  exact aAK j hj
 nofr:=λv hv=>by
  obtain⟨d,_,e⟩:=List.mem_map.mp hv
  subst e
  exact pU
 ok:=λR hR i H1 k=>by
  have q1:SqL K H1 a xs:=k.seqL (λz=>n (uO (hR a z))) q
  have r1:Reps K H1 (λa=>exV RT Y old σ σV x.pa x.al a\/Nw K H a) ds xs:=r.outN.kp k (λb z=>S.rt b (hR b z).1) λb z=>.inl (uO (hR b z))
  have hl:(items x ds).length=xs.length:=by unfold items;rw[lM,r.length]
  refine⟨λhi=>⟨xs,xs[i]'(by omega),q1,List.getElem?_eq_getElem (by omega)⟩,λhi=>⟨xs,q1,by omega⟩,λy H' hy v hv=>?_⟩
  obtain⟨e,hy⟩:=hy
  subst e
  obtain⟨d,hd,e⟩:=nU hv
  subst e
  obtain⟨y',hy',ry⟩:=r1.get hd
  rw[hy xs q1] at hy'
  cases hy'
  exact⟨aH.refl _,id,RvN.sub ry⟩
theorem aFd(S:Sx K RT Y old σ σV H){x:Vl}{ds:List D}{a:Addr}{xs:List V}(q:SqT K H a xs)(r:Reps K H (exV RT Y old σ σV x.pa x.al) ds xs) :
 aAJ K RT Y old σ σV H (Itt K a) (items x ds) x.al where
 sub:=λv hv j hj=>by
  obtain⟨d,_,e⟩:=List.mem_map.mp hv
  subst e
  exact aAK j hj
 nofr:=λv hv=>by
  obtain⟨d,_,e⟩:=List.mem_map.mp hv
  subst e
  exact pU
 ok:=λR hR i H1 k=>by
  have q1:SqT K H1 a xs:=k.seqT (λb z=>S.rt b (hR b z).1) q
  have r1:Reps K H1 (λa=>exV RT Y old σ σV x.pa x.al a\/Nw K H a) ds xs:=r.outN.kp k (λb z=>S.rt b (hR b z).1) λb z=>.inl (uO (hR b z))
  have hl:(items x ds).length=xs.length:=by unfold items;rw[lM,r.length]
  refine⟨λhi=>⟨xs,xs[i]'(by omega),q1,List.getElem?_eq_getElem (by omega)⟩,λhi=>⟨xs,q1,by omega⟩,λy H' hy v hv=>?_⟩
  obtain⟨e,hy⟩:=hy
  subst e
  obtain⟨d,hd,e⟩:=nU hv
  subst e
  obtain⟨y',hy',ry⟩:=r1.get hd
  rw[hy xs q1] at hy'
  cases hy'
  exact⟨aH.refl _,id,RvN.sub ry⟩
theorem aAL{lo:Int}{m:Nat}{xs:List Vl}(hx:xs=((List.range m).map λ(k:Nat)=>Vl.cl (.int (lo+(k:Int))))):aAJ K RT Y old σ σV H (Itr lo m) xs [] where
 sub:=λv hv j hj=>by
  subst hx
  obtain⟨d,_,e⟩:=List.mem_map.mp hv
  subst e
  exact hj
 nofr:=λv hv=>by
  subst hx
  obtain⟨d,_,e⟩:=List.mem_map.mp hv
  subst e
  rfl
 ok:=λR hR i H1 k=>by
  have hl:xs.length=m:=by rw[hx,lM,List.length_range]
  refine⟨λhi=>(show i<m by omega),λhi=>(show m<=i by omega),λy H' hy v hv=>?_⟩
  obtain⟨e,hy⟩:=hy
  subst e hy
  subst hx
  rw[List.getElem?_map] at hv
  have hi:i<m:=by
   have:=(List.getElem?_eq_some_iff.mp (show((List.range m).map λ(k:Nat)=>Vl.cl (.int (lo+(k:Int))))[i]? = some v by rw[List.getElem?_map];exact hv)).1
   simpa using this
  rw[List.getElem?_range hi] at hv
  cases hv
  exact⟨aH.refl _,id,rfl⟩
theorem aFe{z:Str}{xs:List Vl}(hx:xs=(z.cps.toList.map λn=>Vl.cl (.str ⟨#[n]⟩))):aAJ K RT Y old σ σV H (Its z) xs [] where
 sub:=λv hv j hj=>by
  subst hx
  obtain⟨d,_,e⟩:=List.mem_map.mp hv
  subst e
  exact hj
 nofr:=λv hv=>by
  subst hx
  obtain⟨d,_,e⟩:=List.mem_map.mp hv
  subst e
  rfl
 ok:=λR hR i H1 k=>by
  have hl:xs.length=z.cps.size:=by rw[hx,lM,Array.length_toList]
  refine⟨λhi=>(show i<z.cps.size by omega),λhi=>(show z.cps.size<=i by omega),λy H' hy v hv=>?_⟩
  obtain⟨e,c,hc,hy⟩:=hy
  subst e hy
  subst hx
  rw[List.getElem?_map,Array.getElem?_toList,hc] at hv
  cases hv
  exact⟨aH.refl _,id,rfl⟩
end
section
variable {X:Cx} {P:Pg} {Γ:Ct} {n:Nat} {RT Y old:Addr->Prop} {σ:Sg} {tg:Expr}
noncomputable def wI(X:Cx)(P:Pg)(n:Nat)(RT Y old:Addr->Prop)(σ:Sg)(it:Hp.It):TI:=λσV H R=>Sx X.K RT Y old σ σV H/\RE (walk P (call P n) σ it) λxs=>∀J H1,Tk X.K H1->aH H H1->aAJ X.K RT Y old σ σV H1 J xs.1 xs.2->R J H1
theorem uP{iter:Expr}{t t':TI}(h:PI X tg iter t)(f:∀σV H R,Tk X.K H->t' σV H R->t σV H λJ H'=>Tk X.K H'->R J H'):PI X tg iter t':=λpins s σV H R I hw=>
 thn (h pins s σV H _ I (f σV H R I.tk hw)) λv s1 h1=>thn h1 λitv s2 ⟨it,fp,tn,J,H',e,I',T,st,fo,q⟩=>⟨it,fp,tn,J,H',e,I',T,st,fo,q I'.tk⟩
theorem aHs{c:E}{e:Expr}(ha:PE X e (WE X P n RT Y old σ c)):PI X tg e (wI X P n RT Y old σ (.seq c)):=by
 refine uP (aFb ha) λσV H RR t ⟨S,h⟩=>?_
 have h:=RE.bind' (show RE (ev P (call P n) σ c >>= λx=>(match x.d with
  | .lst ds=>R.ok (items x ds,x.al)
  | .tup ds=>R.ok (items x ds,x.al)
  | .str a=>R.iff (decide (a.length<=lim)) (R.ok (a.cps.toList.map λn=>Vl.cl (.str ⟨#[n]⟩),[]))
  | _=>.bad)) _ from h)
 refine wE.one S h λx u H1 hx t1 S1 r1=>?_
 have rv:=r1.rv S
 split at hx
 . rename_i ds d1
   obtain⟨a,xs,e,q,nn,r⟩:=rv.lst d1
   exact .inl ⟨a,e,.inl ⟨⟨xs,q⟩,λt'=>hx _ _ t' r1.1 (aCK S1 q nn r)⟩⟩
 . rename_i ds d1
   obtain⟨a,xs,e,q,r⟩:=rv.tup d1
   exact .inl ⟨a,e,.inr ⟨⟨xs,q⟩,λt'=>hx _ _ t' r1.1 (aFd S1 q r)⟩⟩
 . rename_i z d1
   obtain⟨c,hx⟩:=hx.iff
   exact .inr ⟨z,rv.str d1,λt'=>hx _ _ t' r1.1 (aFe rfl)⟩
 . exact hx.elim
theorem lJ(i j:Int):(eJ i j).map Vl.cl=(List.range (j-i).toNat).map λ(k:Nat)=>Vl.cl (.int (i+(k:Int))):=by
 unfold eJ
 rw[List.map_map]
 rfl
theorem iZ{k:Int}(h:aF k=true):-(2 ^ 62)<=k/\k<2 ^ 62:=by
 unfold aF at h
 simp only[bA,decide_eq_true_eq] at h
 exact h
theorem aFf(M:Mc X P Γ n){b:E}{e:Expr}{f:Str}{p pos:Pos}(hf:f=("range" : Str))(hg:cC Γ f=true)(ha:PE X e (WE X P n RT Y old σ b))(hp:aQ e=true):PI X tg (.Call (.Name f p) [e] [] pos) (wI X P n RT Y old σ (.rng (.c (.int 0)) b)):=by
 subst hf
 refine uP (xT (M.gl hg) (M.md.blt _ (by decide +kernel)) (pR ha aAF hp) (aB hp)) λσV H RR t ⟨S,h⟩=>?_
 have h:RE (ev P (call P n) σ b) λy=>RE (match (D.int 0),y.d with|.int i,.int j=>R.iff (aF i&&aF j) (R.ok ((eJ i j).map Vl.cl,[]))|_,_=>.bad) _:=
  RE.bind' (show RE (ev P (call P n) σ b >>= λy=>(match (D.int 0),y.d with|.int i,.int j=>R.iff (aF i&&aF j) (R.ok ((eJ i j).map Vl.cl,[]))|_,_=>.bad)) _ from h)
 refine⟨S,?_⟩
 show RE (ev P (call P n) σ b >>= λx=>evs P (call P n) σ .nil >>= λxs=>R.ok (x::xs)) _
 rw[RE.bind]
 refine h.mono λy hy=>?_
 split at hy
 . rename_i i j e1 e2
   cases e1
   obtain⟨c,hy⟩:=hy.iff
   rw[bA] at c
   have c2:=iZ c.2
   intro us H1 t1 s1 r1
   obtain⟨u,r',eu,ru,hr⟩:=r1
   rw[show r'=[] from hr] at eu
   subst eu
   refine⟨j,by rw[ru.int e2],c2.1,c2.2,λt'=>hy _ _ t' s1 (aAL ?_)⟩
   rw[lJ]
   simp
 . exact hy.elim
theorem aFg(M:Mc X P Γ n){a b:E}{ea eb:Expr}{f:Str}{p pos:Pos}(hf:f=("range" : Str))(hg:cC Γ f=true)(ha:PE X ea (WE X P n RT Y old σ a))(hb:PE X eb (WE X P n RT Y old σ b))(hpa:aQ ea=true)(hpb:aQ eb=true) :
 PI X tg (.Call (.Name f p) [ea,eb] [] pos) (wI X P n RT Y old σ (.rng a b)):=by
 subst hf
 refine uP (xU (M.gl hg) (M.md.blt _ (by decide +kernel)) (pR ha (pR hb aAF hpb) hpa) (by rw[aB hpa,aB hpb];rfl) (aB hpb)) λσV H RR t ⟨S,h⟩=>?_
 have h:=RE.bind' (show RE (ev P (call P n) σ a >>= λx=>ev P (call P n) σ b >>= λy=>(match x.d,y.d with|.int i,.int j=>R.iff (aF i&&aF j) (R.ok ((eJ i j).map Vl.cl,[]))|_,_=>.bad)) _ from h)
 refine⟨S,?_⟩
 show RE (ev P (call P n) σ a >>= λx=>evs P (call P n) σ (.cons b .nil) >>= λxs=>R.ok (x::xs)) _
 rw[RE.bind]
 refine h.mono λx hx=>?_
 rw[RE.bind]
 show RE (ev P (call P n) σ b >>= λx=>evs P (call P n) σ .nil >>= λxs=>R.ok (x::xs)) _
 rw[RE.bind]
 refine(RE.bind' hx).mono λy hy=>?_
 split at hy
 . rename_i i j e1 e2
   obtain⟨c,hy⟩:=hy.iff
   rw[bA] at c
   have c1:=iZ c.1
   have c2:=iZ c.2
   intro us H1 t1 s1 r1
   obtain⟨u,r',eu,ru,u2,r2,eu2,ru2,hr⟩:=r1
   rw[show r2=[] from hr] at eu2
   subst eu2
   subst eu
   refine⟨i,j,by rw[ru.int e1,ru2.int e2],⟨c1.1,c1.2,c2.1,c2.2⟩,λt'=>hy _ _ t' s1 (aAL ?_)⟩
   rw[lJ]
 . exact hy.elim
end
section
variable {X:Cx} {P:Pg} {n:Nat} {Γ:Ct} {RT Y old:Addr->Prop} {σ:Sg}
end
noncomputable def gs:List Nat->TGs
 | []=>aGw
 | i::is=>aDA (nK i) (gs is)
noncomputable def gT(K:Fg):T->TG
 | .n i=>nK i
 | .t is=>aGx K is.length (gs is)
section
variable {K:Fg} {RT Y old:Addr->Prop} {σ:Sg} {σV:L2.St} {H H':Hp}
theorem set_some{α:Type}{l:List α}{i j:Nat}{x y:α}(e:(l.set i x)[j]? = some y):(i=j/\x=y/\i<l.length)\/(i≠j/\l[j]? = some y):=by
 by_cases hij:i=j
 . subst hij
   have hl:i<(l.set i x).length:=(List.getElem?_eq_some_iff.mp e).1
   rw[List.length_set] at hl
   rw[List.getElem?_set_self hl] at e
   cases e
   exact .inl ⟨rfl,rfl,hl⟩
 . rw[List.getElem?_set_ne hij] at e
   exact .inr ⟨hij,e⟩
theorem Sx.setSh(S:Sx K RT Y old σ σV H){i:Nat}{pa:Bool}{d:D}{u:V}(h:Rep K H (λa=>RT a\/exB Y old pa a) d u):Sx K RT Y old (σ.set i (.sh pa d)) (σV.set i (some u)) H where
 sh:=λj pa' d' e=>by
  rcases set_some e with⟨rfl,e,hl⟩|⟨hij,e⟩
  . cases e
    exact⟨u,List.getElem?_set_self (by rw[<-S.len];exact hl),h⟩
  . obtain⟨v,h1,h2⟩:=S.sh j pa' d' e
    exact⟨v,by rw[List.getElem?_set_ne hij];exact h1,h2⟩
 own:=λj pa' ds e=>by
  rcases set_some e with⟨rfl,e,hl⟩|⟨hij,e⟩
  . cases e
  . obtain⟨a,xs,h1,h2⟩:=S.own j pa' ds e
    exact⟨a,xs,by rw[List.getElem?_set_ne hij];exact h1,h2⟩
 trk:=S.trk
 yo:=S.yo
 tk:=S.tk
 rt:=S.rt
 inj:=λj j' pa' pa'' ds ds' a e1 e2 e3 e4=>by
  rcases set_some e1 with⟨_,e,_⟩|⟨n1,e1⟩
  . cases e
  rcases set_some e2 with⟨_,e,_⟩|⟨n2,e2⟩
  . cases e
  rw[List.getElem?_set_ne n1] at e3
  rw[List.getElem?_set_ne n2] at e4
  exact S.inj j j' pa' pa'' ds ds' a e1 e2 e3 e4
 len:=by rw[List.length_set,List.length_set];exact S.len
 dx:=S.dx.imp id (λj ds e=>by
  rcases set_some e with⟨_,z,_⟩|⟨hij,e⟩
  . cases z
  . exact⟨e,List.getElem?_set_ne hij⟩) (λ_ _ _ _ _ _ e=>e) (λ_ _ e z _=>⟨e,z⟩) λ_ _ r=>r
theorem Rep.out{ex:Addr->Prop}{d:D}{v:V}{a:Addr}(h:Rep K H ex d v)(n:H a=none)(k:K.lookup a=none):Rep K H (λb=>b=a\/ex b) d v:=
 Rep.imp (λ_ _ q=>q) (λb xs nb q=>⟨λz=>z.elim (λz=>by
  subst z
  rcases q with(q|⟨o,q⟩)|⟨o,its,m,q,_⟩
  . rw[n] at q;cases q
  . rw[n] at q;cases q
  . rw[k] at q;cases q) nb,q⟩) (λ_ _ q=>q) d v h
theorem Reps.out{ex:Addr->Prop}{d:List D}{v:List V}{a:Addr}(h:Reps K H ex d v)(n:H a=none)(k:K.lookup a=none):Reps K H (λb=>b=a\/ex b) d v:=
 Reps.imp (λ_ _ q=>q) (λb xs nb q=>⟨λz=>z.elim (λz=>by
  subst z
  rcases q with(q|⟨o,q⟩)|⟨o,its,m,q,_⟩
  . rw[n] at q;cases q
  . rw[n] at q;cases q
  . rw[k] at q;cases q) nb,q⟩) (λ_ _ q=>q) d v h
theorem Sx.storeOwn(S:Sx K RT Y old σ σV H){i:Nat}{a:Addr}{xs:List V}{ds:List D}{pa:Bool}(s:aH H H')(t:Tk K H')(hn:H a=none)(ha:H' a=some (.lst xs))(r:Reps K H' (λb=>(RT b\/b=a)\/exB Y old pa b) ds xs) :
 Sx K (λb=>RT b\/b=a) Y old (σ.set i (.own pa ds)) (σV.set i (some (.ref a))) H' where
 sh:=λj pa' d' e=>by
  rcases set_some e with⟨rfl,e,hl⟩|⟨hij,e⟩
  . cases e
  . obtain⟨v,h1,h2⟩:=S.sh j pa' d' e
    refine⟨v,by rw[List.getElem?_set_ne hij];exact h1,((h2.out hn (t a (by rw[ha];simp))).grow s).weak λb z=>?_⟩
    rcases z with(z|z)|z
    . exact .inr (.inl z)
    . exact .inl z
    . exact .inr (.inr z)
 own:=λj pa' ds' e=>by
  rcases set_some e with⟨rfl,e,hl⟩|⟨hij,e⟩
  . cases e
    exact⟨a,xs,List.getElem?_set_self (by rw[<-S.len];exact hl),ha,.inr rfl,λz=>S.trk a (.inr (.inr z)) hn,r⟩
  . obtain⟨a',xs',h1,h2,h3,h4,h5⟩:=S.own j pa' ds' e
    refine⟨a',xs',by rw[List.getElem?_set_ne hij];exact h1,s _ _ h2,.inl h3,h4,((h5.out hn (t a (by rw[ha];simp))).grow s).weak λb z=>?_⟩
    rcases z with(z|z)|z
    . exact .inr (.inl z)
    . exact .inl z
    . exact .inr (.inr z)
 trk:=λb z q=>by
  rcases z with(z|z)|z
  . exact S.trk b (.inl z) (s.free q)
  . rw[z,ha] at q;cases q
  . exact S.trk b (.inr z) (s.free q)
 yo:=S.yo
 tk:=t
 rt:=λb z=>by
  rcases z with z|z
  . exact(S.rt b z).grow s
  . rw[z];exact .inl ⟨xs,ha⟩
 inj:=λj j' pa' pa'' ds1 ds2 c e1 e2 e3 e4=>by
  have fr:∀{j:Nat} {pa:Bool} {ds:List D},σ[j]? = some (.own pa ds)->σV[j]? = some (some (.ref a))->False:=λ{j pa ds} e q=>by
   obtain⟨a',xs',h1,h2,_⟩:=S.own j pa ds e
   rw[q] at h1
   cases h1
   rw[hn] at h2;cases h2
  rcases set_some e1 with⟨rfl,e,hl⟩|⟨n1,e1⟩
  . rcases set_some e2 with⟨rfl,_,_⟩|⟨n2,e2⟩
    . rfl
    . rw[List.getElem?_set_self (by rw[<-S.len];exact hl)] at e3
      cases e3
      rw[List.getElem?_set_ne n2] at e4
      exact(fr e2 e4).elim
  . rw[List.getElem?_set_ne n1] at e3
    rcases set_some e2 with⟨rfl,e,hl⟩|⟨n2,e2⟩
    . rw[List.getElem?_set_self (by rw[<-S.len];exact hl)] at e4
      cases e4
      exact(fr e1 e3).elim
    . rw[List.getElem?_set_ne n2] at e4
      exact S.inj j j' pa' pa'' ds1 ds2 c e1 e2 e3 e4
 len:=by rw[List.length_set,List.length_set];exact S.len
 dx:=S.dx.imp id (λj ds e=>by
  rcases set_some e with⟨_,z,_⟩|⟨hij,e⟩
  . cases z
  . exact⟨e,List.getElem?_set_ne hij⟩) (λ_ _ _ _ _ _ e=>e) (λb ys e z _=>⟨s _ _ e,.inl z⟩) λ_ _ r=>aH.seqT s r
theorem fT{v:Vl}(h:v.fr=false):v.slot=.sh v.pa v.d:=by
 unfold Vl.slot
 rw[h]
theorem aCL{v:Vl}{ds:List D}(h:v.fr=true)(hd:v.d=.lst ds):v.slot=.own v.pa ds:=by
 unfold Vl.slot
 rw[h,hd]
theorem Sx.store(S:Sx K RT Y old σ σV H){v:Vl}{u:V}(ro:Ro K RT Y old σ σV H H' v u)(t:Tk K H')(i:Nat) :
 ∃RT',Sx K RT' Y old ((freeze σ v.al).set i v.slot) (σV.set i (some u)) H'/\∀b,RT' b->RT b\/H b=none:=by
 by_cases hf:v.fr=true
 . obtain⟨s,h⟩:=ro
   rw[if_pos hf] at h
   obtain⟨a,xs,ds,e1,e2,e3,e4,r⟩:=h
   subst e1
   rw[aCL hf e2]
   refine⟨_,(S.frz v.al).storeOwn s t e3 e4 (r.weak λb z=>?_),λb z=>z.elim (λz=>.inl z.1) λz=>.inr (by rw[z];exact e3)⟩
   rcases z with(z|z)|z
   . exact .inr (.inl z)
   . exact .inl z
   . exact .inr (.inr z)
 . rw[fT (by simpa using hf)]
   exact⟨_,((S.grow ro.1 t).frz v.al).setSh (ro.rv S),λb z=>.inl z.1⟩
theorem aDR:∀{is:List Nat} {us:List V} {σV:L2.St} {H:Hp} {Q:L2.St->Hp->Prop},is.length=us.length->Q ((is.zip us).foldl (λs p=>s.set p.1 (some p.2)) σV) H->gs is us σV H Q
 | [],[],_,_,_,_,h=>⟨rfl,h⟩
 | [],_::_,_,_,_,e,_=>by simp at e
 | _::_,[],_,_,_,e,_=>by simp at e
 | i::is,u::us,σV,H,Q,e,h=>⟨u,us,rfl,aDR (is:=is) (us:=us) (by simpa using e) h⟩
theorem sC{v:Vl}{d:D}:(v.sub d).slot=.sh (!noL d&&v.pa) d:=by
 rw[fT pU]
 unfold Vl.sub Vl.cl
 split
 . rename_i h;rw[h];rfl
 . rename_i h
   have:noL d=false:=by simpa using h
   rw[this];rfl
theorem Sx.setAll{v:Vl}:∀{is:List Nat} {ds:List D} {us:List V} {σ:Sg} {σV:L2.St},Sx K RT Y old σ σV H->Reps K H (λa=>RT a\/exB Y old v.pa a) ds us ->
 Sx K RT Y old ((is.zip ds).foldl (λσ p=>σ.set p.1 (v.sub p.2).slot) σ) ((is.zip us).foldl (λs p=>s.set p.1 (some p.2)) σV) H
 | [],_,_,_,_,S,_=>S
 | _::_,[],us,_,_,S,r=>by rw[show us=[] from r];exact S
 | i::is,d::ds,us,σ,σV,S,r=>by
  obtain⟨x,r',e,h1,h2⟩:=r
  subst e
  refine Sx.setAll (v:=v) (is:=is) (ds:=ds) (us:=r') ?_ h2
  show Sx K RT Y old (σ.set i (v.sub d).slot) (σV.set i (some x)) H
  rw[sC]
  refine S.setSh ?_
  cases hn:noL d with
  | true=>exact Rep.free d x hn h1
  | false=>exact h1
theorem jA{α:Type}{β:Type}(f:β->α):∀{is:List Nat} {bs:List β} {l:List α} {j:Nat},j∉is->((is.zip bs).foldl (λs p=>s.set p.1 (f p.2)) l)[j]? = l[j]?
 | [],_,_,_,_=>rfl
 | _::_,[],_,_,_=>rfl
 | i::is,b::bs,l,j,h=>by
  have h':i≠j/\j∉is:=by
   refine⟨λe=>h (by simp[e]),λz=>h (List.mem_cons_of_mem _ z)⟩
  rw[List.zip_cons_cons,List.foldl_cons,jA f (is:=is) (bs:=bs) h'.2,List.getElem?_set_ne h'.1]
theorem sD{α:Type}{β:Type}(f:β->α):∀{is:List Nat} {bs:List β} {l:List α},((is.zip bs).foldl (λs p=>s.set p.1 (f p.2)) l).length=l.length
 | [],_,_=>rfl
 | _::_,[],_=>rfl
 | i::is,b::bs,l=>by rw[List.zip_cons_cons,List.foldl_cons,sD f (is:=is) (bs:=bs),List.length_set]
theorem fold_mem{α:Type}{β:Type}(f:β->α):∀{is:List Nat} {bs:List β} {l:List α} {j:Nat} {x:α},((is.zip bs).foldl (λs p=>s.set p.1 (f p.2)) l)[j]? = some x->l[j]? = some x\/∃b,x=f b
 | [],_,_,_,_,h=>.inl h
 | _::_,[],_,_,_,h=>.inl h
 | i::is,b::bs,l,j,x,h=>by
  rw[List.zip_cons_cons,List.foldl_cons] at h
  rcases fold_mem f (is:=is) (bs:=bs) h with q|q
  . rcases set_some q with⟨_,e,_⟩|⟨_,e⟩
    . exact .inr ⟨b,e.symm⟩
    . exact .inl e
  . exact .inr q
theorem lK{v:Vl}{is:List Nat}{σ2:Sg}(e:setT σ v (.t is)=.ok σ2):∃ds,v.d=.tup ds/\ds.length=is.length/\σ2=(is.zip ds).foldl (λσ p=>σ.set p.1 (v.sub p.2).slot) σ:=by
 unfold setT at e
 simp only at e
 split at e
 . rename_i ds hd
   split at e
   . rename_i hl
     cases e
     exact⟨ds,hd,hl,rfl⟩
   . cases e
 . cases e
theorem lL{v:Vl}{i:Nat}{σ2:Sg}(e:setT σ v (.n i)=.ok σ2):σ2=σ.set i v.slot:=by
 cases(show R.ok (σ.set i v.slot)=R.ok σ2 from e)
 rfl
theorem aAM{v:Vl}{t:T}{σ2:Sg}{j:Nat}(e:setT σ v t=.ok σ2)(h:j∉tIx t):σ2[j]? = σ[j]? := by
 cases t with
 | n i=>
  rw[lL e]
  exact List.getElem?_set_ne λz=>h (by simp[tIx,z])
 | t is=>
  obtain⟨ds,_,_,e⟩:=lK e
  rw[e]
  exact jA (λd=>(v.sub d).slot) h
theorem aAN{v:Vl}{t:T}{σ2:Sg}(e:setT σ v t=.ok σ2):σ2.length=σ.length:=by
 cases t with
 | n i=>rw[lL e,List.length_set]
 | t is=>
  obtain⟨ds,_,_,e⟩:=lK e
  rw[e]
  exact sD (λd=>(v.sub d).slot)
theorem aAO{v:Vl}{t:T}{σ2:Sg}{j:Nat}{pa:Bool}{ds:List D}(hf:v.fr=false)(e:setT σ v t=.ok σ2)(h:σ2[j]? = some (.own pa ds)):σ[j]? = some (.own pa ds):=by
 cases t with
 | n i=>
  rw[lL e,fT hf] at h
  rcases set_some h with⟨_,e,_⟩|⟨_,e⟩
  . cases e
  . exact e
 | t is=>
  obtain⟨ds',_,_,e⟩:=lK e
  rw[e] at h
  rcases fold_mem (λd=>(v.sub d).slot) h with q|⟨b,q⟩
  . exact q
  . rw[sC] at q;cases q
theorem vX(S:Sx K RT Y old σ σV H){t:T}{v:Vl}{u:V}{Q:L2.St->Hp->Prop}{σ2:Sg}(hfr:v.fr=false)(h:Rep K H (λa=>RT a\/exB Y old v.pa a) v.d u)(e:setT σ v t=.ok σ2)
 (q:∀σ2V,Sx K RT Y old σ2 σ2V H->(∀j,j∉tIx t->σ2V[j]? = σV[j]?)->Q σ2V H):gT K t u σV H Q:=by
 cases t with
 | n i=>
  rw[lL e,fT hfr] at q
  exact q _ (S.setSh h) λj hj=>List.getElem?_set_ne λz=>hj (by simp[tIx,z])
 | t is=>
  obtain⟨ds,hd,hl,e⟩:=lK e
  rw[hd] at h
  obtain⟨a,xs,rfl,hq,r⟩:=h
  have l2:=r.length
  refine⟨a,xs,rfl,hq,by omega,aDR (by omega) (q _ ?_ λj hj=>?_)⟩
  . rw[e];exact S.setAll r
  . exact jA (λd=>some d) hj
end
section
variable {X:Cx} {P:Pg} {Γ:Ct} {n:Nat} {RT Y old:Addr->Prop} {σ:Sg} {tg:Expr} {pos:Pos}
theorem sF(M:Mc X P Γ n):∀{is:List Nat} {es:List Expr},is.length=es.length->((is.zip es).all λp=>match p.2 with|.Name x _=>aZ Γ p.1 x|_=>false)=true ->
 PGs X es (gs is)/\(assignEach es X.env).length=is.length/\(assignEach es X.env).findIdx? (·.1)=none
 | [],[],_,_=>⟨aCa,rfl,rfl⟩
 | [],_::_,e,_=>by simp at e
 | _::_,[],e,_=>by simp at e
 | i::is,e::es,hl,h=>by
  rw[List.zip_cons_cons,List.all_cons,bA] at h
  obtain⟨h1,h2,h3⟩:=sF M (is:=is) (es:=es) (by simpa using hl) h.2
  cases e with
  | Name x p=>
   have hs:aZ Γ i x=true:=h.1
   unfold aZ at hs
   simp only[bA,beq_iff_eq] at hs
   have e1:assignEach (.Name x p::es) X.env=(false,assign (.Name x p) X.env)::assignEach es X.env:=rfl
   refine⟨zP (vD M.nd (by rw[M.N];exact hs.1.1) (M.loc hs.1.2) (M.st x hs.1.2)) h1 (by rw[e1];rfl),?_,?_⟩
   . rw[e1,lC,lC,h2]
   . rw[e1,List.findIdx?_cons]
     simp[h3]
  | _=>cases h.1
theorem aAP(M:Mc X P Γ n){t:T}(h:jV Γ t tg=true):PG X tg (gT X.K t):=by
 cases t with
 | n i=>
  cases tg with
  | Name x p=>
   have hs:aZ Γ i x=true:=h
   unfold aZ at hs
   simp only[bA,beq_iff_eq] at hs
   exact vD M.nd (by rw[M.N];exact hs.1.1) (M.loc hs.1.2) (M.st x hs.1.2)
  | _=>cases h
 | t is=>
  cases tg with
  | Tuple es k p=>
   have h:(is.length==es.length&&(is.zip es).all λp=>match p.2 with|.Name x _=>aZ Γ p.1 x|_=>false)=true:=h
   rw[bA,beq_iff_eq] at h
   obtain⟨h1,h2,h3⟩:=sF M h.1 h.2
   exact aEs M.calm h1 h2 h3
  | _=>cases h
noncomputable def ch0(k:Nat)(caps:List Nat)(σ:Sg):Sg:=List.replicate k .dead++caps.map λi=>(σ[i]?).getD .dead
theorem ch0_get{k:Nat}{caps:List Nat}{σ:Sg}{j:Nat}{s:Sl}(h:(ch0 k caps σ)[j]? = some s):s=.dead\/∃j' i,j=k+j'/\caps[j']? = some i/\σ[i]? = some s:=by
 unfold ch0 at h
 by_cases hj:j<k
 . rw[List.getElem?_append_left (by simpa using hj),List.getElem?_replicate,if_pos hj] at h
   cases h
   exact .inl rfl
 . rw[List.getElem?_append_right (by simpa using hj),List.length_replicate,List.getElem?_map] at h
   cases e:caps[j-k]? with
   | none=>rw[e] at h;cases h
   | some i=>
    rw[e] at h
    have h':(σ[i]?).getD .dead=s:=Option.some.inj h
    cases q:σ[i]? with
    | none=>rw[q] at h';exact .inl h'.symm
    | some z=>rw[q] at h';exact .inr ⟨j-k,i,by omega,e,by rw[q];exact congrArg some h'⟩
theorem aAQ{k:Nat}{caps:List Nat}{σ:Sg}{j:Nat}{s:Sl}(hj:j<k)(h:(ch0 k caps σ)[j]? = some s):s=.dead:=by
 unfold ch0 at h
 rw[List.getElem?_append_left (by simpa using hj),List.getElem?_replicate,if_pos hj] at h
 cases h
 rfl
theorem pV{k:Nat}{caps:List Nat}{σV:L2.St}{j i:Nat}{v:V}(e:caps[j]? = some i)(h:σV[i]? = some (some v)):(gN k caps σV)[k+j]? = some (some v):=by
 unfold gN
 rw[List.getElem?_append_right (by simp),List.length_replicate,List.getElem?_map,Nat.add_sub_cancel_left,e]
 show some ((σV[i]?).getD none)=_
 rw[h];rfl
theorem pW{k:Nat}{caps:List Nat}{σV:L2.St}{j i:Nat}{v:V}(e:caps[j]? = some i)(h:(gN k caps σV)[k+j]? = some (some v)):σV[i]? = some (some v):=by
 unfold gN at h
 rw[List.getElem?_append_right (by simp),List.length_replicate,List.getElem?_map,Nat.add_sub_cancel_left,e] at h
 have h':(σV[i]?).getD none=some v:=Option.some.inj h
 cases q:σV[i]? with
 | none=>rw[q] at h';cases h'
 | some z=>rw[q] at h';exact congrArg some h'
theorem jB{α:Type}:∀{l:List α},l.Nodup->∀{i j:Nat} {x:α},l[i]? = some x->l[j]? = some x->i=j
 | [],_,_,_,_,h,_=>by simp at h
 | a::l,hn,0,0,_,_,_=>rfl
 | a::l,hn,0,j+1,x,h1,h2=>by
  have e:a=x:=by simpa using h1
  have:x∈l:=mG (by simpa using h2)
  subst e
  exact absurd this (List.nodup_cons.mp hn).1
 | a::l,hn,i+1,0,x,h1,h2=>by
  have e:a=x:=by simpa using h2
  have:x∈l:=mG (by simpa using h1)
  subst e
  exact absurd this (List.nodup_cons.mp hn).1
 | a::l,hn,i+1,j+1,x,h1,h2=>congrArg (·+1) (jB (List.nodup_cons.mp hn).2 (i:=i) (j:=j) (x:=x) (by simpa using h1) (by simpa using h2))
theorem Sx.child{K:Fg}{σV:L2.St}{H:Hp}(S:Sx K RT Y old σ σV H){k:Nat}{caps:List Nat}(nd:caps.Nodup):Sx K RT Y old (ch0 k caps σ) (gN k caps σV) H where
 sh:=λj pa d e=>by
  rcases ch0_get e with z|⟨j',i,rfl,hc,hs⟩
  . cases z
  . obtain⟨v,h1,h2⟩:=S.sh i pa d hs
    exact⟨v,pV hc h1,h2⟩
 own:=λj pa ds e=>by
  rcases ch0_get e with z|⟨j',i,rfl,hc,hs⟩
  . cases z
  . obtain⟨a,xs,h1,h2⟩:=S.own i pa ds hs
    exact⟨a,xs,pV hc h1,h2⟩
 trk:=S.trk
 yo:=S.yo
 tk:=S.tk
 rt:=S.rt
 inj:=λj1 j2 pa pa' ds ds' a e1 e2 e3 e4=>by
  rcases ch0_get e1 with z|⟨j1',i1,rfl,hc1,hs1⟩
  . cases z
  rcases ch0_get e2 with z|⟨j2',i2,rfl,hc2,hs2⟩
  . cases z
  have:=S.inj i1 i2 pa pa' ds ds' a hs1 hs2 (pW hc1 e3) (pW hc2 e4)
  subst this
  rw[jB nd hc1 hc2]
 len:=by
  unfold ch0 gN
  rw[lA,lA,lM,lM,List.length_replicate,List.length_replicate]
 dx:=S.dx.imp (λj=>(caps[j-k]?).getD 0) (λj ds e=>by
  rcases ch0_get e with z|⟨j',i,rfl,hc,hs⟩
  . cases z
  . rw[Nat.add_sub_cancel_left,hc]
    refine⟨hs,?_⟩
    obtain⟨a,xs,h1,_⟩:=S.dx.at' i ds hs
    rw[pV hc h1]
    exact h1.symm) (λj1 j2 ds ds' e1 e2 q=>by
  rcases ch0_get e1 with z|⟨j1',i1,rfl,hc1,_⟩
  . cases z
  rcases ch0_get e2 with z|⟨j2',i2,rfl,hc2,_⟩
  . cases z
  rw[Nat.add_sub_cancel_left,Nat.add_sub_cancel_left,hc1,hc2] at q
  have q:i1=i2:=q
  subst q
  rw[jB nd hc1 hc2]) (λ_ _ e z _=>⟨e,z⟩) λ_ _ r=>r
theorem Sx.forget{K:Fg}{σ':Sg}{σV:L2.St}{H:Hp}(S:Sx K RT Y old σ σV H)(hl:σ'.length=σ.length)(h:∀(j:Nat) (s:Sl),σ'[j]? = some s->s=.dead\/σ[j]? = some s):Sx K RT Y old σ' σV H where
 sh:=λj pa d e=>by
  rcases h j _ e with z|z
  . cases z
  . exact S.sh j pa d z
 own:=λj pa d e=>by
  rcases h j _ e with z|z
  . cases z
  . exact S.own j pa d z
 trk:=S.trk
 yo:=S.yo
 tk:=S.tk
 rt:=S.rt
 inj:=λj1 j2 pa pa' ds ds' a e1 e2 e3 e4=>by
  rcases h j1 _ e1 with z|z1
  . cases z
  rcases h j2 _ e2 with z|z2
  . cases z
  exact S.inj j1 j2 pa pa' ds ds' a z1 z2 e3 e4
 len:=by rw[hl];exact S.len
 dx:=S.dx.imp id (λj ds e=>(h j _ e).elim (λz=>by cases z) λz=>⟨z,rfl⟩) (λ_ _ _ _ _ _ e=>e) (λ_ _ e z _=>⟨e,z⟩) λ_ _ r=>r
noncomputable def wTs(X:Cx)(P:Pg)(n:Nat)(RT Y old:Addr->Prop)(σ:Sg)(cs:Es):TT:=λσV H Q=>Sx X.K RT Y old σ σV H/\RE (tsts P (call P n) σ cs) λk=>∀H',Tk X.K H'->aH H H'->Q k H'
theorem aFh:PTs X [] (wTs X P n RT Y old σ .nil):=λpins s σV H Q I ⟨S,h⟩=>aCF pins s σV H Q I ((show ∀H',Tk X.K H'->aH H H'->Q true H' from h) H I.tk (aH.refl H))
theorem aFi{c:E}{e:Expr}(h:PT X e (WT X P n RT Y old σ c)):PTs X [e] (wTs X P n RT Y old σ (.cons c .nil)):=λpins s σV H Q I ⟨S,hh⟩=>aCG h pins s σV H Q I ⟨S,by
 have hh:=RE.bind' (show RE (tst P (call P n) σ c >>= λx=>if x=true then tsts P (call P n) σ .nil else R.ok false) _ from hh)
 refine hh.mono λk hk=>?_
 cases k with
 | true=>exact hk
 | false=>exact hk⟩
theorem Rvs.append{K:Fg}{σV:L2.St}{H:Hp}:∀{vs ws:List Vl} {us zs:List V},Rvs K RT Y old σ σV H vs us->Rvs K RT Y old σ σV H ws zs->Rvs K RT Y old σ σV H (vs++ws) (us++zs)
 | [],_,_,_,h,q=>by rw[show _=[] from h];exact q
 | v::vs,_,_,_,h,q=>by
  obtain⟨u,r,e,h1,h2⟩:=h
  subst e
  exact⟨u,_,rfl,h1,Rvs.append h2 q⟩
noncomputable def lv(k:Nat)(caps al:List Nat)(v:Vl):Vl:=⟨v.d,false,v.pa,al++v.al.filterMap λj=>caps[j-k]?⟩
theorem sG{f:Vl->R (Option Vl)}{x:Vl}{xs rs:List Vl}(h:cE f (x::xs)=.ok rs):∃y ys,f x=.ok y/\cE f xs=.ok ys/\rs=(match y with|some y=>y::ys|none=>ys):=by
 have h:(f x >>= λy=>cE f xs >>= λys=>(match y with|some y=>R.ok (y::ys)|none=>R.ok ys))=R.ok rs:=h
 cases q1:f x with
 | ok y=>
  rw[q1] at h
  have h:(cE f xs >>= λys=>(match y with|some y=>R.ok (y::ys)|none=>R.ok ys))=R.ok rs:=h
  cases q2:cE f xs with
  | ok ys=>
   rw[q2] at h
   refine⟨y,ys,rfl,rfl,?_⟩
   cases y with
   | none=>cases(show R.ok ys=R.ok rs from h);rfl
   | some y=>cases(show R.ok (y::ys)=R.ok rs from h);rfl
  | exc z=>rw[q2] at h;cases h
  | bad=>rw[q2] at h;cases h
 | exc z=>rw[q1] at h;cases h
 | bad=>rw[q1] at h;cases h
theorem R.bind_ok{α β:Type}{x:R α}{f:α->R β}{b:β}(h:(x >>= f)=.ok b):∃a,x=.ok a/\f a=.ok b:=by
 cases x with
 | ok a=>exact⟨a,rfl,h⟩
 | exc z=>cases h
 | bad=>cases h
theorem aAR{k:Nat}{caps:List Nat}{t:T}{it:Hp.It}{cond:Es}{elt:E}(hnd:caps.Nodup)(hk:∀i∈tIx t,i<k){σV:L2.St}{H:Hp}{Q:VK}(hw:WE X P n RT Y old σ (.comp k caps t it cond elt) σV H Q) :
 aAB k caps (wI X P n RT Y old σ it) (gT X.K t) (λσV H Q=>∃RT Y old σ1,wTs X P n RT Y old σ1 cond σV H Q) (λσV H Q=>∃RT Y old σ1,WE X P n RT Y old σ1 elt σV H Q) σV H λv H'=>Tk X.K H'->Q v H':=by
 obtain⟨S,h⟩:=hw
 let f:List Nat->Vl->R (Option Vl):=λal x=>setT (ch0 k caps (freeze σ al)) x t >>= λσ1=>tsts P (call P n) σ1 cond >>= λb=>if b=true then (ev P (call P n) σ1 elt >>= λy=>R.ok (some y)) else R.ok none
 have h:=RE.bind' (show RE (walk P (call P n) σ it >>= λxs=>cE (f xs.2) xs.1 >>= λvs=>R.iff (decide (vs.length<=lim)) (R.ok (hU k caps xs.2 vs))) (Wn X RT Y old σ σV H Q) from h)
 refine⟨S,h.mono λxs hx J H1 t1 s1 ok=>?_⟩
 obtain⟨vs,evs,hv⟩:=(RE.bind' hx).eq
 obtain⟨hl,hq⟩:=hv.iff
 have hl:=of_decide_eq_true hl
 have hq:Wn X RT Y old σ σV H Q (hU k caps xs.2 vs):=hq
 have S1:=S.grow s1 t1
 have Sf:=S1.frz xs.2
 refine⟨λi m ys σ1V Hc=>m=xs.1.length-i/\i<=xs.1.length/\aH H1 Hc/\Tk X.K Hc/\Sx X.K (rtF RT σ σV xs.2) Y old (ch0 k caps (freeze σ xs.2)) σ1V Hc/\(∀j,k<=j->σ1V[j]? = (gN k caps σV)[j]?) /\
  ∃ws rs,vs=ws++rs/\cE (f xs.2) (xs.1.drop i)=.ok rs/\Rvs X.K RT Y old σ σV Hc (ws.map (lv k caps xs.2)) ys,⟨_,rfl,Nat.zero_le _,aH.refl _,t1,Sf.child hnd,λ_ _=>rfl,[],vs,rfl,evs,rfl⟩,?_⟩
 rintro i m ys σ1V Hc ⟨hm,hi,sc,tc,Sc,hcap,ws,rs,evs',ego,rvs⟩
 have okc:=ok.ok (λ_=>False) (λ_ z=>z.elim) i Hc (Kp.same sc)
 have hly:=rvs.length
 rw[lM] at hly
 have hws:ws.length<=vs.length:=by rw[evs',lA];omega
 by_cases hlt:i<xs.1.length
 . refine .inr ⟨okc.1 hlt,by rw[<-hly,sizeLine_eq];have:lim=1000000:=rfl;omega,λx H' hy=>?_⟩
   have hxi:xs.1[i]? = some xs.1[i]:=List.getElem?_eq_getElem hlt
   obtain⟨sm,tkf,rv⟩:=okc.2.2 x H' hy xs.1[i] hxi
   have rv:Rep X.K H' (exV RT Y old σ σV xs.1[i].pa xs.1[i].al) xs.1[i].d x:=Rep.weak rv λa z=>.inl z
   rw[List.drop_eq_getElem_cons hlt] at ego
   obtain⟨yo,ys',ef,ego',ers⟩:=sG ego
   obtain⟨σ1,eσ,ef⟩:=R.bind_ok ef
   obtain⟨b,eb,ef⟩:=R.bind_ok ef
   have hmem:xs.1[i]∈xs.1:=List.getElem_mem hlt
   have hnf:=ok.nofr _ hmem
   have rep:Rep X.K H' (λa=>rtF RT σ σV xs.2 a\/exB Y old xs.1[i].pa a) xs.1[i].d x:=Rep.weak rv λa z=>by
    rcases z with z|z
    . exact .inl ⟨z.1,λq=>z.2 (q.mono (ok.sub _ hmem))⟩
    . exact .inr z
   refine vX (Sc.grow sm (tkf tc)) hnf rep eσ λσ2V S2 hkeep=>⟨_,_,_,σ1,S2,?_⟩
   rw[eb]
   intro H3 t3 s3
   have capk:∀j,k<=j->σ2V[j]? = (gN k caps σV)[j]? := λj hj=>by
    rw[hkeep j λz=>absurd (hk j z) (Nat.not_lt.mpr hj),hcap j hj]
   have back:∀{H5:Hp},Sx X.K (rtF RT σ σV xs.2) Y old σ1 σ2V H5->Sx X.K (rtF RT σ σV xs.2) Y old (ch0 k caps (freeze σ xs.2)) σ2V H5:=λ{H5} S5=>S5.forget (aAN eσ).symm λj s hs=>by
    by_cases hj:j∈tIx t
    . exact .inl (aAQ (hk j hj) hs)
    . exact .inr (by rw[aAM eσ hj];exact hs)
   cases b with
   | false=>
    rw[if_neg bN] at ef ⊢
    cases(show R.ok none=R.ok yo from ef)
    have ers:rs=ys':=ers
    subst ers
    exact⟨_,by omega,rfl,hlt,sc.trans (sm.trans s3),t3,back (S2.grow s3 t3),capk,ws,rs,evs',ego',rvs.grow (sm.trans s3)⟩
   | true=>
    rw[if_pos rfl] at ef ⊢
    obtain⟨y,ey,ef⟩:=R.bind_ok ef
    cases(show R.ok (some y)=R.ok yo from ef)
    have ers:rs=y::ys':=ers
    subst ers
    refine⟨_,_,_,σ1,S2.grow s3 t3,?_⟩
    rw[ey]
    intro u H4 t4 ro4
    have s4:=ro4.1
    have rv4:Rep X.K H4 (exV (rtF RT σ σV xs.2) Y old σ1 σ2V y.pa y.al) y.d u:=ro4.rv (S2.grow s3 t3)
    refine⟨_,by omega,rfl,hlt,sc.trans (sm.trans (s3.trans s4)),t4,back ((S2.grow s3 t3).grow s4 t4),capk,ws++[y],ys',by rw[evs'];simp,ego',?_⟩
    rw[List.map_append]
    refine(rvs.grow (sm.trans (s3.trans s4))).append ⟨u,[],rfl,?_,rfl⟩
    show Rep X.K H4 (exV RT Y old σ σV y.pa (xs.2++y.al.filterMap λj=>caps[j-k]?)) y.d u
    refine rv4.weak λc z=>?_
    rcases z with⟨z1,z2⟩|z
    . refine .inl ⟨⟨z1,λq=>z2 (q.mono λj hj=>List.mem_append_left _ hj)⟩,λq=>z2 ?_⟩
      obtain⟨j,hj,⟨pa,ds,ho⟩,hV⟩:=q
      have ho:=aAO hnf eσ ho
      rcases ch0_get ho with z|⟨j',i',rfl,hc,hs⟩
      . cases z
      . rw[capk _ (Nat.le_add_right _ _)] at hV
        refine⟨i',List.mem_append_right _ (List.mem_filterMap.mpr ⟨k+j',hj,by rw[Nat.add_sub_cancel_left];exact hc⟩),⟨pa,ds,(dB hs).1⟩,pW hc hV⟩
    . exact .inr z
 . have hie:i=xs.1.length:=by omega
   subst hie
   rw[List.drop_length] at ego
   cases(show R.ok []=R.ok rs from ego)
   rw[List.append_nil] at evs'
   subst evs'
   refine .inl ⟨okc.2.1 (Nat.le_refl _),by rw[<-hly];exact cT hl,λp hp t'=>hq _ _ t' ?_⟩
   have Sc':=S.grow (s1.trans sc) tc
   have emap:(vs.map (lv k caps xs.2)).map (·.d)=vs.map (·.d):=by rw[List.map_map];rfl
   have rr:Reps X.K Hc (exV RT Y old σ σV (dH vs) (xs.2++(bK vs).filterMap λj=>caps[j-k]?)) (vs.map (·.d)) ys:=by
    rw[<-emap]
    refine rvs.reps λv hv=>?_
    obtain⟨w,hw,e⟩:=List.mem_map.mp hv
    subst e
    refine⟨λz=>rW hw z,λj hj=>?_⟩
    rcases List.mem_append.mp hj with z|z
    . exact List.mem_append_left _ z
    . obtain⟨j',hj',e⟩:=List.mem_filterMap.mp z
      exact List.mem_append_right _ (List.mem_filterMap.mpr ⟨j',jO hw j' hj',e⟩)
   unfold hU
   split
   . rename_i hn
     exact(Ro.fresh hp t' rfl rfl Sc' (Reps.free _ _ hn rr)).from (s1.trans sc)
   . exact(Ro.fresh hp t' rfl rfl Sc' rr).from (s1.trans sc)
theorem aFj(M:Mc X P Γ n){k:Nat}{caps:List Nat}{t:T}{it:Hp.It}{cond:Es}{elt:E}{e iter:Expr}{ifs:List Expr}{scope:Scope}{N':List Str}(CS:bU X scope k caps N')(hnd:caps.Nodup)(hk:∀i∈tIx t,i<k)
 (hi:PI X tg iter (wI X P n RT Y old σ it))
 (hch:∀C s₀ H₀ ex,PG (cD X scope N' C s₀ H₀ ex) tg (gT X.K t)/\(∀RT Y old σ1,PTs (cD X scope N' C s₀ H₀ ex) ifs (wTs X P n RT Y old σ1 cond))/\∀RT Y old σ1,PE (cD X scope N' C s₀ H₀ ex) e (WE X P n RT Y old σ1 elt))
 (hs:∀x,foldedSetIterable iter X.env x=pure x):PE X (.ListComp e [⟨tg,iter,ifs,0⟩] scope pos) (WE X P n RT Y old σ (.comp k caps t it cond elt)):=by
 refine(vT (g:=gT X.K t) (tt:=λσV H Q=>∃RT Y old σ1,wTs X P n RT Y old σ1 cond σV H Q) (te:=λσV H Q=>∃RT Y old σ1,WE X P n RT Y old σ1 elt σV H Q) CS M.calm hi (λC s₀ H₀ ex=>?_) hs).imp λσV H Q t0 hw=>aAR hnd hk hw
 . obtain⟨h1,h2,h3⟩:=hch C s₀ H₀ ex
   exact⟨h1,λpins s σV H Q I ⟨RT,Y,old,σ1,hw⟩=>h2 RT Y old σ1 pins s σV H Q I hw,λpins s σV H Q I ⟨RT,Y,old,σ1,hw⟩=>h3 RT Y old σ1 pins s σV H Q I hw⟩
end
end Hp
end
noncomputable section
namespace Ts
open PySem PyProof.Rows
noncomputable def aCM:Bool->Keyed->Array Keyed->Nat->Nat->Nat->StateT SortSt Sem (Option Nat):=sortPriv% PySem.Builtin.gallop
noncomputable def aAS:Array Keyed->Array Keyed->StateT SortSt Sem (Array Keyed):=sortPriv% PySem.Builtin.mergeLo
noncomputable def aAT:Array Keyed->Array Keyed->StateT SortSt Sem (Array Keyed):=sortPriv% PySem.Builtin.mergeHi
section
variable {M:Model} {A:Around} {E:Value->Shared->Prop} {s:Shared} {r:Keyed->Nat} {D:Keyed->Prop} {κ:SortKind}
noncomputable def Cmp(M:Model)(A:Around)(E:Value->Shared->Prop)(s:Shared)(κ:SortKind)(D:Keyed->Prop)(r:Keyed->Nat):Prop:=
 ∀x y,D x->D y->∀(st:SortSt) (Q:Option Bool->SortSt->Prop),kindOf st=κ->Q (some (decide (r x<r y))) st->wpS M A E s (lt' x y) Q st
noncomputable def kr(r:Keyed->Nat)(xs:Array Keyed)(i:Nat):Nat:=match xs[i]? with
 | some p=>r p
 | none=>0
theorem aM{arr:Array Keyed}{i:Nat}{p:Keyed}{Q:Keyed->SortSt->Prop}{st:SortSt}(h:arr[i]? = some p)(q:Q p st):wpS M A E s (elem' arr i) Q st:=by
 rw[elem'_eq,h];exact wpS_pure q
noncomputable def Bp(r:Keyed->Nat)(left:Bool)(key:Keyed)(arr:Array Keyed)(base i:Nat):Bool:=if left then decide (kr r arr (base+i)<r key) else !decide (r key<kr r arr (base+i))
theorem kr_at{xs:Array Keyed}{i:Nat}{p:Keyed}(h:xs[i]? = some p):kr r xs i=r p:=by unfold kr;rw[h]
theorem bJ{xs:Array Keyed}{i:Nat}(h:i<xs.size):xs[i]? = some xs[i]:=Array.getElem?_eq_getElem h
theorem aCN(C:Cmp M A E s κ D r){left:Bool}{key:Keyed}{arr:Array Keyed}{base i:Nat}{st:SortSt}{Q:Option Bool->SortSt->Prop}
 (hk:kindOf st=κ) (hD:∀(i:Nat) p,arr[i]? = some p->D p) (hkey:D key) (hi:base+i<arr.size) (q:Q (some (Bp r left key arr base i)) st) :
 wpS M A E s (elem' arr (base+i) >>= λx=>if left=true then lt' x key else lt' key x >>= λb=>pure (Option.map (λx=>!x) b)) Q st:=by
 have e:=bJ hi
 refine wpS_bind (aM e ?_)
 have hd:=hD _ _ e
 unfold Bp at q
 rw[kr_at e] at q
 cases left with
 | true=>exact C _ _ hd hkey st _ hk q
 | false=>exact wpS_bind (C _ _ hkey hd st _ hk (wpS_pure q))
theorem cJ(C:Cmp M A E s κ D r){left:Bool}{key:Keyed}{arr:Array Keyed}{base n hint:Nat}{st:SortSt}{Q:Option Nat->SortSt->Prop}
 (hk:kindOf st=κ) (hD:∀(i:Nat) p,arr[i]? = some p->D p) (hkey:D key) (hn:base+n<=arr.size) (hh:hint<n)
 (mono:∀i j,i<j->j<n->kr r arr (base+i)<=kr r arr (base+j))
 (h:∀k,k<=n->(∀i,i<k->Bp r left key arr base i=true)->(∀i,k<=i->i<n->Bp r left key arr base i=false)->Q (some k) st) :
 wpS M A E s (aCM left key arr base n hint) Q st:=by
 have dn:∀i j,i<=j->j<n->Bp r left key arr base j=true->Bp r left key arr base i=true:=λi j hij hj b=>by
  rcases Nat.lt_or_eq_of_le hij with q|q
  . have m:=mono i j q hj
    unfold Bp at b ⊢
    cases left
    . simp only[bF,if_false,Bool.not_eq_true',decide_eq_false_iff_not] at b ⊢;omega
    . simp only[if_true,decide_eq_true_eq] at b ⊢;omega
  . rw[q];exact b
 have up:∀i j,i<=j->j<n->Bp r left key arr base i=false->Bp r left key arr base j=false:=λi j hij hj b=>by
  cases q:Bp r left key arr base j with
  | false=>rfl
  | true=>rw[dn i j hij hj q] at b;cases b
 have B:∀{i:Nat} {Q:Option Bool->SortSt->Prop},i<n->Q (some (Bp r left key arr base i)) st->wpS M A E s _ Q st:=λ{i Q} hi q=>aCN C hk hD hkey (by omega) q
 refine wpS_bind (B hh ?_)
 dsimp -zeta only
 extract_lets jp
 have fin:∀a b lo hi,lo<=hi->hi<=n->(∀i,i<lo->Bp r left key arr base i=true)->(∀i,hi<=i->i<n->Bp r left key arr base i=false)->wpS M A E s (jp () a b lo hi) Q st:=by
  intro a b lo hi h1 h2 h3 h4
  dsimp only[jp]
  refine wpS_bind (wpS_mono (wpS_forRange (I:=λx (c:Option (Option Nat)×Nat×Nat) st'=>st'=st/\c.1=none/\c.2.1<=c.2.2/\c.2.2<=n/\c.2.2+x<=n+c.2.1/\(∀i,i<c.2.1->Bp r left key arr base i=true)/\(∀i,c.2.2<=i->i<n->Bp r left key arr base i=false))
   (Q:=λc st'=>st'=st/\c.1=none/\c.2.1=c.2.2/\c.2.2<=n/\(∀i,i<c.2.1->Bp r left key arr base i=true)/\(∀i,c.2.2<=i->i<n->Bp r left key arr base i=false)) ?step ?fin ⟨rfl,rfl,h1,h2,by show hi+0<=n+lo;omega,h3,h4⟩) ?post)
  case post=>
   rintro ⟨c,lo,hi⟩ st' ⟨rfl,hc,e,hl,b1,b2⟩
   dsimp only at hc e hl b1 b2 ⊢
   subst hc e
   exact wpS_pure (h _ hl b1 b2)
  case fin=>
   rintro ⟨c,lo,hi⟩ st' ⟨rfl,hc,e1,hl,hx,b1,b2⟩
   dsimp only at hc e1 hl hx b1 b2 ⊢
   exact⟨rfl,hc,by omega,hl,b1,b2⟩
  case step=>
   rintro x ⟨c,lo,hi⟩ st' _ hxn ⟨rfl,hc,e1,hl,hx,b1,b2⟩
   dsimp only at hc e1 hl hx b1 b2 ⊢
   subst hc
   by_cases g:lo ≥ hi
   . rw[if_pos g]
     exact wpS_pure ⟨rfl,rfl,by show lo=hi;omega,hl,b1,b2⟩
   . rw[if_neg g]
     refine wpS_bind (B (i:=lo+(hi-lo) / 2) (by omega) ?_)
     cases q:Bp r left key arr base (lo+(hi-lo) / 2) with
     | true=>
      dsimp only
      rw[if_pos rfl]
      refine wpS_pure ⟨rfl,rfl,by dsimp only;omega,hl,by dsimp only;omega,λi hi'=>?_,b2⟩
      exact dn _ _ (by dsimp only at hi';omega) (by omega) q
     | false=>
      dsimp only
      rw[if_neg bN]
      refine wpS_pure ⟨rfl,rfl,by dsimp only;omega,by dsimp only;omega,by dsimp only;omega,b1,λi hi' hin=>?_⟩
      exact up _ _ (by dsimp only at hi';omega) hin q
 cases q0:Bp r left key arr base hint with
 | true=>
  rw[if_pos rfl]
  refine wpS_bind (wpS_mono (wpS_forRange (I:=λx (c:Option (Option Nat)×Nat×Nat) st'=>st'=st/\c.1=none/\c.2.1<c.2.2/\x+1<=c.2.2/\(c.2.1=0\/hint+c.2.1<n)/\Bp r left key arr base (hint+c.2.1)=true)
   (Q:=λc st'=>st'=st/\c.1=none/\c.2.1<c.2.2/\hint+c.2.1<n/\Bp r left key arr base (hint+c.2.1)=true/\(n<=hint+c.2.2\/Bp r left key arr base (hint+c.2.2)=false)) ?step ?fin ⟨rfl,rfl,by show 0<1;omega,by show 0+1<=1;omega,.inl rfl,q0⟩) ?post)
  case post=>
   rintro ⟨c,l,o⟩ st' ⟨rfl,hc,e1,e2,e3,e4⟩
   dsimp only at hc e1 e2 e3 e4 ⊢
   subst hc
   refine fin l o _ _ (by omega) (by omega) (λi hi=>dn _ _ (by omega) e2 e3) λi hi hin=>?_
   rcases e4 with e4|e4
   . omega
   . exact up _ _ (by omega) hin e4
  case fin=>
   rintro ⟨c,l,o⟩ st' ⟨rfl,hc,e1,e2,e3,e4⟩
   dsimp only at hc e1 e2 e3 e4 ⊢
   exact⟨rfl,hc,e1,by omega,e4,.inl (by omega)⟩
  case step=>
   rintro x ⟨c,l,o⟩ st' _ hxn ⟨rfl,hc,e1,e2,e3,e4⟩
   dsimp only at hc e1 e2 e3 e4 ⊢
   subst hc
   by_cases g:o ≥ n-hint
   . rw[if_pos g]
     exact wpS_pure ⟨rfl,rfl,e1,by dsimp only;omega,e4,.inl (by dsimp only;omega)⟩
   . rw[if_neg g]
     refine wpS_bind (B (i:=hint+o) (by omega) ?_)
     cases q:Bp r left key arr base (hint+o) with
     | true=>
      dsimp only
      rw[if_neg (by decide)]
      exact wpS_pure ⟨rfl,rfl,by dsimp only;omega,by dsimp only;omega,.inr (by dsimp only;omega),q⟩
     | false=>
      dsimp only
      rw[if_pos (by decide)]
      exact wpS_pure ⟨rfl,rfl,e1,by dsimp only;omega,e4,.inr q⟩
 | false=>
  rw[if_neg bN]
  refine wpS_bind (wpS_mono (wpS_forRange (I:=λx (c:Option (Option Nat)×Nat×Nat) st'=>st'=st/\c.1=none/\c.2.1<c.2.2/\x+1<=c.2.2/\c.2.1<=hint/\Bp r left key arr base (hint-c.2.1)=false)
   (Q:=λc st'=>st'=st/\c.1=none/\c.2.1<c.2.2/\c.2.1<=hint/\Bp r left key arr base (hint-c.2.1)=false/\(hint<c.2.2\/Bp r left key arr base (hint-c.2.2)=true)) ?step ?fin ⟨rfl,rfl,by show 0<1;omega,by show 0+1<=1;omega,Nat.zero_le _,q0⟩) ?post)
  case post=>
   rintro ⟨c,l,o⟩ st' ⟨rfl,hc,e1,e2,e3,e4⟩
   dsimp only at hc e1 e2 e3 e4 ⊢
   subst hc
   refine fin l o _ _ (by omega) (by omega) (λi hi=>?_) λi hi hin=>up _ _ (by omega) hin e3
   rcases e4 with e4|e4
   . omega
   . exact dn _ _ (by omega) (by omega) e4
  case fin=>
   rintro ⟨c,l,o⟩ st' ⟨rfl,hc,e1,e2,e3,e4⟩
   dsimp only at hc e1 e2 e3 e4 ⊢
   exact⟨rfl,hc,e1,e3,e4,.inl (by omega)⟩
  case step=>
   rintro x ⟨c,l,o⟩ st' _ hxn ⟨rfl,hc,e1,e2,e3,e4⟩
   dsimp only at hc e1 e2 e3 e4 ⊢
   subst hc
   by_cases g:o ≥ hint+1
   . rw[if_pos g]
     exact wpS_pure ⟨rfl,rfl,e1,e3,e4,.inl (by dsimp only;omega)⟩
   . rw[if_neg g]
     refine wpS_bind (B (i:=hint-o) (by omega) ?_)
     cases q:Bp r left key arr base (hint-o) with
     | true=>
      dsimp only
      rw[if_pos rfl]
      exact wpS_pure ⟨rfl,rfl,e1,e3,e4,.inr q⟩
     | false=>
      dsimp only
      rw[if_neg bN]
      exact wpS_pure ⟨rfl,rfl,by dsimp only;omega,by dsimp only;omega,by dsimp only;omega,q⟩
end
noncomputable def Srt(r:Keyed->Nat)(l:List Keyed):Prop:=l.Pairwise λx y=>r x<=r y
structure J (r:Keyed->Nat) (la lb:List Keyed) (ia ib:Nat) (out:List Keyed):Prop where
 pm:out.Perm (la.take ia++lb.take ib)
 so:Srt r out
 oa:∀x∈out,∀y∈la.drop ia,r x<=r y
 ob:∀x∈out,∀y∈lb.drop ib,r x<=r y
section
variable {r:Keyed->Nat} {la lb out:List Keyed} {ia ib:Nat}
theorem dY{α:Type}(l:List α)(i k:Nat):l.take (i+k)=l.take i++(l.drop i).take k:=List.take_add
theorem J.a(j:J r la lb ia ib out)(hs:Srt r la)(k:Nat)(h:∀x∈(la.drop ia).take k,∀y∈lb.drop ib,r x<=r y):J r la lb (ia+k) ib (out++(la.drop ia).take k):=by
 have hd:Srt r ((la.drop ia).take k++(la.drop ia).drop k):=by rw[List.take_append_drop];exact List.Pairwise.drop hs
 obtain⟨h1,h2,h3⟩:=List.pairwise_append.mp hd
 refine⟨?_,List.pairwise_append.mpr ⟨j.so,h1,λx hx y hy=>j.oa x hx y (List.mem_of_mem_take hy)⟩,λx hx y hy=>?_,λx hx y hy=>?_⟩
 . rw[dY,List.append_assoc]
   exact(j.pm.append_right _).trans (by rw[List.append_assoc];exact(List.perm_append_comm.append_left _))
 . rw[<-List.drop_drop] at hy
   rcases List.mem_append.mp hx with hx|hx
   . exact j.oa x hx y (List.mem_of_mem_drop hy)
   . exact h3 x hx y hy
 . rcases List.mem_append.mp hx with hx|hx
   . exact j.ob x hx y hy
   . exact h x hx y hy
theorem J.swap(j:J r la lb ia ib out):J r lb la ib ia out:=⟨j.pm.trans List.perm_append_comm,j.so,j.ob,j.oa⟩
theorem J.b(j:J r la lb ia ib out)(hs:Srt r lb)(k:Nat)(h:∀x∈(lb.drop ib).take k,∀y∈la.drop ia,r x<=r y):J r la lb ia (ib+k) (out++(lb.drop ib).take k):=(j.swap.a hs k h).swap
theorem J.endB(j:J r la lb ia ib out)(hs:Srt r la)(hb:lb.length<=ib):(out++la.drop ia).Perm (la++lb)/\Srt r (out++la.drop ia):=by
 refine⟨?_,List.pairwise_append.mpr ⟨j.so,List.Pairwise.drop hs,j.oa⟩⟩
 have p:=j.pm
 rw[List.take_of_length_le hb] at p
 refine(p.append_right _).trans ?_
 rw[List.append_assoc]
 refine(List.perm_append_comm.append_left _).trans ?_
 rw[<-List.append_assoc,List.take_append_drop]
theorem J.endA(j:J r la lb ia ib out)(hs:Srt r lb)(hl:∀x∈lb,∀y∈la.drop ia,r x<=r y)(ha:la.length=ia+1):(out++lb.drop ib++la.drop ia).Perm (la++lb)/\Srt r (out++lb.drop ib++la.drop ia):=by
 refine⟨?_,?_⟩
 . refine((j.pm.append_right _).append_right _).trans ?_
   rw[List.append_assoc (la.take ia),List.take_append_drop,List.append_assoc]
   refine(List.perm_append_comm.append_left _).trans ?_
   rw[<-List.append_assoc,List.take_append_drop]
 . refine List.pairwise_append.mpr ⟨List.pairwise_append.mpr ⟨j.so,List.Pairwise.drop hs,j.ob⟩,?_,λx hx y hy=>?_⟩
   . have:(la.drop ia).length=1:=by rw[List.length_drop];omega
     obtain⟨z,hz⟩:=List.length_eq_one_iff.mp this
     rw[hz];exact List.pairwise_singleton _ _
   . rcases List.mem_append.mp hx with hx|hx
     . exact j.oa x hx y hy
     . exact hl x (List.mem_of_mem_drop hx) y hy
end
section
variable {M:Model} {A:Around} {E:Value->Shared->Prop} {s:Shared} {r:Keyed->Nat} {D:Keyed->Prop} {κ:SortKind}
noncomputable def dG(st st':SortSt):Prop:=kindOf st'=kindOf st/\arrOf st'=arrOf st/\pendingOf st'=pendingOf st/\failedOf st'=failedOf st
theorem aE{α:Type}{m m':StateT SortSt Sem α}{Q:α->SortSt->Prop}{st:SortSt}(e:m=m')(h:wpS M A E s m' Q st):wpS M A E s m Q st:=e▸h
theorem dG.rfl'(st:SortSt):dG st st:=⟨rfl,rfl,rfl,rfl⟩
theorem dS{xs:Array Keyed}{i:Nat}{p:Keyed}(h:xs[i]? = some p):(xs.toList.drop i).take 1=[p]:=by
 obtain⟨hi,e⟩:=Array.getElem?_eq_some_iff.mp h
 rw[List.drop_eq_getElem_cons (by simpa using hi)]
 simp[e]
theorem gO(xs:Array Keyed)(i k:Nat):(xs.extract i (i+k)).toList=(xs.toList.drop i).take k:=by
 rw[Array.toList_extract,List.extract_eq_drop_take',List.drop_take,Nat.add_sub_cancel_left]
theorem fU(xs:Array Keyed)(i:Nat):(xs.extract i xs.size).toList=xs.toList.drop i:=by
 rw[Array.toList_extract,List.extract_eq_drop_take',List.drop_take,List.take_of_length_le (by simp)]
theorem iC{xs:Array Keyed}{i:Nat}{y:Keyed}(h:y∈xs.toList.drop i):∃j,i<=j/\j<xs.size/\xs[j]? = some y:=by
 obtain⟨j,hj,e⟩:=List.mem_iff_getElem.mp h
 rw[List.getElem_drop] at e
 rw[List.length_drop] at hj
 have hl:i+j<xs.size:=by simp at hj;omega
 exact⟨i+j,by omega,hl,by rw[Array.getElem?_eq_getElem hl,<-e];simp⟩
theorem lO{xs:Array Keyed}{i k:Nat}{y:Keyed}(h:y∈(xs.toList.drop i).take k):∃j,j<k/\i+j<xs.size/\xs[i+j]? = some y:=by
 obtain⟨j,hj,e⟩:=List.mem_iff_getElem.mp h
 rw[List.getElem_take,List.getElem_drop] at e
 rw[List.length_take,List.length_drop] at hj
 have hl:i+j<xs.size:=by simp at hj;omega
 exact⟨j,by omega,hl,by rw[Array.getElem?_eq_getElem hl,<-e];simp⟩
theorem jC{xs:Array Keyed}(h:Srt r xs.toList){i j:Nat}(hij:i<=j)(hj:j<xs.size):kr r xs i<=kr r xs j:=by
 rw[kr_at (bJ (show i<xs.size by omega)),kr_at (bJ hj)]
 rcases Nat.lt_or_eq_of_le hij with q|q
 . have:=List.pairwise_iff_getElem.mp h i j (by simp;omega) (by simpa using hj) q
   simpa using this
 . subst q;exact Nat.le_refl _
noncomputable def Rs(r:Keyed->Nat)(a b:Array Keyed)(st st':SortSt)(c:Option (Array Keyed)):Prop:=∃res,c=some res/\dG st st'/\res.toList.Perm (a.toList++b.toList)/\Srt r res.toList
noncomputable def Gs(r:Keyed->Nat)(a b:Array Keyed)(st st':SortSt)(c:Option (Array Keyed))(out:Array Keyed)(ia ib:Nat):Prop:=c=none/\dG st st'/\J r a.toList b.toList ia ib out.toList/\ia+1<a.size/\ib<b.size
section
variable {a b out:Array Keyed} {st st':SortSt} {ia ib:Nat}
theorem vY(sa:Srt r a.toList)(kp:dG st st')(j:J r a.toList b.toList ia ib out.toList)(e:ib=b.size):Rs r a b st st' (some (out++a.extract ia a.size++b.extract ib b.size)):=by
 obtain⟨h1,h2⟩:=j.endB sa (by simp;omega)
 refine⟨_,rfl,kp,?_⟩
 rw[Array.toList_append,Array.toList_append,fU,fU,e,List.drop_of_length_le (i:=b.size) (by simp),List.append_nil]
 exact⟨h1,h2⟩
theorem aFk(sb:Srt r b.toList)(kp:dG st st')(j:J r a.toList b.toList ia ib out.toList)(e:ia=a.size):Rs r a b st st' (some (out++a.extract ia a.size++b.extract ib b.size)):=by
 obtain⟨h1,h2⟩:=j.swap.endB sb (by simp;omega)
 refine⟨_,rfl,kp,?_⟩
 rw[Array.toList_append,Array.toList_append,fU,fU,e,List.drop_of_length_le (i:=a.size) (by simp),List.append_nil]
 exact⟨h1.trans List.perm_append_comm,h2⟩
theorem vZ(sb:Srt r b.toList)(hl:∀x∈b.toList,r x<=kr r a (a.size-1))(kp:dG st st')(j:J r a.toList b.toList ia ib out.toList)(e:ia+1=a.size):Rs r a b st st' (some (out++b.extract ib b.size++a.extract ia a.size)):=by
 obtain⟨h1,h2⟩:=j.endA sb (λx hx y hy=>by
  obtain⟨k,k1,k2,k3⟩:=iC hy
  have:=hl x hx
  rw[show a.size-1=k by omega,kr_at k3] at this
  exact this) (by simp;omega)
 refine⟨_,rfl,kp,?_⟩
 rw[Array.toList_append,Array.toList_append,fU,fU]
 exact⟨h1,h2⟩
theorem J.a1(j:J r a.toList b.toList ia ib out.toList)(sa:Srt r a.toList){p:Keyed}(hp:a[ia]? = some p)(h:∀y∈b.toList.drop ib,r p<=r y):J r a.toList b.toList (ia+1) ib (out.push p).toList:=by
 have:=j.a sa 1 (by rw[dS hp];intro x hx;rw[List.mem_singleton.mp hx];exact h)
 rw[dS hp] at this
 rw[Array.toList_push];exact this
theorem J.b1(j:J r a.toList b.toList ia ib out.toList)(sb:Srt r b.toList){p:Keyed}(hp:b[ib]? = some p)(h:∀y∈a.toList.drop ia,r p<=r y):J r a.toList b.toList ia (ib+1) (out.push p).toList:=by
 have:=j.b sb 1 (by rw[dS hp];intro x hx;rw[List.mem_singleton.mp hx];exact h)
 rw[dS hp] at this
 rw[Array.toList_push];exact this
theorem kE{xs:Array Keyed}(h:Srt r xs.toList){i m:Nat}(hm:m<=kr r xs i):∀y∈xs.toList.drop i,m<=r y:=λy hy=>by
 obtain⟨k,k1,k2,k3⟩:=iC hy
 have:=jC h k1 k2
 rw[kr_at k3] at this
 omega
end
theorem sH(C:Cmp M A E s κ D r){a b:Array Keyed}{st:SortSt}{Q:Array Keyed->SortSt->Prop}
 (hk:kindOf st=κ) (hDa:∀(i:Nat) p,a[i]? = some p->D p) (hDb:∀(i:Nat) p,b[i]? = some p->D p) (sa:Srt r a.toList) (sb:Srt r b.toList) (ha:0<a.size) (hb:0<b.size)
 (h0:∀y∈a.toList,kr r b 0<=r y) (hl:∀x∈b.toList,r x<=kr r a (a.size-1))
 (h:∀res st',dG st st'->res.toList.Perm (a.toList++b.toList)->Srt r res.toList->Q res st'):wpS M A E s (aAS a b) Q st:=by
 have fin:∀{c:Option (Array Keyed)} {st':SortSt},Rs r a b st st' c->∃res,c=some res/\Q res st':=λ⟨res,e,k,p,q⟩=>⟨res,e,h res _ k p q⟩
 have e0:=bJ hb
 have j0:J r a.toList b.toList 0 1 #[b[0]].toList:=by
  have j:J r a.toList b.toList 0 0 []:=⟨by simp,List.Pairwise.nil,by simp,by simp⟩
  have:=j.b sb 1 (by rw[dS e0];intro x hx;rw[List.mem_singleton.mp hx];intro y hy;rw[List.drop_zero] at hy;have:=h0 y hy;rwa [kr_at e0] at this)
  rw[dS e0] at this
  exact this
 refine wpS_bind (wpS_lift (wpAny_rule ⟨rfl,?_⟩))
 extract_lets total done lastOfA ia ib
 refine wpS_bind (aM e0 ?_)
 extract_lets out
 by_cases g1:1=b.size
 . rw[if_pos (by simpa[ib] using g1)]
   obtain⟨res,e,q⟩:=fin (vY sa (dG.rfl' st) j0 g1)
   cases e
   exact wpS_pure q
 rw[if_neg (by simpa[ib] using g1)]
 by_cases g2:0+1=a.size
 . rw[if_pos (by simpa[ia] using g2)]
   obtain⟨res,e,q⟩:=fin (vZ sb hl (dG.rfl' st) j0 g2)
   cases e
   exact wpS_pure q
 rw[if_neg (by simpa[ia] using g2)]
 refine wpS_bind (wpS_get ?_)
 refine wpS_bind (wpS_mono (wpS_forRange (I:=λx (c:Option (Array Keyed)×Array Keyed×Nat×Nat×Nat) st'=>Gs r a b st st' c.1 c.2.1 c.2.2.1 c.2.2.2.1/\x+1<=c.2.2.1+c.2.2.2.1)
  (Q:=λc st'=>Rs r a b st st' c.1) ?step ?fin ⟨⟨rfl,dG.rfl' st,j0,by dsimp only;omega,by dsimp only;omega⟩,by dsimp only;omega⟩) ?post)
 case post=>
  rintro ⟨c,_⟩ st' q
  obtain⟨res,e,q'⟩:=fin q
  dsimp only at e ⊢
  subst e
  exact wpS_pure q' 
 case fin=>
  rintro ⟨c,o,i,j,m⟩ st' ⟨⟨q1,q2,q3,q4,q5⟩,q6⟩
  dsimp only[total] at q4 q5 q6
  omega
 case step=>
  rintro x ⟨c,o,i,j,m⟩ st1 _ hx ⟨⟨q1,q2,q3,q4,q5⟩,q6⟩
  dsimp only at q1 q2 q3 q4 q5 q6
  subst q1
  have hk1:kindOf st1=κ:=q2.1.trans hk
  have ht:total=a.size+b.size:=rfl
  refine wpS_bind (wpS_mono (wpS_forRange (I:=λx (c:Option (Array Keyed)×Array Keyed×Nat×Nat×Nat×Nat) st'=>st'=st1/\Gs r a b st st' c.1 c.2.1 c.2.2.1 c.2.2.2.1/\i+j+x<=c.2.2.1+c.2.2.2.1)
   (Q:=λc st'=>st'=st1/\(Rs r a b st st' c.1\/(Gs r a b st st' c.1 c.2.1 c.2.2.1 c.2.2.2.1/\i+j+1<=c.2.2.1+c.2.2.2.1))) ?step1 ?fin1 ⟨rfl,⟨rfl,q2,q3,q4,q5⟩,by dsimp only;omega⟩) ?post1)
  case fin1=>
   rintro ⟨c,o,i',j',ac,bc⟩ st' ⟨e,g,l⟩
   exact⟨e,.inr ⟨g,by dsimp only at l ⊢;omega⟩⟩
  case step1=>
   rintro x' ⟨c,o,i',j',ac,bc⟩ st' _ hx' ⟨rfl,⟨c1,_,c3,c4,c5⟩,l⟩
   dsimp only at c1 c3 c4 c5 l
   subst c1
   have ea:=bJ (xs:=a) (i:=i') (by omega)
   have eb:=bJ c5
   refine wpS_bind (aM eb ?_)
   refine wpS_bind (aM ea ?_)
   refine wpS_bind (C _ _ (hDb _ _ eb) (hDa _ _ ea) _ _ hk1 ?_)
   by_cases g:r b[j']<r a[i']
   . rw[decide_eq_true g]
     dsimp only
     rw[if_pos rfl]
     refine wpS_bind (aM eb ?_)
     have j1:=c3.b1 sb eb (kE sa (i:=i') (by rw[kr_at ea];omega))
     by_cases g3:j'+1=b.size
     . rw[if_pos (by simpa using g3)]
       exact wpS_pure ⟨rfl,.inl (vY sa q2 j1 g3)⟩
     rw[if_neg (by simpa using g3)]
     by_cases g4:bc+1 ≥ m
     . rw[if_pos g4]
       exact wpS_pure ⟨rfl,.inr ⟨⟨rfl,q2,j1,c4,by dsimp only;omega⟩,by dsimp only;omega⟩⟩
     . rw[if_neg g4]
       exact wpS_pure ⟨rfl,⟨rfl,q2,j1,c4,by dsimp only;omega⟩,by dsimp only;omega⟩
   . rw[decide_eq_false g]
     dsimp only
     rw[if_neg bN]
     refine wpS_bind (aM ea ?_)
     have j1:=c3.a1 sa ea (kE sb (i:=j') (by rw[kr_at eb];omega))
     by_cases g3:i'+1+1=a.size
     . rw[if_pos (by simpa using g3)]
       exact wpS_pure ⟨rfl,.inl (vZ sb hl q2 j1 g3)⟩
     rw[if_neg (by simpa using g3)]
     by_cases g4:ac+1 ≥ m
     . rw[if_pos g4]
       exact wpS_pure ⟨rfl,.inr ⟨⟨rfl,q2,j1,by dsimp only;omega,c5⟩,by dsimp only;omega⟩⟩
     . rw[if_neg g4]
       exact wpS_pure ⟨rfl,⟨rfl,q2,j1,by dsimp only;omega,c5⟩,by dsimp only;omega⟩
  case post1=>
   rintro ⟨c,o,i',j',ac,bc⟩ st' ⟨rfl,g⟩
   rcases g with g|⟨⟨c1,_,c3,c4,c5⟩,l⟩
   . obtain⟨res,e,g'⟩:=g
     dsimp only at e ⊢
     subst e
     exact wpS_pure ⟨res,rfl,g'⟩
   dsimp only at c1 c3 c4 c5 l
   subst c1
   refine wpS_bind (wpS_lift (wpAny_rule ⟨rfl,?_⟩))
   refine wpS_bind (wpS_mono (wpS_forRange (I:=λx (c:Option (Array Keyed)×Array Keyed×Nat×Nat×Nat×Nat×Nat) st'=>Gs r a b st st' c.1 c.2.1 c.2.2.1 c.2.2.2.1/\i+j+1<=c.2.2.1+c.2.2.2.1)
    (Q:=λc st'=>Rs r a b st st' c.1\/(Gs r a b st st' c.1 c.2.1 c.2.2.1 c.2.2.2.1/\i+j+1<=c.2.2.1+c.2.2.2.1)) ?step2 ?fin2 ⟨⟨rfl,q2,c3,c4,c5⟩,l⟩) ?post2)
   case fin2=>
    rintro ⟨c,o,i',j',ac,bc⟩ st' ⟨g,l⟩
    exact .inr ⟨g,l⟩
   case post2=>
    rintro ⟨c,o,i',j',mg,ac,bc⟩ st' g
    rcases g with g|⟨⟨c1,k2,c3,c4,c5⟩,l⟩
    . obtain⟨res,e,g'⟩:=g
      dsimp only at e ⊢
      subst e
      exact wpS_pure ⟨res,rfl,g'⟩
    dsimp only at c1 c3 c4 c5 l
    subst c1
    refine wpS_bind (wpS_modify ?_)
    exact wpS_pure ⟨⟨rfl,k2,c3,c4,c5⟩,by dsimp only;omega⟩
   case step2=>
    rintro x' ⟨c,o,i',j',mg,ac,bc⟩ st' _ hx' ⟨⟨c1,k2,c3,c4,c5⟩,l⟩
    dsimp only at c1 k2 c3 c4 c5 l
    subst c1
    dsimp -zeta only
    extract_lets x1 x2 x3 x4 x5 x6 x7 x8 x9 x10 x11 x12 jp
    have e12:x12=j'+1:=rfl
    have e2:x2=o:=rfl
    have e4:x4=i':=rfl
    have e6:x6=j':=rfl
    have e8:x8=mg:=rfl
    have e11:x11=bc:=rfl
    clear_value x12 x2 x4 x6 x8 x11
    subst e12 e2 e4 e6
    have main:∀m',wpS M A E s (jp () m') (λr' st'=>match r' with
     | .done c=>Rs r a b st st' c.1\/(Gs r a b st st' c.1 c.2.1 c.2.2.1 c.2.2.2.1/\i+j+1<=c.2.2.1+c.2.2.2.1)
     | .yield c=>Gs r a b st st' c.1 c.2.1 c.2.2.1 c.2.2.2.1/\i+j+1<=c.2.2.1+c.2.2.2.1) st':=by
     intro m'
     dsimp -zeta only[jp]
     refine wpS_bind (wpS_modify ?_)
     have eb:=bJ c5
     refine wpS_bind (aM eb ?_)
     refine wpS_bind (cJ C (k2.1.trans hk) hDa (hDb _ _ eb) (by omega) (by omega) (λi1 i2 h1 h2=>jC sa (by omega) (by omega)) λk hkn b1 b2=>?_)
     dsimp -zeta only
     extract_lets acount jp2
     have ja:=c3.a sa k (λz hz y hy=>by
      obtain⟨n1,n2,n3,n4⟩:=lO hz
      have h1:=b1 n1 n2
      unfold Bp at h1
      rw[kr_at n4] at h1
      simp only[bF,if_false,Bool.not_eq_true',decide_eq_false_iff_not] at h1
      exact kE sb (i:=x6) (by rw[kr_at eb];omega) y hy)
     have ka:∀y∈a.toList.drop (x4+k),r b[x6]<=r y:=λy hy=>by
      obtain⟨n1,n2,n3,n4⟩:=iC hy
      have h1:=b2 (n1-x4) (by omega) (by omega)
      unfold Bp at h1
      rw[show x4+(n1-x4)=n1 by omega,kr_at n4] at h1
      simp only[bF,if_false,Bool.not_eq_false',decide_eq_true_eq] at h1
      omega
     have main2:∀st2 o' i2,dG st st2->J r a.toList b.toList i2 x6 o'.toList->i2+1<a.size->i+j+1<=i2+x6->(∀y∈a.toList.drop i2,r b[x6]<=r y)->wpS M A E s (jp2 () o' i2) (λr' st'=>match r' with
      | .done c=>Rs r a b st st' c.1\/(Gs r a b st st' c.1 c.2.1 c.2.2.1 c.2.2.2.1/\i+j+1<=c.2.2.1+c.2.2.2.1)
      | .yield c=>Gs r a b st st' c.1 c.2.1 c.2.2.1 c.2.2.2.1/\i+j+1<=c.2.2.1+c.2.2.2.1) st2:=by
      intro st2 o' i2 k3 jj hi2 hle hdr
      dsimp -zeta only[jp2]
      refine wpS_bind (aM eb ?_)
      have j1:=jj.b1 sb eb hdr
      extract_lets out'
      by_cases g3:x6+1=b.size
      . rw[if_pos (by simpa using g3)]
        exact wpS_pure (.inl (vY sa k3 j1 g3))
      rw[if_neg (by simpa using g3)]
      have ea:=bJ (xs:=a) (i:=i2) (by omega)
      refine wpS_bind (aM ea ?_)
      refine wpS_bind (cJ C (k3.1.trans hk) hDb (hDa _ _ ea) (by omega) (by omega) (λi1 i2 h1 h2=>jC sb (by omega) (by omega)) λk' hkn' b1' b2'=>?_)
      dsimp -zeta only
      extract_lets bcount jp3
      have jb:=j1.b sb k' (λz hz y hy=>by
       obtain⟨n1,n2,n3,n4⟩:=lO hz
       have h1:=b1' n1 n2
       unfold Bp at h1
       rw[kr_at n4] at h1
       simp only[if_true,decide_eq_true_eq] at h1
       exact kE sa (i:=i2) (by rw[kr_at ea];omega) y hy)
      have kb:∀y∈b.toList.drop (x6+1+k'),r a[i2]<=r y:=λy hy=>by
       obtain⟨n1,n2,n3,n4⟩:=iC hy
       have h1:=b2' (n1-(x6+1)) (by omega) (by omega)
       unfold Bp at h1
       rw[show x6+1+(n1-(x6+1))=n1 by omega,kr_at n4] at h1
       simp only[if_true,decide_eq_false_iff_not] at h1
       omega
      have main3:∀o3 j3,J r a.toList b.toList i2 j3 o3.toList->j3<b.size->i+j+1<=i2+j3->(∀y∈b.toList.drop j3,r a[i2]<=r y)->wpS M A E s (jp3 () o3 j3) (λr' st'=>match r' with
       | .done c=>Rs r a b st st' c.1\/(Gs r a b st st' c.1 c.2.1 c.2.2.1 c.2.2.2.1/\i+j+1<=c.2.2.1+c.2.2.2.1)
       | .yield c=>Gs r a b st st' c.1 c.2.1 c.2.2.1 c.2.2.2.1/\i+j+1<=c.2.2.1+c.2.2.2.1) st2:=by
       intro o3 j3 jj3 hj3 hle3 hdr3
       dsimp -zeta only[jp3]
       refine wpS_bind (aM ea ?_)
       have j4:=jj3.a1 sa ea hdr3
       by_cases g4:i2+1+1=a.size
       . refine aE (if_pos (by simpa using g4)) ?_
         exact wpS_pure (.inl (vZ sb hl k3 j4 g4))
       refine aE (if_neg (by simpa using g4)) ?_
       by_cases g5:(decide (acount<7)&&decide (bcount<7))=true
       . refine aE (if_pos g5) ?_
         exact wpS_pure (.inr ⟨⟨rfl,k3,j4,by dsimp only;omega,hj3⟩,by dsimp only;omega⟩)
       . refine aE (if_neg g5) ?_
         exact wpS_pure ⟨⟨rfl,k3,j4,by dsimp only;omega,hj3⟩,by dsimp only;omega⟩
      by_cases g6:k'>0
      . refine aE (if_pos g6) ?_
        rw[<-gO] at jb
        rw[<-Array.toList_append] at jb
        by_cases g7:x6+1+k'=b.size
        . refine aE (if_pos (by simpa using g7)) ?_
          exact wpS_pure (.inl (vY sa k3 jb g7))
        . refine aE (if_neg (by simpa using g7)) ?_
          exact main3 _ _ jb (by omega) (by omega) kb
      . refine aE (if_neg g6) ?_
        have:k'=0:=by omega
        subst this
        exact main3 _ _ j1 (by omega) (by omega) kb
     by_cases g6:k>0
     . refine aE (if_pos g6) ?_
       rw[<-gO] at ja
       rw[<-Array.toList_append] at ja
       by_cases g7:x4+k+1=a.size
       . refine aE (if_pos (by simpa using g7)) ?_
         exact wpS_pure (.inl (vZ sb hl k2 ja g7))
       refine aE (if_neg (by simpa using g7)) ?_
       by_cases g8:x4+k=a.size
       . refine aE (if_pos (by simpa using g8)) ?_
         exact wpS_pure (.inl (aFk sb k2 ja g8))
       refine aE (if_neg (by simpa using g8)) ?_
       exact main2 _ _ _ k2 ja (by omega) (by omega) ka
     . refine aE (if_neg g6) ?_
       have:k=0:=by omega
       subst this
       exact main2 _ _ _ k2 c3 (by omega) (by omega) ka
    by_cases g:x8>1
    . refine aE (if_pos g) ?_
      exact wpS_mono (main _) λr' st2 h=>by cases r' <;> exact h
    . refine aE (if_neg g) ?_
      exact wpS_mono (main _) λr' st2 h=>by cases r' <;> exact h
end
structure J2 (r:Keyed->Nat) (la lb:List Keyed) (na nb:Nat) (out:List Keyed):Prop where
 pm:out.Perm (la.drop na++lb.drop nb)
 so:Srt r out.reverse
 oa:∀x∈out,∀y∈la.take na,r y<=r x
 ob:∀x∈out,∀y∈lb.take nb,r y<=r x
section
variable {r:Keyed->Nat} {la lb out:List Keyed} {na nb:Nat}
theorem J2.swap(j:J2 r la lb na nb out):J2 r lb la nb na out:=⟨j.pm.trans List.perm_append_comm,j.so,j.ob,j.oa⟩
theorem J2.a(j:J2 r la lb (m+k) nb out)(hs:Srt r la)(h:∀x∈(la.drop m).take k,∀y∈lb.take nb,r y<=r x):J2 r la lb m nb (out++((la.drop m).take k).reverse):=by
 have hd:Srt r (la.take m++la.drop m):=by rw[List.take_append_drop];exact hs
 obtain⟨h1,h2,h3⟩:=List.pairwise_append.mp hd
 have sub:∀x∈(la.drop m).take k,x∈la.take (m+k):=λx hx=>by rw[dY];exact List.mem_append_right _ hx
 refine⟨?_,?_,λx hx y hy=>?_,λx hx y hy=>?_⟩
 . have e:la.drop m=(la.drop m).take k++la.drop (m+k):=by rw[<-List.drop_drop,List.take_append_drop]
   refine(j.pm.append_right _).trans ?_
   refine(List.Perm.append_left _ (List.reverse_perm _)).trans ?_
   rw[List.append_assoc]
   refine(List.Perm.append_left _ List.perm_append_comm).trans ?_
   rw[<-List.append_assoc]
   refine List.Perm.append_right _ ?_
   refine List.perm_append_comm.trans ?_
   rw[<-e]
 . rw[List.reverse_append,List.reverse_reverse]
   exact List.pairwise_append.mpr ⟨List.Pairwise.take h2,j.so,λx hx y hy=>j.oa y (List.mem_reverse.mp hy) x (sub x hx)⟩
 . rcases List.mem_append.mp hx with hx|hx
   . exact j.oa x hx y (by rw[dY];exact List.mem_append_left _ hy)
   . exact h3 y hy x (List.mem_of_mem_take (List.mem_reverse.mp hx))
 . rcases List.mem_append.mp hx with hx|hx
   . exact j.ob x hx y hy
   . exact h x (List.mem_reverse.mp hx) y hy
theorem J2.b(j:J2 r la lb na (m+k) out)(hs:Srt r lb)(h:∀x∈(lb.drop m).take k,∀y∈la.take na,r y<=r x):J2 r la lb na m (out++((lb.drop m).take k).reverse):=(j.swap.a hs h).swap
theorem J2.end(j:J2 r la lb 0 nb out)(hs:Srt r lb):(lb.take nb++out.reverse).Perm (la++lb)/\Srt r (lb.take nb++out.reverse):=by
 refine⟨?_,List.pairwise_append.mpr ⟨List.Pairwise.take hs,j.so,λx hx y hy=>j.ob y (List.mem_reverse.mp hy) x hx⟩⟩
 refine(List.Perm.append_left _ ((List.reverse_perm _).trans j.pm)).trans ?_
 rw[List.drop_zero,<-List.append_assoc]
 refine(List.Perm.append_right _ List.perm_append_comm).trans ?_
 rw[List.append_assoc,List.take_append_drop]
theorem J2.one(j:J2 r la lb na 1 out)(hs:Srt r la)(hf:∀x∈lb.take 1,∀y∈la,r x<=r y):(lb.take 1++la.take na++out.reverse).Perm (la++lb)/\Srt r (lb.take 1++la.take na++out.reverse):=by
 refine⟨?_,List.pairwise_append.mpr ⟨List.pairwise_append.mpr ⟨?_,List.Pairwise.take hs,λx hx y hy=>hf x hx y (List.mem_of_mem_take hy)⟩,j.so,λx hx y hy=>?_⟩⟩
 . refine(List.Perm.append_left _ ((List.reverse_perm _).trans j.pm)).trans ?_
   refine List.Perm.trans (l₂:=(la.take na++la.drop na)++(lb.take 1++lb.drop 1)) ?_ (by rw[List.take_append_drop,List.take_append_drop])
   rw[List.append_assoc (la.take na),List.append_assoc]
   refine List.perm_append_comm.trans ?_
   rw[List.append_assoc,List.append_assoc]
   exact List.Perm.append_left _ (List.Perm.append_left _ List.perm_append_comm)
 . cases lb with
   | nil=>exact List.Pairwise.nil
   | cons z zs=>exact List.pairwise_singleton _ _
 . rcases List.mem_append.mp hx with hx|hx
   . exact j.ob y (List.mem_reverse.mp hy) x hx
   . exact j.oa y (List.mem_reverse.mp hy) x hx
end
section
variable {M:Model} {A:Around} {E:Value->Shared->Prop} {s:Shared} {r:Keyed->Nat} {D:Keyed->Prop} {κ:SortKind}
theorem yN(xs:Array Keyed)(k:Nat):(xs.extract 0 k).toList=xs.toList.take k:=by
 have:=gO xs 0 k
 rw[Nat.zero_add] at this
 rw[this,List.drop_zero]
theorem iD{xs:Array Keyed}{k:Nat}{y:Keyed}(h:y∈xs.toList.take k):∃j,j<k/\j<xs.size/\xs[j]? = some y:=by
 have h:y∈(xs.toList.drop 0).take k:=by rw[List.drop_zero];exact h
 obtain⟨j,h1,h2,h3⟩:=lO h
 rw[Nat.zero_add] at h2 h3
 exact⟨j,h1,h2,h3⟩
theorem kF{xs:Array Keyed}(h:Srt r xs.toList){i m k:Nat}(hi:i<xs.size)(hk:k<=i+1)(hm:kr r xs i<=m):∀y∈xs.toList.take k,r y<=m:=λy hy=>by
 obtain⟨j,k1,k2,k3⟩:=iD hy
 have:=jC h (i:=j) (j:=i) (by omega) hi
 rw[kr_at k3] at this
 omega
noncomputable def G2(r:Keyed->Nat)(a b:Array Keyed)(st st':SortSt)(c:Option (Array Keyed))(out:Array Keyed)(na nb:Nat):Prop:=c=none/\dG st st'/\J2 r a.toList b.toList na nb out.toList/\0<na/\1<nb/\na<=a.size/\nb<=b.size
section
variable {a b out:Array Keyed} {st st':SortSt} {na nb:Nat}
theorem pX(sb:Srt r b.toList)(kp:dG st st')(j:J2 r a.toList b.toList na nb out.toList)(e:na=0):Rs r a b st st' (some (a.extract 0 na++b.extract 0 nb++out.reverse)):=by
 subst e
 obtain⟨h1,h2⟩:=j.end sb
 refine⟨_,rfl,kp,?_⟩
 rw[Array.toList_append,Array.toList_append,yN,yN,List.take_zero,List.nil_append,Array.toList_reverse]
 exact⟨h1,h2⟩
theorem aFl(sa:Srt r a.toList)(kp:dG st st')(j:J2 r a.toList b.toList na nb out.toList)(e:nb=0):Rs r a b st st' (some (a.extract 0 na++b.extract 0 nb++out.reverse)):=by
 subst e
 obtain⟨h1,h2⟩:=j.swap.end sa
 refine⟨_,rfl,kp,?_⟩
 rw[Array.toList_append,Array.toList_append,yN,yN,List.take_zero,List.append_nil,Array.toList_reverse]
 exact⟨h1.trans List.perm_append_comm,h2⟩
theorem pY(sa:Srt r a.toList)(h0:∀y∈a.toList,kr r b 0<=r y)(kp:dG st st')(j:J2 r a.toList b.toList na nb out.toList)(e:nb=1):Rs r a b st st' (some (b.extract 0 nb++a.extract 0 na++out.reverse)):=by
 subst e
 obtain⟨h1,h2⟩:=j.one sa λx hx y hy=>by
  obtain⟨k,k1,k2,k3⟩:=iD hx
  have:=h0 y hy
  rw[show(0:Nat)=k by omega,kr_at k3] at this
  exact this
 refine⟨_,rfl,kp,?_⟩
 rw[Array.toList_append,Array.toList_append,yN,yN,Array.toList_reverse]
 exact⟨h1,h2⟩
theorem J2.a1(j:J2 r a.toList b.toList (na+1) nb out.toList)(sa:Srt r a.toList){p:Keyed}(hp:a[na]? = some p)(h:∀y∈b.toList.take nb,r y<=r p):J2 r a.toList b.toList na nb (out.push p).toList:=by
 have:=j.a sa (by rw[dS hp];intro x hx;rw[List.mem_singleton.mp hx];exact h)
 rw[dS hp] at this
 rw[Array.toList_push];exact this
theorem J2.b1(j:J2 r a.toList b.toList na (nb+1) out.toList)(sb:Srt r b.toList){p:Keyed}(hp:b[nb]? = some p)(h:∀y∈a.toList.take na,r y<=r p):J2 r a.toList b.toList na nb (out.push p).toList:=by
 have:=j.b sb (by rw[dS hp];intro x hx;rw[List.mem_singleton.mp hx];exact h)
 rw[dS hp] at this
 rw[Array.toList_push];exact this
end
end
section
variable {M:Model} {A:Around} {E:Value->Shared->Prop} {s:Shared} {r:Keyed->Nat} {D:Keyed->Prop} {κ:SortKind}
theorem sJ(C:Cmp M A E s κ D r){a b:Array Keyed}{st:SortSt}{Q:Array Keyed->SortSt->Prop}
 (hk:kindOf st=κ) (hDa:∀(i:Nat) p,a[i]? = some p->D p) (hDb:∀(i:Nat) p,b[i]? = some p->D p) (sa:Srt r a.toList) (sb:Srt r b.toList) (ha:0<a.size) (hb:0<b.size)
 (h0:∀y∈a.toList,kr r b 0<=r y) (hl:∀x∈b.toList,r x<=kr r a (a.size-1))
 (h:∀res st',dG st st'->res.toList.Perm (a.toList++b.toList)->Srt r res.toList->Q res st'):wpS M A E s (aAT a b) Q st:=by
 have fin:∀{c:Option (Array Keyed)} {st':SortSt},Rs r a b st st' c->∃res,c=some res/\Q res st':=λ⟨res,e,k,p,q⟩=>⟨res,e,h res _ k p q⟩
 have e0:=bJ (xs:=a) (i:=a.size-1) (by omega)
 have j0:J2 r a.toList b.toList (a.size-1) b.size #[a[a.size-1]].toList:=by
  have j:J2 r a.toList b.toList (a.size-1+1) b.size #[].toList:=⟨by rw[Nat.sub_add_cancel ha,List.drop_of_length_le (by simp),List.drop_of_length_le (by simp)];simp,List.Pairwise.nil,by simp,by simp⟩
  exact j.a1 sa e0 λy hy=>by
   have:=hl y (List.mem_of_mem_take hy)
   rwa [kr_at e0] at this
 refine wpS_bind (wpS_lift (wpAny_rule ⟨rfl,?_⟩))
 extract_lets total done firstOfB na nb
 refine wpS_bind (aM e0 ?_)
 extract_lets out
 by_cases g1:a.size-1=0
 . refine aE (if_pos (by simpa[na] using g1)) ?_
   obtain⟨res,e,q⟩:=fin (pX sb (dG.rfl' st) j0 g1)
   cases e
   exact wpS_pure q
 refine aE (if_neg (by simpa[na] using g1)) ?_
 by_cases g2:b.size=1
 . refine aE (if_pos (by simpa[nb] using g2)) ?_
   obtain⟨res,e,q⟩:=fin (pY sa h0 (dG.rfl' st) j0 g2)
   cases e
   exact wpS_pure q
 refine aE (if_neg (by simpa[nb] using g2)) ?_
 refine wpS_bind (wpS_get ?_)
 refine wpS_bind (wpS_mono (wpS_forRange (I:=λx (c:Option (Array Keyed)×Nat×Nat×Array Keyed×Nat) st'=>G2 r a b st st' c.1 c.2.2.2.1 c.2.1 c.2.2.1/\c.2.1+c.2.2.1+x+1<=a.size+b.size)
  (Q:=λc st'=>Rs r a b st st' c.1) ?step ?fin ⟨⟨rfl,dG.rfl' st,j0,by dsimp only[na];omega,by dsimp only[nb];omega,by dsimp only[na];omega,by dsimp only[nb];omega⟩,by dsimp only[na,nb];omega⟩) ?post)
 case post=>
  rintro ⟨c,_⟩ st' q
  obtain⟨res,e,q'⟩:=fin q
  dsimp only at e ⊢
  subst e
  exact wpS_pure q'
 case fin=>
  rintro ⟨c,i,j,o,m⟩ st' ⟨⟨q1,q2,q3,q4,q5,q7,q8⟩,q6⟩
  dsimp only[total] at q4 q5 q6
  omega
 case step=>
  rintro x ⟨c,i,j,o,m⟩ st1 _ hx ⟨⟨q1,q2,q3,q4,q5,q7,q8⟩,q6⟩
  dsimp only at q1 q2 q3 q4 q5 q6 q7 q8
  subst q1
  have hk1:kindOf st1=κ:=q2.1.trans hk
  have ht:total=a.size+b.size:=rfl
  refine wpS_bind (wpS_mono (wpS_forRange (I:=λx (c:Option (Array Keyed)×Nat×Nat×Array Keyed×Nat×Nat) st'=>st'=st1/\G2 r a b st st' c.1 c.2.2.2.1 c.2.1 c.2.2.1/\c.2.1+c.2.2.1+x<=i+j)
   (Q:=λc st'=>st'=st1/\(Rs r a b st st' c.1\/(G2 r a b st st' c.1 c.2.2.2.1 c.2.1 c.2.2.1/\c.2.1+c.2.2.1+1<=i+j))) ?step1 ?fin1 ⟨rfl,⟨rfl,q2,q3,q4,q5,q7,q8⟩,by dsimp only;omega⟩) ?post1)
  case fin1=>
   rintro ⟨c,i',j',o,ac,bc⟩ st' ⟨e,g,l⟩
   exact⟨e,.inr ⟨g,by dsimp only at l ⊢;omega⟩⟩
  case step1=>
   rintro x' ⟨c,i',j',o,ac,bc⟩ st' _ hx' ⟨rfl,⟨c1,_,c3,c4,c5,c6,c7⟩,l⟩
   dsimp only at c1 c3 c4 c5 c6 c7 l
   subst c1
   obtain⟨i0,rfl⟩:∃n,i'=n+1:=⟨i'-1,by omega⟩
   obtain⟨j0',rfl⟩:∃n,j'=n+1:=⟨j'-1,by omega⟩
   have ea:=bJ (xs:=a) (i:=i0) (by omega)
   have eb:=bJ (xs:=b) (i:=j0') (by omega)
   refine wpS_bind (aM eb ?_)
   refine wpS_bind (aM ea ?_)
   refine wpS_bind (C _ _ (hDb _ _ eb) (hDa _ _ ea) _ _ hk1 ?_)
   by_cases g:r b[j0']<r a[i0]
   . rw[decide_eq_true g]
     dsimp only
     rw[if_pos rfl]
     refine wpS_bind (aM ea ?_)
     have j1:=c3.a1 sa ea (kF sb (i:=j0') (by omega) (by omega) (by rw[kr_at eb];omega))
     by_cases g3:i0=0
     . refine aE (if_pos (by simpa using g3)) ?_
       exact wpS_pure ⟨rfl,.inl (pX sb q2 j1 g3)⟩
     refine aE (if_neg (by simpa using g3)) ?_
     by_cases g4:ac+1 ≥ m
     . refine aE (if_pos g4) ?_
       exact wpS_pure ⟨rfl,.inr ⟨⟨rfl,q2,j1,by dsimp only;omega,c5,by dsimp only;omega,c7⟩,by dsimp only;omega⟩⟩
     . refine aE (if_neg g4) ?_
       exact wpS_pure ⟨rfl,⟨rfl,q2,j1,by dsimp only;omega,c5,by dsimp only;omega,c7⟩,by dsimp only;omega⟩
   . rw[decide_eq_false g]
     dsimp only
     rw[if_neg bN]
     refine wpS_bind (aM eb ?_)
     have j1:=c3.b1 sb eb (kF sa (i:=i0) (by omega) (by omega) (by rw[kr_at ea];omega))
     by_cases g3:j0'=1
     . refine aE (if_pos (by simpa using g3)) ?_
       exact wpS_pure ⟨rfl,.inl (pY sa h0 q2 j1 g3)⟩
     refine aE (if_neg (by simpa using g3)) ?_
     by_cases g4:bc+1 ≥ m
     . refine aE (if_pos g4) ?_
       exact wpS_pure ⟨rfl,.inr ⟨⟨rfl,q2,j1,c4,by dsimp only;omega,c6,by dsimp only;omega⟩,by dsimp only;omega⟩⟩
     . refine aE (if_neg g4) ?_
       exact wpS_pure ⟨rfl,⟨rfl,q2,j1,c4,by dsimp only;omega,c6,by dsimp only;omega⟩,by dsimp only;omega⟩
  case post1=>
   rintro ⟨c,i',j',o,ac,bc⟩ st' ⟨rfl,g⟩
   rcases g with g|⟨⟨c1,_,c3,c4,c5,c6,c7⟩,l⟩
   . obtain⟨res,e,g'⟩:=g
     dsimp only at e ⊢
     subst e
     exact wpS_pure ⟨res,rfl,g'⟩
   dsimp only at c1 c3 c4 c5 c6 c7 l
   subst c1
   refine wpS_bind (wpS_lift (wpAny_rule ⟨rfl,?_⟩))
   refine wpS_bind (wpS_mono (wpS_forRange (I:=λx (c:Option (Array Keyed)×Nat×Nat×Array Keyed×Nat×Nat×Nat) st'=>G2 r a b st st' c.1 c.2.2.2.1 c.2.1 c.2.2.1/\c.2.1+c.2.2.1+1<=i+j)
    (Q:=λc st'=>Rs r a b st st' c.1\/(G2 r a b st st' c.1 c.2.2.2.1 c.2.1 c.2.2.1/\c.2.1+c.2.2.1+1<=i+j)) ?step2 ?fin2 ⟨⟨rfl,q2,c3,c4,c5,c6,c7⟩,l⟩) ?post2)
   case fin2=>
    rintro ⟨c,i',j',o,ac,bc⟩ st' ⟨g,l⟩
    exact .inr ⟨g,l⟩
   case post2=>
    rintro ⟨c,i',j',o,mg,ac,bc⟩ st' g
    rcases g with g|⟨⟨c1,k2,c3,c4,c5,c6,c7⟩,l⟩
    . obtain⟨res,e,g'⟩:=g
      dsimp only at e ⊢
      subst e
      exact wpS_pure ⟨res,rfl,g'⟩
    dsimp only at c1 c3 c4 c5 c6 c7 l
    subst c1
    refine wpS_bind (wpS_modify ?_)
    exact wpS_pure ⟨⟨rfl,k2,c3,c4,c5,c6,c7⟩,by dsimp only;omega⟩
   case step2=>
    rintro x' ⟨c,i',j',o,mg,ac,bc⟩ st' _ hx' ⟨⟨c1,k2,c3,c4,c5,c6,c7⟩,l⟩
    dsimp only at c1 k2 c3 c4 c5 c6 c7 l
    subst c1
    obtain⟨i0,rfl⟩:∃n,i'=n+1:=⟨i'-1,by omega⟩
    obtain⟨j0',rfl⟩:∃n,j'=n+1:=⟨j'-1,by omega⟩
    dsimp -zeta only
    extract_lets x1 x2 x3 x4 x5 x6 x7 x8 x9 x10 x11 x12 jp
    have e12:x12=j0':=rfl
    have e2:x2=i0+1:=rfl
    have e4:x4=j0'+1:=rfl
    have e6:x6=o:=rfl
    have e8:x8=mg:=rfl
    have e11:x11=bc:=rfl
    clear_value x12 x2 x4 x6 x8 x11
    subst e12 e2 e4 e6
    have main:∀m',wpS M A E s (jp () m') (λr' st'=>match r' with
     | .done c=>Rs r a b st st' c.1\/(G2 r a b st st' c.1 c.2.2.2.1 c.2.1 c.2.2.1/\c.2.1+c.2.2.1+1<=i+j)
     | .yield c=>G2 r a b st st' c.1 c.2.2.2.1 c.2.1 c.2.2.1/\c.2.1+c.2.2.1+1<=i+j) st':=by
     intro m'
     dsimp -zeta only[jp]
     refine wpS_bind (wpS_modify ?_)
     have eb:=bJ (xs:=b) (i:=x12) (by omega)
     refine wpS_bind (aM eb ?_)
     refine wpS_bind (cJ C (k2.1.trans hk) hDa (hDb _ _ eb) (by omega) (by omega) (λi1 i2 h1 h2=>jC sa (by omega) (by omega)) λk hkn b1 b2=>?_)
     dsimp -zeta only
     extract_lets kk acount jp2
     have hkk:kk=i0+1-k:=rfl
     clear_value kk
     have ek:i0+1=k+kk:=by omega
     have ja:=(ek▸c3).a sa (λz hz y hy=>by
      obtain⟨n1,n2,n3,n4⟩:=lO hz
      have h1:=b2 (k+n1) (by omega) (by omega)
      unfold Bp at h1
      rw[Nat.zero_add,kr_at n4] at h1
      simp only[bF,if_false,Bool.not_eq_false',decide_eq_true_eq] at h1
      exact kF sb (i:=x12) (by omega) (by omega) (by rw[kr_at eb];omega) y hy)
     have ka:∀y∈a.toList.take k,r y<=r b[x12]:=λy hy=>by
      obtain⟨n1,n2,n3,n4⟩:=iD hy
      have h1:=b1 n1 n2
      unfold Bp at h1
      rw[Nat.zero_add,kr_at n4] at h1
      simp only[bF,if_false,Bool.not_eq_true',decide_eq_false_iff_not] at h1
      omega
     have main2:∀st2 i2 o',dG st st2->J2 r a.toList b.toList i2 (x12+1) o'.toList->0<i2->i2<=a.size->i2+(x12+1)+1<=i+j->(∀y∈a.toList.take i2,r y<=r b[x12])->wpS M A E s (jp2 () i2 o') (λr' st'=>match r' with
      | .done c=>Rs r a b st st' c.1\/(G2 r a b st st' c.1 c.2.2.2.1 c.2.1 c.2.2.1/\c.2.1+c.2.2.1+1<=i+j)
      | .yield c=>G2 r a b st st' c.1 c.2.2.2.1 c.2.1 c.2.2.1/\c.2.1+c.2.2.1+1<=i+j) st2:=by
      intro st2 i2 o' k3 jj hi2 hia hle hdr
      dsimp -zeta only[jp2]
      refine wpS_bind (aM eb ?_)
      have j1:=jj.b1 sb eb hdr
      by_cases g3:x12=1
      . refine aE (if_pos (by simpa using g3)) ?_
        exact wpS_pure (.inl (pY sa h0 k3 j1 g3))
      refine aE (if_neg (by simpa using g3)) ?_
      obtain⟨i3,rfl⟩:∃n,i2=n+1:=⟨i2-1,by omega⟩
      have ea:=bJ (xs:=a) (i:=i3) (by omega)
      refine wpS_bind (aM ea ?_)
      refine wpS_bind (cJ C (k3.1.trans hk) hDb (hDa _ _ ea) (by omega) (by omega) (λi1 i2 h1 h2=>jC sb (by omega) (by omega)) λk' hkn' b1' b2'=>?_)
      dsimp -zeta only
      extract_lets kk' bcount x3a jp3
      have e3a:i3=x3a:=rfl
      clear_value x3a
      subst e3a
      have hkk':kk'=x12-k':=rfl
      clear_value kk'
      have ek':x12=k'+kk':=by omega
      have jb:=(show J2 r a.toList b.toList (i3+1) (k'+kk') (o'.push b[x12]).toList by rw[<-ek'];exact j1).b sb (λz hz y hy=>by
       obtain⟨n1,n2,n3,n4⟩:=lO hz
       have h1:=b2' (k'+n1) (by omega) (by omega)
       unfold Bp at h1
       rw[Nat.zero_add,kr_at n4] at h1
       simp only[if_true,decide_eq_false_iff_not] at h1
       exact kF sa (i:=i3) (by omega) (by omega) (by rw[kr_at ea];omega) y hy)
      have kb:∀y∈b.toList.take k',r y<=r a[i3]:=λy hy=>by
       obtain⟨n1,n2,n3,n4⟩:=iD hy
       have h1:=b1' n1 n2
       unfold Bp at h1
       rw[Nat.zero_add,kr_at n4] at h1
       simp only[if_true,decide_eq_true_eq] at h1
       omega
      have main3:∀j3 o3,J2 r a.toList b.toList (i3+1) j3 o3.toList->1<j3->j3<=b.size->i3+j3+1<=i+j->(∀y∈b.toList.take j3,r y<=r a[i3])->wpS M A E s (jp3 () j3 o3) (λr' st'=>match r' with
       | .done c=>Rs r a b st st' c.1\/(G2 r a b st st' c.1 c.2.2.2.1 c.2.1 c.2.2.1/\c.2.1+c.2.2.1+1<=i+j)
       | .yield c=>G2 r a b st st' c.1 c.2.2.2.1 c.2.1 c.2.2.1/\c.2.1+c.2.2.1+1<=i+j) st2:=by
       intro j3 o3 jj3 hj3 hjb hle3 hdr3
       dsimp -zeta only[jp3]
       refine wpS_bind (aM ea ?_)
       have j4:=jj3.a1 sa ea hdr3
       by_cases g4:i3=0
       . refine aE (if_pos (by simpa using g4)) ?_
         exact wpS_pure (.inl (pX sb k3 j4 g4))
       refine aE (if_neg (by simpa using g4)) ?_
       by_cases g5:(decide (acount<7)&&decide (bcount<7))=true
       . refine aE (if_pos g5) ?_
         exact wpS_pure (.inr ⟨⟨rfl,k3,j4,by dsimp only;omega,hj3,by dsimp only;omega,hjb⟩,by dsimp only;omega⟩)
       . refine aE (if_neg g5) ?_
         exact wpS_pure ⟨⟨rfl,k3,j4,by dsimp only;omega,hj3,by dsimp only;omega,hjb⟩,by dsimp only;omega⟩
      have ext1:((b.toList.drop k').take kk').reverse=((b.extract k' x12).reverse).toList:=by rw[Array.toList_reverse,ek',gO]
      by_cases g6:kk'>0
      . refine aE (if_pos g6) ?_
        rw[ext1,<-Array.toList_append] at jb
        by_cases g7:k'=1
        . refine aE (if_pos (by simpa using g7)) ?_
          exact wpS_pure (.inl (pY sa h0 k3 jb g7))
        refine aE (if_neg (by simpa using g7)) ?_
        by_cases g8:k'=0
        . refine aE (if_pos (by simpa using g8)) ?_
          exact wpS_pure (.inl (aFl sa k3 jb g8))
        refine aE (if_neg (by simpa using g8)) ?_
        exact main3 _ _ jb (by omega) (by omega) (by omega) kb
      . refine aE (if_neg g6) ?_
        have e:k'=x12:=by omega
        exact main3 _ _ j1 (by omega) (by omega) (by omega) (e▸kb)
     have ext2:((a.toList.drop k).take kk).reverse=((a.extract k (i0+1)).reverse).toList:=by rw[Array.toList_reverse,ek,gO]
     by_cases g6:kk>0
     . refine aE (if_pos g6) ?_
       rw[ext2,<-Array.toList_append] at ja
       by_cases g7:k=0
       . refine aE (if_pos (by simpa using g7)) ?_
         exact wpS_pure (.inl (pX sb k2 ja g7))
       refine aE (if_neg (by simpa using g7)) ?_
       exact main2 _ _ _ k2 ja (by omega) (by omega) (by omega) ka
     . refine aE (if_neg g6) ?_
       have e:k=i0+1:=by omega
       exact main2 _ _ _ k2 c3 (by omega) (by omega) (by omega) (e▸ka)
    by_cases g:x8>1
    . refine aE (if_pos g) ?_
      exact wpS_mono (main _) λr' st2 h=>by cases r' <;> exact h
    . refine aE (if_neg g) ?_
      exact wpS_mono (main _) λr' st2 h=>by cases r' <;> exact h
end
section
variable {M:Model} {A:Around} {E:Value->Shared->Prop} {s:Shared} {r:Keyed->Nat} {D:Keyed->Prop} {κ:SortKind}
noncomputable def Sg(r:Keyed->Nat)(xs:Array Keyed)(lo hi:Nat):Prop:=∀i j,lo<=i->i<=j->j<hi->kr r xs i<=kr r xs j
noncomputable def wr(base:Nat)(xs:Array Keyed)(m:List Keyed)(j:Nat):Array Keyed:=(m.zipIdx j).foldl (λa q=>a.setIfInBounds (base+q.2) q.1) xs
theorem aAU(base:Nat):∀(m:List Keyed) (j:Nat) (xs:Array Keyed) (k:Nat),base+j+m.length<=xs.size->(wr base xs m j)[k]? = if base+j<=k/\k<base+j+m.length then m[k-(base+j)]? else xs[k]?
 | [],j,xs,k,_=>by rw[if_neg (by rw[lN];omega)];rfl
 | p::m,j,xs,k,h=>by
  rw[lC] at h ⊢
  show(wr base (xs.setIfInBounds (base+j) p) m (j+1))[k]? = _
  rw[aAU base m (j+1) _ k (by rw[Array.size_setIfInBounds];omega)]
  by_cases g:k=base+j
  . subst g
    rw[if_neg (by omega),if_pos (by omega),Nat.sub_self,Array.getElem?_setIfInBounds_self,if_pos (by omega)]
    rfl
  . by_cases g2:base+j<=k/\k<base+j+(m.length+1)
    . rw[if_pos (by omega),if_pos g2]
      obtain⟨z,rfl⟩:∃z,k=base+(j+1)+z:=⟨k-(base+(j+1)),by omega⟩
      rw[Nat.add_sub_cancel_left,show base+(j+1)+z-(base+j)=z+1 by omega,gS]
    . rw[if_neg (by omega),if_neg g2,Array.getElem?_setIfInBounds_ne (by omega)]
theorem aCO{base:Nat}{m:List Keyed}{xs:Array Keyed}(h:base+m.length<=xs.size):(wr base xs m 0).toList=xs.toList.take base++m++xs.toList.drop (base+m.length):=by
 apply List.ext_getElem?
 intro k
 rw[Array.getElem?_toList,aAU base m 0 xs k (by omega),Nat.add_zero]
 have hl:(xs.toList.take base).length=base:=by simp;omega
 by_cases g:base<=k/\k<base+m.length
 . rw[if_pos g,List.append_assoc,List.getElem?_append_right (by omega),hl,List.getElem?_append_left (by omega)]
 . rw[if_neg g]
   by_cases g2:k<base
   . rw[List.append_assoc,List.getElem?_append_left (by omega),List.getElem?_take,if_pos g2,Array.getElem?_toList]
   . rw[List.getElem?_append_right (by rw[lA];omega),lA,hl,List.getElem?_drop,show base+m.length+(k-(base+m.length))=k by omega,Array.getElem?_toList]
theorem Sg.srt{xs:Array Keyed}{lo hi:Nat}(h:Sg r xs lo hi)(hh:hi<=xs.size):Srt r (xs.extract lo hi).toList:=by
 refine List.pairwise_iff_getElem.mpr λi j hi' hj hij=>?_
 have hj':lo+j<hi:=by simp at hj;omega
 have q:=h (lo+i) (lo+j) (by omega) (by omega) hj'
 rw[kr_at (bJ (show lo+i<xs.size by omega)),kr_at (bJ (show lo+j<xs.size by omega))] at q
 simpa using q
theorem wB{xs:Array Keyed}{lo hi:Nat}{p:Keyed}(h:p∈(xs.extract lo hi).toList):∃j,lo<=j/\j<hi/\j<xs.size/\xs[j]? = some p:=by
 obtain⟨j,hj,e⟩:=List.mem_iff_getElem.mp h
 have hj':lo+j<hi/\lo+j<xs.size:=by simp at hj;omega
 exact⟨lo+j,by omega,hj'.1,hj'.2,by rw[bJ hj'.2,<-e];simp⟩
theorem aCP{x st:SortSt}{Q:PUnit->SortSt->Prop}(h:Q ⟨⟩ x):wpS M A E s (set x:StateT SortSt Sem PUnit) Q st:=by
 unfold wpS;rw[StateT.run_set];exact wpAny_pure ⟨rfl,h⟩
structure Md (r:Keyed->Nat) (st st':SortSt) (lo hi:Nat):Prop where
 kd:kindOf st'=kindOf st
 fl:failedOf st'=failedOf st
 pm:(arrOf st').toList.Perm (arrOf st).toList
 out:∀k,k<lo\/hi<=k->(arrOf st')[k]? = (arrOf st)[k]?
 sg:Sg r (arrOf st') lo hi
theorem sK(C:Cmp M A E s κ D r){st:SortSt}{i s1 n1 n2 p1 p2:Nat}{Q:Bool->SortSt->Prop}(hk:kindOf st=κ)(hf:failedOf st=none)(hD:∀(i:Nat) p,(arrOf st)[i]? = some p->D p)
 (h1:(pendingOf st)[i]? = some (s1,n1,p1)) (h2:(pendingOf st)[i+1]? = some (s1+n1,n2,p2)) (g1:Sg r (arrOf st) s1 (s1+n1)) (g2:Sg r (arrOf st) (s1+n1) (s1+n1+n2)) (z1:0<n1) (z2:0<n2) (hs:s1+n1+n2<=(arrOf st).size)
 (h:∀st',Md r st st' s1 (s1+n1+n2)->pendingOf st'=((pendingOf st).setIfInBounds i (s1,n1+n2,p1)).eraseIdxIfInBounds (i+1)->Q true st'):wpS M A E s (mergeAt' i) Q st:=by
 refine wpS_bind (wpS_get ?_)
 dsimp -zeta only
 rw[h1,h2]
 dsimp -zeta only
 refine wpS_bind (aCP ?_)
 have eb:=bJ (xs:=arrOf st) (i:=s1+n1) (by omega)
 refine wpS_bind (aM eb ?_)
 refine wpS_bind (cJ C (show kindOf _=κ from hk) hD (hD _ _ eb) (show s1+n1<=(arrOf st).size by omega) z1 (λi1 i2 h1 h2=>g1 _ _ (by omega) (by omega) (by omega)) λk hkn b1 b2=>?_)
 dsimp -zeta only
 have pa:∀i',s1<=i'->i'<s1+k->kr r (arrOf st) i'<=kr r (arrOf st) (s1+n1):=λi' l1 l2=>by
  have q:=b1 (i'-s1) (by omega)
  unfold Bp at q
  rw[show s1+(i'-s1)=i' by omega] at q
  simp only[bF,if_false,Bool.not_eq_true',decide_eq_false_iff_not] at q
  rw[kr_at eb];exact Nat.le_of_not_lt q
 have pb:∀i',s1+k<=i'->i'<s1+n1->kr r (arrOf st) (s1+n1)<=kr r (arrOf st) i':=λi' l1 l2=>by
  have q:=b2 (i'-s1) (by omega) (by omega)
  unfold Bp at q
  rw[show s1+(i'-s1)=i' by omega] at q
  simp only[bF,if_false,Bool.not_eq_false',decide_eq_true_eq] at q
  rw[kr_at eb];exact Nat.le_of_lt q
 have whole:(∀i' j',s1<=i'->i'<s1+n1->s1+n1<=j'->j'<s1+n1+n2->kr r (arrOf st) i'<=kr r (arrOf st) j')->Sg r (arrOf st) s1 (s1+n1+n2):=λhx i' j' l1 l2 l3=>by
  by_cases c1:j'<s1+n1
  . exact g1 _ _ l1 l2 c1
  . by_cases c2:i'<s1+n1
    . exact hx _ _ l1 c2 (by omega) l3
    . exact g2 _ _ (by omega) l2 l3
 by_cases e1:n1-k=0
 . refine aE (if_pos (by simpa using e1)) ?_
   refine wpS_pure (h _ ⟨rfl,rfl,List.Perm.refl _,λ_ _=>rfl,?_⟩ rfl)
   exact whole λi' j' l1 l2 l3 l4=>Nat.le_trans (pa i' l1 (by omega)) (g2 _ _ (Nat.le_refl _) l3 l4)
 refine aE (if_neg (by simpa using e1)) ?_
 have ea:=bJ (xs:=arrOf st) (i:=s1+k+(n1-k)-1) (by omega)
 refine wpS_bind (aM ea ?_)
 refine wpS_bind (cJ C (show kindOf _=κ from hk) hD (hD _ _ ea) (show s1+n1+n2<=(arrOf st).size from hs) (by omega) (λi1 i2 h1 h2=>g2 _ _ (by omega) (by omega) (by omega)) λm hmn d1 d2=>?_)
 dsimp -zeta only
 have el:s1+k+(n1-k)-1=s1+n1-1:=by omega
 have pc:∀j',s1+n1<=j'->j'<s1+n1+m->kr r (arrOf st) j'<=kr r (arrOf st) (s1+n1-1):=λj' l1 l2=>by
  have q:=d1 (j'-(s1+n1)) (by omega)
  unfold Bp at q
  rw[show s1+n1+(j'-(s1+n1))=j' by omega] at q
  simp only[if_true,decide_eq_true_eq] at q
  rw[<-el,kr_at ea];exact Nat.le_of_lt q
 have pd:∀j',s1+n1+m<=j'->j'<s1+n1+n2->kr r (arrOf st) (s1+n1-1)<=kr r (arrOf st) j':=λj' l1 l2=>by
  have q:=d2 (j'-(s1+n1)) (by omega) (by omega)
  unfold Bp at q
  rw[show s1+n1+(j'-(s1+n1))=j' by omega] at q
  simp only[if_true,decide_eq_false_iff_not] at q
  rw[<-el,kr_at ea];exact Nat.le_of_not_lt q
 by_cases e2:m=0
 . refine aE (if_pos (by simpa using e2)) ?_
   refine wpS_pure (h _ ⟨rfl,rfl,List.Perm.refl _,λ_ _=>rfl,?_⟩ rfl)
   exact whole λi' j' l1 l2 l3 l4=>Nat.le_trans (g1 _ _ l1 (by omega) (by omega)) (pd j' (by omega) l4)
 refine aE (if_neg (by simpa using e2)) ?_
 extract_lets x y jp
 have hx:x=(arrOf st).extract (s1+k) (s1+n1):=rfl
 have hy:y=(arrOf st).extract (s1+n1) (s1+n1+m):=rfl
 clear_value x y
 have lx:x.size=n1-k:=by rw[hx,Array.size_extract];omega
 have ly:y.size=m:=by rw[hy,Array.size_extract];omega
 have mx:∀{p},p∈x.toList->∃j,s1+k<=j/\j<s1+n1/\(arrOf st)[j]? = some p:=λ{p} hp=>by
  rw[hx] at hp
  obtain⟨j,q1,q2,_,q4⟩:=wB hp
  exact⟨j,q1,q2,q4⟩
 have my:∀{p},p∈y.toList->∃j,s1+n1<=j/\j<s1+n1+m/\(arrOf st)[j]? = some p:=λ{p} hp=>by
  rw[hy] at hp
  obtain⟨j,q1,q2,_,q4⟩:=wB hp
  exact⟨j,q1,q2,q4⟩
 have kx:∀j,j<n1-k->kr r x j=kr r (arrOf st) (s1+k+j):=λj hj=>by
  rw[hx,kr,kr,Array.getElem?_extract,if_pos (by omega)]
 have ky:∀j,j<m->kr r y j=kr r (arrOf st) (s1+n1+j):=λj hj=>by
  rw[hy,kr,kr,Array.getElem?_extract,if_pos (by omega)]
 have sx:Srt r x.toList:=by rw[hx];exact Sg.srt (λi' j' a1 a2 a3=>g1 _ _ (by omega) a2 a3) (by omega)
 have sy:Srt r y.toList:=by rw[hy];exact Sg.srt (λi' j' a1 a2 a3=>g2 _ _ (by omega) a2 (by omega)) (by omega)
 have main:∀merged st2,dG (SortSt.mk' (kindOf st) (arrOf st) (((pendingOf st).setIfInBounds i (s1,n1+n2,p1)).eraseIdxIfInBounds (i+1)) (gallopOf st) (failedOf st)) st2->merged.toList.Perm (x.toList++y.toList)->Srt r merged.toList->wpS M A E s (jp merged) Q st2:=by
  intro merged st2 kp pm so
  dsimp -zeta only[jp]
  have ls:merged.toList.length=n1-k+m:=by rw[pm.length_eq,lA,<-lx,<-ly];simp
  have ea2:arrOf st2=arrOf st:=kp.2.1
  refine wpS_bind (wpS_modify (wpS_bind (wpS_get (wpS_pure ?_))))
  have hfl:failedOf st2=none:=kp.2.2.2.trans hf
  show Q (failedOf st2).isNone _
  rw[hfl]
  have hw:s1+k+merged.toList.length<=(arrOf st).size:=by omega
  have at':∀z,(wr (s1+k) (arrOf st) merged.toList 0)[z]? = if s1+k<=z/\z<s1+k+(n1-k+m) then merged.toList[z-(s1+k)]? else (arrOf st)[z]? := λz=>by
   rw[aAU _ _ _ _ _ (by omega),ls,Nat.add_zero]
  refine h _ ⟨kp.1,kp.2.2.2,?_,λz hz=>?_,?_⟩ kp.2.2.1
  . show(wr (s1+k) (arrOf st2) merged.toList 0).toList.Perm _
    rw[ea2,aCO hw,ls]
    have e3:(arrOf st).toList=(arrOf st).toList.take (s1+k)++(x.toList++y.toList)++(arrOf st).toList.drop (s1+k+(n1-k+m)):=by
     rw[hx,hy,show s1+n1=s1+k+(n1-k) by omega,gO,gO,<-List.append_assoc,<-dY,<-dY,show s1+k+(n1-k)+m=s1+k+(n1-k+m) by omega,List.take_append_drop]
    refine List.Perm.trans ?_ (List.Perm.of_eq e3.symm)
    exact(pm.append_left _).append_right _
  . show(wr (s1+k) (arrOf st2) merged.toList 0)[z]? = _
    rw[ea2,at',if_neg (by omega)]
  . show Sg r (wr (s1+k) (arrOf st2) merged.toList 0) _ _
    rw[ea2]
    have inn:∀z,s1+k<=z->z<s1+k+(n1-k+m)->∃p∈x.toList++y.toList,kr r (wr (s1+k) (arrOf st) merged.toList 0) z=r p:=λz l1 l2=>by
     have hz:z-(s1+k)<merged.toList.length:=by omega
     refine⟨merged.toList[z-(s1+k)],pm.mem_iff.mp (List.getElem_mem hz),?_⟩
     unfold kr
     rw[at',if_pos ⟨l1,l2⟩,List.getElem?_eq_getElem hz]
    have ex:∀z,z<s1+k\/s1+k+(n1-k+m)<=z->kr r (wr (s1+k) (arrOf st) merged.toList 0) z=kr r (arrOf st) z:=λz hz=>by
     unfold kr
     rw[at',if_neg (by omega)]
    intro i' j' l1 l2 l3
    by_cases c1:i'<s1+k
    . rw[ex i' (.inl c1)]
      by_cases c2:j'<s1+k
      . rw[ex j' (.inl c2)];exact g1 _ _ l1 l2 (by omega)
      by_cases c3:j'<s1+k+(n1-k+m)
      . obtain⟨p,hp,e⟩:=inn j' (by omega) c3
        rw[e]
        rcases List.mem_append.mp hp with hp|hp
        . obtain⟨z,y1,y2,y3⟩:=mx hp
          rw[<-kr_at (r:=r) y3];exact g1 _ _ l1 (by omega) y2
        . obtain⟨z,y1,y2,y3⟩:=my hp
          rw[<-kr_at (r:=r) y3];exact Nat.le_trans (pa i' l1 c1) (g2 _ _ (Nat.le_refl _) y1 (by omega))
      . rw[ex j' (.inr (by omega))]
        exact Nat.le_trans (pa i' l1 c1) (g2 _ _ (Nat.le_refl _) (by omega) l3)
    by_cases c3:j'<s1+k+(n1-k+m)
    . have h1:i'-(s1+k)<merged.toList.length:=by omega
      have h2:j'-(s1+k)<merged.toList.length:=by omega
      unfold kr
      rw[at',at',if_pos (by omega),if_pos (by omega),List.getElem?_eq_getElem h1,List.getElem?_eq_getElem h2]
      rcases Nat.lt_or_eq_of_le l2 with c4|c4
      . exact List.pairwise_iff_getElem.mp so _ _ h1 h2 (by omega)
      . subst c4;exact Nat.le_refl _
    . rw[ex j' (.inr (by omega))]
      by_cases c4:i'<s1+k+(n1-k+m)
      . obtain⟨p,hp,e⟩:=inn i' (by omega) c4
        rw[e]
        rcases List.mem_append.mp hp with hp|hp
        . obtain⟨z,y1,y2,y3⟩:=mx hp
          rw[<-kr_at (r:=r) y3];exact Nat.le_trans (g1 _ _ (by omega) (show z<=s1+n1-1 by omega) (by omega)) (pd j' (by omega) l3)
        . obtain⟨z,y1,y2,y3⟩:=my hp
          rw[<-kr_at (r:=r) y3];exact g2 _ _ y1 (by omega) l3
      . rw[ex i' (.inr (by omega))]
        exact g2 _ _ (by omega) l2 l3
 have hb0:∀q∈x.toList,kr r y 0<=r q:=λq hq=>by
  obtain⟨z,y1,y2,y3⟩:=mx hq
  rw[ky 0 (by omega),<-kr_at (r:=r) y3];exact pb z y1 y2
 have hla:∀q∈y.toList,r q<=kr r x (x.size-1):=λq hq=>by
  obtain⟨z,y1,y2,y3⟩:=my hq
  rw[lx,kx _ (by omega),<-kr_at (r:=r) y3,show s1+k+(n1-k-1)=s1+n1-1 by omega];exact pc z y1 y2
 have dx:∀(i:Nat) p,x[i]? = some p->D p:=λi' p hp=>by
  obtain⟨z,_,_,y3⟩:=mx (Array.mem_toList_iff.mpr (Array.mem_of_getElem? hp));exact hD _ _ y3
 have dy:∀(i:Nat) p,y[i]? = some p->D p:=λi' p hp=>by
  obtain⟨z,_,_,y3⟩:=my (Array.mem_toList_iff.mpr (Array.mem_of_getElem? hp));exact hD _ _ y3
 by_cases e3:n1-k<=m
 . refine aE (if_pos e3) ?_
   exact wpS_bind (sH C (show kindOf _=κ from hk) dx dy sx sy (by omega) (by omega) hb0 hla λres st2 kp pm so=>main res st2 kp pm so)
 . refine aE (if_neg e3) ?_
   exact wpS_bind (sJ C (show kindOf _=κ from hk) dx dy sx sy (by omega) (by omega) hb0 hla λres st2 kp pm so=>main res st2 kp pm so)
end
section
variable {M:Model} {A:Around} {E:Value->Shared->Prop} {s:Shared} {r:Keyed->Nat} {D:Keyed->Prop} {κ:SortKind}
theorem jD(C:Cmp M A E s κ D r){st:SortSt}{i j:Nat}{Q:Option Bool->SortSt->Prop}(hk:kindOf st=κ)(hD:∀(i:Nat) p,(arrOf st)[i]? = some p->D p)(hi:i<(arrOf st).size)(hj:j<(arrOf st).size)
 (h:Q (some (decide (kr r (arrOf st) i<kr r (arrOf st) j))) st):wpS M A E s (ltAt' i j) Q st:=by
 rw[ltAt'_eq]
 refine wpS_bind (wpS_get (wpS_bind (aM (bJ hi) (wpS_bind (aM (bJ hj) ?_)))))
 rw[kr_at (bJ hi),kr_at (bJ hj)] at h
 exact C _ _ (hD _ _ (bJ hi)) (hD _ _ (bJ hj)) st _ hk h
noncomputable def Nd(r:Keyed->Nat)(xs:Array Keyed):Prop:=(xs.toList.map r).Nodup
theorem Nd.ne{xs:Array Keyed}(h:Nd r xs){i j:Nat}(hij:i<j)(hj:j<xs.size):kr r xs i≠kr r xs j:=by
 rw[kr_at (bJ (show i<xs.size by omega)),kr_at (bJ hj)]
 have:=List.pairwise_iff_getElem.mp h i j (by simp;omega) (by simp;omega) hij
 simpa using this
theorem Nd.perm{xs ys:Array Keyed}(h:Nd r xs)(p:ys.toList.Perm xs.toList):Nd r ys:=(p.map r).nodup_iff.mpr h
theorem pZ(C:Cmp M A E s κ D r){st:SortSt}{lo nrem:Nat}{Q:Option Nat->SortSt->Prop}(hk:kindOf st=κ)(hD:∀(i:Nat) p,(arrOf st)[i]? = some p->D p)(nd:Nd r (arrOf st))(h1:1<=nrem)(hs:lo+nrem<=(arrOf st).size)
 (h:∀n st',1<=n->n<=nrem->Md r st st' lo (lo+n)->pendingOf st'=pendingOf st->Q (some n) st'):wpS M A E s (countRun' lo nrem) Q st:=by
 refine wpS_bind (wpS_mono (wpS_forRange (I:=λx (c:Option (Option Nat)×Nat) st'=>st'=st/\c.1=none/\c.2=x/\Sg r (arrOf st) lo (lo+c.2))
  (Q:=λc st'=>st'=st/\c.1=none/\1<=c.2/\c.2<=nrem/\Sg r (arrOf st) lo (lo+c.2)/\(c.2=nrem\/kr r (arrOf st) (lo+c.2)<kr r (arrOf st) (lo+c.2-1))) ?step ?fin ⟨rfl,rfl,rfl,λi j a b c=>by have:i=j:=by { dsimp only at c;omega };subst this;exact Nat.le_refl _⟩) ?post)
 case fin=>
  rintro ⟨c,n⟩ st' ⟨rfl,e1,e2,e3⟩
  dsimp only at e1 e2 e3 ⊢
  exact⟨rfl,e1,by omega,by omega,e3,.inl (by omega)⟩
 case step=>
  rintro x ⟨c,n⟩ st' hx1 hx2 ⟨rfl,e1,e2,e3⟩
  dsimp only at e1 e2 e3
  subst e1 e2
  refine wpS_bind (jD C hk hD (i:=lo+n) (j:=lo+n-1) (by omega) (by omega) ?_)
  by_cases g:kr r (arrOf st') (lo+n)<kr r (arrOf st') (lo+n-1)
  . rw[decide_eq_true g]
    exact wpS_pure ⟨rfl,rfl,hx1,by dsimp only;omega,e3,.inr g⟩
  . rw[decide_eq_false g]
    refine wpS_pure ⟨rfl,rfl,rfl,λi j a b c=>?_⟩
    dsimp only at c
    by_cases c1:j<lo+n
    . exact e3 _ _ a b c1
    . by_cases c2:i=j
      . subst c2;exact Nat.le_refl _
      . have:=e3 i (lo+n-1) a (by omega) (by omega)
        rw[show j=lo+n by omega];omega
 case post=>
  rintro ⟨c,n⟩ st' ⟨rfl,e1,e2,e3,e4,e5⟩
  dsimp only at e1 e2 e3 e4 e5
  subst e1
  dsimp -zeta only
  by_cases g1:n=nrem
  . refine aE (if_pos (by simpa using g1)) ?_
    exact wpS_pure (h n st' e2 e3 ⟨rfl,rfl,List.Perm.refl _,λ_ _=>rfl,e4⟩ rfl)
  refine aE (if_neg (by simpa using g1)) ?_
  have e5:=e5.resolve_left g1
  extract_lets y1 y2 jp
  by_cases g2:n>1
  . refine aE (if_pos g2) ?_
    refine wpS_bind (jD C hk hD (i:=lo) (j:=lo+n-1) (by omega) (by omega) ?_)
    have q:kr r (arrOf st') lo<kr r (arrOf st') (lo+n-1):=Nat.lt_of_le_of_ne (e4 _ _ (Nat.le_refl _) (by omega) (by omega)) (nd.ne (by omega) (by omega))
    rw[decide_eq_true q]
    exact wpS_pure (h n st' e2 e3 ⟨rfl,rfl,List.Perm.refl _,λ_ _=>rfl,e4⟩ rfl)
  refine aE (if_neg g2) ?_
  obtain rfl:n=1:=by omega
  dsimp -zeta only[jp]
  refine wpS_bind (wpS_lift (wpAny_rule ⟨rfl,?_⟩))
  refine wpS_bind (wpS_mono (wpS_forRange (I:=λx (c:Option (Option Nat)×Nat×Nat) st2=>st2=st'/\c.1=none/\c.2.1=x/\c.2.2=0/\∀i j,lo<=i->i<j->j<lo+c.2.1->kr r (arrOf st') j<=kr r (arrOf st') i)
   (Q:=λc st2=>st2=st'/\c.1=none/\2<=c.2.1/\c.2.1<=nrem/\c.2.2=0/\∀i j,lo<=i->i<j->j<lo+c.2.1->kr r (arrOf st') j<=kr r (arrOf st') i) ?stepd ?find ⟨rfl,rfl,rfl,rfl,λi j a b c=>?initd⟩) ?postd)
  case initd=>
   dsimp only at c
   rw[show i=lo by omega,show j=lo+1 by omega]
   exact Nat.le_of_lt e5
  case find=>
   rintro ⟨c,n,q⟩ st2 ⟨rfl,f1,f2,f3,f4⟩
   dsimp only at f1 f2 f3 f4 ⊢
   exact⟨rfl,f1,by omega,by omega,f3,f4⟩
  case stepd=>
   rintro x ⟨c,n,q⟩ st2 hx1 hx2 ⟨rfl,f1,f2,f3,f4⟩
   dsimp only at f1 f2 f3 f4
   subst f1 f2 f3
   refine wpS_bind (jD C hk hD (i:=lo+n) (j:=lo+n-1) (by omega) (by omega) ?_)
   by_cases g:kr r (arrOf st2) (lo+n)<kr r (arrOf st2) (lo+n-1)
   . rw[decide_eq_true g]
     refine wpS_pure ⟨rfl,rfl,rfl,rfl,λi j a b c=>?_⟩
     dsimp only at c
     by_cases c1:j<lo+n
     . exact f4 _ _ a b c1
     . rw[show j=lo+n by omega]
       by_cases c2:i=lo+n-1
       . rw[c2];omega
       . have:=f4 i (lo+n-1) a (by omega) (by omega)
         omega
   . rw[decide_eq_false g]
     refine wpS_bind (jD C hk hD (i:=lo+n-1) (j:=lo+n) (by omega) (by omega) ?_)
     have q:kr r (arrOf st2) (lo+n-1)<kr r (arrOf st2) (lo+n):=Nat.lt_of_le_of_ne (by omega) (nd.ne (by omega) (by omega))
     rw[decide_eq_true q]
     exact wpS_pure ⟨rfl,rfl,by dsimp only;omega,by dsimp only;omega,rfl,f4⟩
  case postd=>
   rintro ⟨c,n,q⟩ st2 ⟨rfl,f1,f2,f3,f4,f5⟩
   dsimp only at f1 f2 f3 f4 f5
   subst f1 f4
   refine aE (if_neg (Nat.lt_irrefl 0)) ?_
   refine wpS_bind (wpS_modify ?_)
   have hm:lo+n<=(arrOf st2).size:=by omega
   have am:∀k:Nat,(mirror (arrOf st2) lo (lo+n) ((lo+n-lo) / 2))[k]? = if lo<=k/\k<lo+n then (arrOf st2)[lo+(lo+n)-1-k]? else (arrOf st2)[k]? := λk=>getElem?_mirror_all hm k
   have km:∀k:Nat,kr r (mirror (arrOf st2) lo (lo+n) ((lo+n-lo) / 2)) k=if lo<=k/\k<lo+n then kr r (arrOf st2) (lo+(lo+n)-1-k) else kr r (arrOf st2) k:=λk=>by
    by_cases c:lo<=k/\k<lo+n
    . rw[if_pos c,kr,am,if_pos c];rfl
    . rw[if_neg c,kr,am,if_neg c];rfl
   have pmm:(mirror (arrOf st2) lo (lo+n) ((lo+n-lo) / 2)).toList.Perm (arrOf st2).toList:=(mirror_perm _ _ _ _).toList
   have md:∀n',n<=n'->Sg r (mirror (arrOf st2) lo (lo+n) ((lo+n-lo) / 2)) lo (lo+n')->Md r st2 (setArr st2 (mirror (arrOf st2) lo (lo+n) ((lo+n-lo) / 2))) lo (lo+n'):=λn' hn sg=>⟨rfl,rfl,pmm,λk hk=>by
    show(mirror (arrOf st2) lo (lo+n) ((lo+n-lo) / 2))[k]? = _
    rw[am,if_neg (by omega)],sg⟩
   have hz:(mirror (arrOf st2) lo (lo+n) ((lo+n-lo) / 2)).size=(arrOf st2).size:=mirror_size _ _ _ _
   have hDm:∀(i:Nat) p,(mirror (arrOf st2) lo (lo+n) ((lo+n-lo) / 2))[i]? = some p->D p:=λi p hp=>by
    rw[am] at hp
    split at hp
    . exact hD _ _ hp
    . exact hD _ _ hp
   refine wpS_bind (wpS_mono (wpS_forRange (I:=λx (c:Option (Option Nat)×Nat) st3=>st3=setArr st2 (mirror (arrOf st2) lo (lo+n) ((lo+n-lo) / 2))/\c.1=none/\c.2=x/\Sg r (mirror (arrOf st2) lo (lo+n) ((lo+n-lo) / 2)) lo (lo+c.2))
    (Q:=λc st3=>st3=setArr st2 (mirror (arrOf st2) lo (lo+n) ((lo+n-lo) / 2))/\c.1=none/\n<=c.2/\c.2<=nrem/\Sg r (mirror (arrOf st2) lo (lo+n) ((lo+n-lo) / 2)) lo (lo+c.2)) ?stepe ?fine ⟨rfl,rfl,rfl,λi j a b c=>?inite⟩) ?poste)
   case inite=>
    dsimp only at c
    rw[km,km,if_pos (by omega),if_pos (by omega)]
    rcases Nat.lt_or_eq_of_le b with b|b
    . exact f5 _ _ (by omega) (by omega) (by omega)
    . subst b;exact Nat.le_refl _
   case fine=>
    rintro ⟨c,n'⟩ st3 ⟨rfl,a1,a2,a3⟩
    dsimp only at a1 a2 a3 ⊢
    exact⟨rfl,a1,by omega,by omega,a3⟩
   case poste=>
    rintro ⟨c,n'⟩ st3 ⟨rfl,a1,a2,a3,a4⟩
    dsimp only at a1 a2 a3 a4 ⊢
    subst a1
    exact wpS_pure (h n' _ (by omega) a3 (md n' a2 a4) rfl)
   case stepe=>
    rintro x ⟨c,n'⟩ st3 hx1 hx2 ⟨rfl,a1,a2,a3⟩
    dsimp only at a1 a2 a3
    subst a1 a2
    refine wpS_bind (jD C (show kindOf _=κ from hk) hDm (i:=lo+n') (j:=lo+n'-1) (show _<(mirror (arrOf st2) lo (lo+n) ((lo+n-lo) / 2)).size by omega) (show _<(mirror (arrOf st2) lo (lo+n) ((lo+n-lo) / 2)).size by omega) ?_)
    by_cases g:kr r (arrOf (setArr st2 (mirror (arrOf st2) lo (lo+n) ((lo+n-lo) / 2)))) (lo+n')<kr r (arrOf (setArr st2 (mirror (arrOf st2) lo (lo+n) ((lo+n-lo) / 2)))) (lo+n'-1)
    . rw[decide_eq_true g]
      exact wpS_pure ⟨rfl,rfl,hx1,by dsimp only;omega,a3⟩
    . rw[decide_eq_false g]
      have g:¬ kr r (mirror (arrOf st2) lo (lo+n) ((lo+n-lo) / 2)) (lo+n')<kr r (mirror (arrOf st2) lo (lo+n) ((lo+n-lo) / 2)) (lo+n'-1):=g
      refine wpS_pure ⟨rfl,rfl,rfl,λi j a b c=>?_⟩
      dsimp only at c
      by_cases c1:j<lo+n'
      . exact a3 _ _ a b c1
      . by_cases c2:i=j
        . subst c2;exact Nat.le_refl _
        . have:=a3 i (lo+n'-1) a (by omega) (by omega)
          rw[show j=lo+n' by omega];omega
end
section
variable {M:Model} {A:Around} {E:Value->Shared->Prop} {s:Shared} {r:Keyed->Nat} {D:Keyed->Prop} {κ:SortKind}
theorem wC{xs ys:Array Keyed}(p:ys.toList.Perm xs.toList)(hD:∀(i:Nat) q,xs[i]? = some q->D q):∀(i:Nat) q,ys[i]? = some q->D q:=λi q h=>by
 have h1:q∈xs.toList:=p.mem_iff.mp (Array.mem_toList_iff.mpr (Array.mem_of_getElem? h))
 obtain⟨j,hj⟩:=List.getElem?_of_mem h1
 exact hD j q (by rw[<-Array.getElem?_toList];exact hj)
theorem fV{xs ys:Array Keyed}(p:ys.toList.Perm xs.toList):ys.size=xs.size:=by simpa using p.length_eq
theorem lP(C:Cmp M A E s κ D r){st:SortSt}{lo n ok:Nat}{Q:Bool->SortSt->Prop}(hk:kindOf st=κ)(hD:∀(i:Nat) p,(arrOf st)[i]? = some p->D p)(h1:1<=ok)(h2:ok<=n)(hs:lo+n<=(arrOf st).size)(sg:Sg r (arrOf st) lo (lo+ok))
 (h:∀st',Md r st st' lo (lo+n)->pendingOf st'=pendingOf st->Q true st'):wpS M A E s (binarySort' lo n ok) Q st:=by
 refine wpS_bind (wpS_mono (wpS_forRange (I:=λx (c:Option Bool×Unit) st'=>c.1=none/\Md r st st' lo (lo+x)/\pendingOf st'=pendingOf st)
  (Q:=λc st'=>c.1=none/\Md r st st' lo (lo+n)/\pendingOf st'=pendingOf st) ?step ?fin ⟨rfl,⟨rfl,rfl,List.Perm.refl _,λ_ _=>rfl,by rw[Nat.max_eq_left h1];exact sg⟩,rfl⟩) ?post)
 case post=>
  rintro ⟨c,u⟩ st' ⟨e1,e2,e3⟩
  dsimp only at e1
  subst e1
  exact wpS_pure (h st' e2 e3)
 case fin=>
  rintro ⟨c,u⟩ st' ⟨e1,e2,e3⟩
  rw[show max (max ok 1) n=n by omega] at e2
  exact⟨e1,e2,e3⟩
 case step=>
  rintro k ⟨c,u⟩ st' hx1 hx2 ⟨e1,e2,e3⟩
  dsimp only at e1
  subst e1
  have hk':kindOf st'=κ:=e2.kd.trans hk
  have hD':=wC e2.pm hD
  have hz:=fV e2.pm
  refine wpS_bind (wpS_mono (wpS_forRange (I:=λx (c:Option Bool×Nat×Nat) st2=>st2=st'/\c.1=none/\c.2.1<=c.2.2/\c.2.2<=k/\c.2.2+x<=k+c.2.1/\(∀i,i<c.2.1->kr r (arrOf st') (lo+i)<=kr r (arrOf st') (lo+k))/\(∀i,c.2.2<=i->i<k->kr r (arrOf st') (lo+k)<=kr r (arrOf st') (lo+i)))
   (Q:=λc st2=>st2=st'/\c.1=none/\c.2.1<=k/\(∀i,i<c.2.1->kr r (arrOf st') (lo+i)<=kr r (arrOf st') (lo+k))/\(∀i,c.2.1<=i->i<k->kr r (arrOf st') (lo+k)<=kr r (arrOf st') (lo+i))) ?step1 ?fin1 ⟨rfl,rfl,Nat.zero_le _,Nat.le_refl _,by dsimp only;omega,λi hi=>absurd hi (Nat.not_lt_zero _),λi a b=>by dsimp only at a;omega⟩) ?post1)
  case fin1=>
   rintro ⟨c,l,q⟩ st2 ⟨rfl,a1,a2,a3,a4,a5,a6⟩
   dsimp only at a1 a2 a3 a4 a5 a6 ⊢
   exact⟨rfl,a1,by omega,a5,λi b1 b2=>a6 i (by omega) b2⟩
  case step1=>
   rintro x ⟨c,l,q⟩ st2 _ hx ⟨rfl,a1,a2,a3,a4,a5,a6⟩
   dsimp only at a1 a2 a3 a4 a5 a6
   subst a1
   by_cases g:l ≥ q
   . refine aE (if_pos g) ?_
     exact wpS_pure ⟨rfl,rfl,by dsimp only;omega,a5,λi b1 b2=>a6 i (by dsimp only at b1;omega) b2⟩
   refine aE (if_neg g) ?_
   refine wpS_bind (jD C hk' hD' (i:=lo+k) (j:=lo+(l+q) / 2) (by omega) (by omega) ?_)
   by_cases g2:kr r (arrOf st2) (lo+k)<kr r (arrOf st2) (lo+(l+q) / 2)
   . rw[decide_eq_true g2]
     refine wpS_pure ⟨rfl,rfl,by dsimp only;omega,by dsimp only;omega,by dsimp only;omega,a5,λi b1 b2=>?_⟩
     dsimp only at b1
     exact Nat.le_trans (Nat.le_of_lt g2) (e2.sg _ _ (by omega) (by omega) (by omega))
   . rw[decide_eq_false g2]
     refine wpS_pure ⟨rfl,rfl,by dsimp only;omega,a3,by dsimp only;omega,λi b1=>?_,a6⟩
     dsimp only at b1
     exact Nat.le_trans (e2.sg (lo+i) (lo+(l+q) / 2) (by omega) (by omega) (by omega)) (by omega)
  case post1=>
   rintro ⟨c,l,q⟩ st2 ⟨rfl,a1,a2,a3,a4⟩
   dsimp only at a1 a2 a3 a4
   subst a1
   refine wpS_bind (wpS_modify (wpS_pure ⟨rfl,?_,e3⟩))
   have hb:∀z:Nat,(bubble (arrOf st2) (lo+k) (lo+k-(lo+l)))[z]? = if z=lo+l then (arrOf st2)[lo+k]? else if lo+l<z/\z<=lo+k then (arrOf st2)[z-1]? else (arrOf st2)[z]? := λz=>by
    have:=getElem?_bubble (xs:=arrOf st2) (src:=lo+k) (by omega) (lo+k-(lo+l)) (by omega) z
    rw[show lo+k-(lo+k-(lo+l))=lo+l by omega] at this
    exact this
   have kb:∀z:Nat,kr r (bubble (arrOf st2) (lo+k) (lo+k-(lo+l))) z=if z=lo+l then kr r (arrOf st2) (lo+k) else if lo+l<z/\z<=lo+k then kr r (arrOf st2) (z-1) else kr r (arrOf st2) z:=λz=>by
    by_cases c1:z=lo+l
    . rw[if_pos c1,kr,hb,if_pos c1];rfl
    . by_cases c2:lo+l<z/\z<=lo+k
      . rw[if_neg c1,if_pos c2,kr,hb,if_neg c1,if_pos c2];rfl
      . rw[if_neg c1,if_neg c2,kr,hb,if_neg c1,if_neg c2];rfl
   refine⟨e2.kd,e2.fl,?_,λz hz'=>?_,?_⟩
   . exact(bubble_perm _ _ _).toList.trans e2.pm
   . show(bubble (arrOf st2) (lo+k) (lo+k-(lo+l)))[z]? = _
     rw[hb,if_neg (by omega),if_neg (by omega)]
     exact e2.out z (by omega)
   . show Sg r (bubble (arrOf st2) (lo+k) (lo+k-(lo+l))) _ _
     intro i j b1 b2 b3
     have S:=e2.sg
     rw[kb,kb]
     by_cases ci:i=lo+l
     . rw[if_pos ci]
       by_cases cj:j=lo+l
       . rw[if_pos cj];exact Nat.le_refl _
       . rw[if_neg cj,if_pos (by omega)]
         have:=a4 (j-1-lo) (by omega) (by omega)
         rwa [show lo+(j-1-lo)=j-1 by omega] at this
     . rw[if_neg ci]
       by_cases ci2:lo+l<i/\i<=lo+k
       . rw[if_pos ci2,if_neg (by omega),if_pos (by omega)]
         exact S _ _ (by omega) (by omega) (by omega)
       . rw[if_neg ci2]
         by_cases cj:j=lo+l
         . rw[if_pos cj]
           have:=a3 (i-lo) (by omega)
           rwa [show lo+(i-lo)=i by omega] at this
         . rw[if_neg cj]
           by_cases cj2:lo+l<j/\j<=lo+k
           . rw[if_pos cj2];exact S _ _ (by omega) (by omega) (by omega)
           . rw[if_neg cj2];exact S _ _ (by omega) (by omega) (by omega)
end
section
variable {M:Model} {A:Around} {E:Value->Shared->Prop} {s:Shared} {r:Keyed->Nat} {D:Keyed->Prop} {κ:SortKind}
noncomputable def RO(r:Keyed->Nat)(xs:Array Keyed):Nat->List (Nat×Nat×Nat)->Nat->Prop
 | lo,[],hi=>lo=hi
 | lo,p::ps,hi=>p.1=lo/\1<=p.2.1/\Sg r xs lo (lo+p.2.1)/\RO r xs (lo+p.2.1) ps hi
theorem RO.le{xs:Array Keyed}:∀{ps:List (Nat×Nat×Nat)} {lo hi:Nat},RO r xs lo ps hi->lo+ps.length<=hi
 | [],lo,hi,h=>Nat.le_of_eq h
 | p::ps,lo,hi,h=>by
  obtain⟨_,h2,_,h4⟩:=h
  have:=RO.le h4
  rw[lC];omega
theorem Sg.of{xs ys:Array Keyed}{lo hi:Nat}(h:Sg r xs lo hi)(e:∀k,lo<=k->k<hi->ys[k]? = xs[k]?):Sg r ys lo hi:=λi j a b c=>by
 have:=h i j a b c
 rw[kr,kr] at this ⊢
 rwa [e i a (by omega),e j (by omega) c]
theorem RO.of{xs ys:Array Keyed}:∀{ps:List (Nat×Nat×Nat)} {lo hi:Nat},RO r xs lo ps hi->(∀k,lo<=k->k<hi->ys[k]? = xs[k]?)->RO r ys lo ps hi
 | [],_,_,h,_=>h
 | p::ps,lo,hi,h,e=>by
  obtain⟨h1,h2,h3,h4⟩:=h
  have:=RO.le h4
  exact⟨h1,h2,h3.of λk a b=>e k a (by omega),RO.of h4 λk a b=>e k (by omega) b⟩
theorem RO.push{xs:Array Keyed}{n p:Nat}:∀{ps:List (Nat×Nat×Nat)} {lo hi:Nat},RO r xs lo ps hi->1<=n->Sg r xs hi (hi+n)->RO r xs lo (ps++[(hi,n,p)]) (hi+n)
 | [],lo,hi,h,h1,h2=>by cases(show lo=hi from h);exact⟨rfl,h1,h2,rfl⟩
 | q::ps,lo,hi,h,h1,h2=>by
  obtain⟨g1,g2,g3,g4⟩:=h
  exact⟨g1,g2,g3,RO.push g4 h1 h2⟩
theorem RO.mod{xs:Array Keyed}{f:Nat×Nat×Nat->Nat×Nat×Nat}(hf:∀p,(f p).1=p.1/\(f p).2.1=p.2.1):∀{ps:List (Nat×Nat×Nat)} {lo hi k:Nat},RO r xs lo ps hi->RO r xs lo (ps.modify k f) hi
 | [],_,_,k,h=>by cases k <;> exact h
 | p::ps,lo,hi,0,h=>by
  obtain⟨h1,h2,h3,h4⟩:=h
  obtain⟨e1,e2⟩:=hf p
  show RO r xs lo (f p::ps) hi
  refine⟨by rw[e1];exact h1,by rw[e2];exact h2,by rw[e2];exact h3,by rw[e2];exact h4⟩
 | p::ps,lo,hi,k+1,h=>by
  obtain⟨h1,h2,h3,h4⟩:=h
  exact⟨h1,h2,h3,RO.mod hf h4⟩
theorem RO.merge{xs:Array Keyed}{s1 n1 p1 s2 n2 p2:Nat}:∀{ps:List (Nat×Nat×Nat)} {lo hi i:Nat},RO r xs lo ps hi->ps[i]? = some (s1,n1,p1)->ps[i+1]? = some (s2,n2,p2) ->
 (s2=s1+n1/\1<=n1/\1<=n2/\Sg r xs s1 (s1+n1)/\Sg r xs (s1+n1) (s1+n1+n2)/\s1+n1+n2<=hi/\lo<=s1) /\
 ∀ys:Array Keyed,(∀k,k<s1\/s1+n1+n2<=k->ys[k]? = xs[k]?)->Sg r ys s1 (s1+n1+n2)->RO r ys lo ((ps.set i (s1,n1+n2,p1)).eraseIdx (i+1)) hi
 | [],_,_,_,_,e,_=>by simp at e
 | p::ps,lo,hi,0,h,e1,e2=>by
  obtain⟨h1,h2,h3,h4⟩:=h
  simp at e1
  subst e1
  cases ps with
  | nil=>simp at e2
  | cons q qs=>
   simp at e2
   subst e2
   obtain⟨g1,g2,g3,g4⟩:=h4
   dsimp only at h1 h2 h3 g1 g2 g3 g4
   subst h1
   have:=RO.le g4
   refine⟨⟨g1,h2,g2,h3,g3,by omega,Nat.le_refl _⟩,λys hy sg=>?_⟩
   show RO r ys s1 ((s1,n1+n2,p1)::qs) hi
   refine⟨rfl,by dsimp only;omega,by rw[<-Nat.add_assoc];exact sg,?_⟩
   dsimp only
   rw[<-Nat.add_assoc]
   exact g4.of λk a b=>hy k (.inr (by omega))
 | p::ps,lo,hi,i+1,h,e1,e2=>by
  obtain⟨h1,h2,h3,h4⟩:=h
  rw[gS] at e1 e2
  obtain⟨⟨a1,a2,a3,a4,a5,a6,a7⟩,f⟩:=RO.merge h4 e1 e2
  refine⟨⟨a1,a2,a3,a4,a5,a6,by omega⟩,λys hy sg=>?_⟩
  show RO r ys lo (p::(ps.set i (s1,n1+n2,p1)).eraseIdx (i+1)) hi
  exact⟨h1,h2,h3.of λk a b=>hy k (.inl (by omega)),f ys hy sg⟩
structure SI (r:Keyed->Nat) (κ:SortKind) (a₀:Array Keyed) (st:SortSt) (lo:Nat):Prop where
 kd:kindOf st=κ
 fl:failedOf st=none
 pm:(arrOf st).toList.Perm a₀.toList
 ro:RO r (arrOf st) 0 (pendingOf st).toList lo
theorem SI.merge(C:Cmp M A E s κ D r){a₀:Array Keyed}{st:SortSt}{lo hi i:Nat}{Q:Bool->SortSt->Prop}(hD:∀(i:Nat) p,a₀[i]? = some p->D p)(S:SI r κ a₀ st lo)(hlo:lo<=a₀.size)(sg:Sg r (arrOf st) lo hi)(hi':i+1<(pendingOf st).size)
 (h:∀st',SI r κ a₀ st' lo->Sg r (arrOf st') lo hi->(pendingOf st').size+1=(pendingOf st).size->Q true st'):wpS M A E s (mergeAt' i) Q st:=by
 obtain⟨⟨s1,n1,p1⟩,e1⟩:∃x,(pendingOf st)[i]? = some x:=⟨_,Array.getElem?_eq_getElem (by omega)⟩
 obtain⟨⟨s2,n2,p2⟩,e2⟩:∃x,(pendingOf st)[i+1]? = some x:=⟨_,Array.getElem?_eq_getElem hi'⟩
 obtain⟨⟨a1,a2,a3,a4,a5,a6,_⟩,f⟩:=S.ro.merge (i:=i) (by rw[Array.getElem?_toList];exact e1) (by rw[Array.getElem?_toList];exact e2)
 subst a1
 refine sK C S.kd S.fl (wC S.pm hD) e1 e2 a4 a5 a2 a3 (by rw[fV S.pm];omega) λst' md ep=>h st' ⟨md.kd.trans S.kd,md.fl.trans S.fl,md.pm.trans S.pm,?_⟩ (sg.of λk b1 b2=>md.out k (.inr (by omega))) ?_
 . rw[ep,Array.toList_eraseIdxIfInBounds,Array.toList_setIfInBounds]
   exact f _ md.out md.sg
 . have e:(pendingOf st').toList.length+1=(pendingOf st).toList.length:=by
    rw[ep,Array.toList_eraseIdxIfInBounds,Array.toList_setIfInBounds,List.length_eraseIdx,if_pos (by simpa using hi'),List.length_set]
    have:(pendingOf st).toList.length=(pendingOf st).size:=by simp
    omega
   simpa using e
theorem wpS_sortRuns(C:Cmp M A E s κ D r){st:SortSt}{Q:Unit->SortSt->Prop}(hk:kindOf st=κ)(hf:failedOf st=none)(hp:pendingOf st=#[])(hD:∀(i:Nat) p,(arrOf st)[i]? = some p->D p)(nd:Nd r (arrOf st))
 (h:∀st',(arrOf st').toList.Perm (arrOf st).toList->failedOf st'=none->Sg r (arrOf st') 0 (arrOf st).size->Q () st'):wpS M A E s sortRuns' Q st:=by
 refine wpS_bind (wpS_get ?_)
 have S0:SI r κ (arrOf st) st 0:=⟨hk,hf,List.Perm.refl _,by rw[hp];exact rfl⟩
 refine wpS_bind (wpS_mono (wpS_forRange (I:=λx (c:Option Unit×Nat) st'=>c.1=none/\SI r κ (arrOf st) st' c.2/\c.2<=(arrOf st).size/\min x (arrOf st).size<=c.2)
  (Q:=λc st'=>c.1=none/\SI r κ (arrOf st) st' (arrOf st).size) ?step ?fin ⟨rfl,S0,Nat.zero_le _,by dsimp only;omega⟩) ?post)
 case fin=>
  rintro ⟨c,lo⟩ st' ⟨e1,e2,e3,e4⟩
  dsimp only at e1 e2 e3 e4 ⊢
  refine⟨e1,?_⟩
  have e4:min (max 0 (arrOf st).size) (arrOf st).size<=lo:=e4
  rw[show(arrOf st).size=lo by omega]
  exact e2
 case post=>
  rintro ⟨c,lo⟩ st' ⟨e1,e2⟩
  dsimp only at e1
  subst e1
  have hl:=e2.ro.le
  have hl:(pendingOf st').size<=(arrOf st).size:=by simpa using hl
  refine wpS_bind (wpS_mono (wpS_forRange (I:=λx (c:Option Unit×Unit) st2=>c.1=none/\SI r κ (arrOf st) st2 (arrOf st).size/\(pendingOf st2).size+x<=(arrOf st).size+1)
   (Q:=λc st2=>c.1=none/\SI r κ (arrOf st) st2 (arrOf st).size/\(pendingOf st2).size<=1) ?step1 ?fin1 ⟨rfl,e2,by omega⟩) ?post1)
  case fin1=>
   rintro ⟨c,u⟩ st2 ⟨a1,a2,a3⟩
   have a3:(pendingOf st2).size+max 0 (arrOf st).size<=(arrOf st).size+1:=a3
   exact⟨a1,a2,by omega⟩
  case post1=>
   rintro ⟨c,u⟩ st2 ⟨a1,a2,a3⟩
   dsimp only at a1
   subst a1
   refine wpS_pure (h st2 a2.pm a2.fl ?_)
   have ro:=a2.ro
   have a3:(pendingOf st2).toList.length<=1:=by simpa using a3
   match hq:(pendingOf st2).toList,ro,a3 with
   | [],ro,_=>
    have ro:0=(arrOf st).size:=ro
    intro i j b1 b2 b3
    omega
   | [p],ro,_=>
    obtain⟨_,_,q3,q4⟩:=ro
    have q4:0+p.2.1=(arrOf st).size:=q4
    rw[q4] at q3
    exact q3
   | _::_::_,_,a3=>simp at a3
  case step1=>
   rintro x ⟨c,u⟩ st2 _ hx ⟨a1,a2,a3⟩
   dsimp only at a1
   subst a1
   refine wpS_bind (wpS_get ?_)
   by_cases g:(pendingOf st2).size<=1
   . refine aE (if_pos g) ?_
     exact wpS_pure ⟨rfl,a2,g⟩
   refine aE (if_neg g) ?_
   extract_lets i0 before i
   have hi:i+1<(pendingOf st2).size:=by
    dsimp only[i]
    have:i0=(pendingOf st2).size-2:=rfl
    split <;> omega
   refine wpS_bind (a2.merge C hD (Nat.le_refl _) (hi:=(arrOf st).size) (λi j b1 b2 b3=>by omega) hi λst3 S3 _ hsz=>?_)
   exact wpS_pure ⟨rfl,S3,by omega⟩
 case step=>
  rintro x ⟨c,lo⟩ st1 _ hx ⟨e1,e2,e3,e4⟩
  dsimp only at e1 e2 e3 e4
  subst e1
  have hx:x<(arrOf st).size:=hx
  by_cases g:lo ≥ (arrOf st).size
  . refine aE (if_pos g) ?_
    refine wpS_pure ⟨rfl,?_⟩
    rw[show(arrOf st).size=lo by omega]
    exact e2
  refine aE (if_neg g) ?_
  have z1:=fV e2.pm
  refine wpS_bind (pZ C e2.kd (wC e2.pm hD) (nd.perm e2.pm) (show 1<=(arrOf st).size-lo by omega) (show lo+((arrOf st).size-lo)<=(arrOf st1).size by omega) λn st2 n1 n2 md ep=>?_)
  dsimp -zeta only
  extract_lets nn jp
  have n2:n<=(arrOf st).size-lo:=n2
  have S2:SI r κ (arrOf st) st2 lo:=⟨md.kd.trans e2.kd,md.fl.trans e2.fl,md.pm.trans e2.pm,by rw[ep];exact e2.ro.of λk a b=>md.out k (.inl b)⟩
  have main:∀n' st3,1<=n'->lo+n'<=(arrOf st).size->SI r κ (arrOf st) st3 lo->Sg r (arrOf st3) lo (lo+n')->wpS M A E s (jp () n') (λr' st'=>match r' with
   | .done c=>c.1=none/\SI r κ (arrOf st) st' (arrOf st).size
   | .yield c=>c.1=none/\SI r κ (arrOf st) st' c.2/\c.2<=(arrOf st).size/\min (x+1) (arrOf st).size<=c.2) st3:=by
   intro n' st3 m1 m2 S3 sg3
   dsimp -zeta only[jp]
   refine wpS_bind (wpS_get ?_)
   extract_lets lo' jp2
   have push:∀st4,SI r κ (arrOf st) st4 lo->Sg r (arrOf st4) lo (lo+n')->wpS M A E s (jp2 ()) (λr' st'=>match r' with
    | .done c=>c.1=none/\SI r κ (arrOf st) st' (arrOf st).size
    | .yield c=>c.1=none/\SI r κ (arrOf st) st' c.2/\c.2<=(arrOf st).size/\min (x+1) (arrOf st).size<=c.2) st4:=by
    intro st4 S4 sg4
    dsimp -zeta only[jp2]
    refine wpS_bind (wpS_modify (wpS_pure ⟨rfl,⟨S4.kd,S4.fl,S4.pm,?_⟩,m2,?_⟩))
    . show RO r (arrOf st4) 0 ((pendingOf st4).push (lo,n',0)).toList (lo+n')
      rw[Array.toList_push]
      exact S4.ro.push m1 sg4
    . show min (x+1) (arrOf st).size<=lo+n'
      omega
   cases hb:(pendingOf st3).back? with
   | none=>exact push st3 S3 sg3
   | some p=>
    obtain⟨s1,n1',pw0⟩:=p
    dsimp -zeta only
    extract_lets pw
    refine wpS_bind (wpS_mono (wpS_forRange (I:=λx (c:Option Unit×Unit) st4=>c.1=none/\SI r κ (arrOf st) st4 lo/\Sg r (arrOf st4) lo (lo+n'))
     (Q:=λc st4=>c.1=none/\SI r κ (arrOf st) st4 lo/\Sg r (arrOf st4) lo (lo+n')) ?step2 ?fin2 ⟨rfl,S3,sg3⟩) ?post2)
    case fin2=>exact λc st4 q=>q
    case post2=>
     rintro ⟨c,u⟩ st4 ⟨a1,a2,a3⟩
     dsimp only at a1
     subst a1
     refine wpS_bind (wpS_modify ?_)
     refine push _ ⟨a2.kd,a2.fl,a2.pm,?_⟩ a3
     show RO r (arrOf st4) 0 ((pendingOf st4).modify ((pendingOf st4).size-1) _).toList lo
     rw[Array.toList_modify]
     exact a2.ro.mod (f:=λx=>(x.1,x.2.1,pw)) λp=>⟨rfl,rfl⟩
    case step2=>
     rintro y ⟨c,u⟩ st4 _ hy ⟨a1,a2,a3⟩
     dsimp only at a1
     subst a1
     refine wpS_bind (wpS_get ?_)
     dsimp only
     by_cases g3:(pendingOf st4).size>1
     . obtain⟨⟨f1,f2,older⟩,e⟩:∃x,(pendingOf st4)[(pendingOf st4).size-2]? = some x:=⟨_,Array.getElem?_eq_getElem (by omega)⟩
       have e':(if (pendingOf st4).size>1 then (pendingOf st4)[(pendingOf st4).size-2]? else none)=some (f1,f2,older):=by rw[if_pos g3];exact e
       rw[e']
       by_cases g4:older<=pw
       . refine aE (if_pos g4) ?_
         exact wpS_pure ⟨rfl,a2,a3⟩
       . refine aE (if_neg g4) ?_
         refine wpS_bind (a2.merge C hD e3 a3 (show(pendingOf st4).size-2+1<(pendingOf st4).size by omega) λst5 S5 sg5 _=>?_)
         exact wpS_pure ⟨rfl,S5,sg5⟩
     . have e':(if (pendingOf st4).size>1 then (pendingOf st4)[(pendingOf st4).size-2]? else none)=none:=if_neg g3
       rw[e']
       exact wpS_pure ⟨rfl,a2,a3⟩
  by_cases g2:n<minRun' (arrOf st).size (arrOf st).size 0
  . refine aE (if_pos g2) ?_
    refine wpS_bind (wpS_lift (wpAny_rule ⟨rfl,?_⟩))
    have hm:n<=min ((arrOf st).size-lo) (minRun' (arrOf st).size (arrOf st).size 0):=by omega
    refine wpS_bind (lP C S2.kd (wC S2.pm hD) n1 hm (show lo+min ((arrOf st).size-lo) (minRun' (arrOf st).size (arrOf st).size 0)<=(arrOf st2).size by rw[fV S2.pm];omega) md.sg λst3 md3 ep3=>?_)
    refine aE (if_neg (by decide)) ?_
    refine wpS_mono (main (min ((arrOf st).size-lo) (minRun' (arrOf st).size (arrOf st).size 0)) st3 (by omega) (by omega) ⟨md3.kd.trans S2.kd,md3.fl.trans S2.fl,md3.pm.trans S2.pm,by rw[ep3];exact S2.ro.of λk a b=>md3.out k (.inl b)⟩ md3.sg) λr' st4 q=>by cases r' <;> exact q
  . refine aE (if_neg g2) ?_
    exact wpS_mono (main _ st2 n1 (by omega) S2 md.sg) λr' st4 q=>by cases r' <;> exact q
end
end Ts
end
noncomputable section
namespace L2
open PySem PySem.Spec PyProof.Rows SetTable
set_option maxRecDepth 100000
noncomputable def tm(m:Nat)(ps:List Nat)(mv:Nat)(led:Bool):SetTable:={ mask:=m,place:=ps.toArray,dummies:=#[],finger:=0,led:=led,moves:=mv,plain:=true }
abbrev iE(ps:List Nat):Prop:=ps.Pairwise (· < ·)
theorem iE.lt{ps:List Nat}(h:iE ps){i k v u:Nat}(hik:i<k)(hi:ps[i]? = some v)(hk:ps[k]? = some u):v<u:=by
 obtain⟨a,rfl⟩:=List.getElem?_eq_some_iff.mp hi
 obtain⟨b,rfl⟩:=List.getElem?_eq_some_iff.mp hk
 exact List.pairwise_iff_getElem.mp h i k a b hik
theorem lQ{ps:List Nat}{j:Nat}(hr:iE ps):∀(fuel lo hi:Nat),lo<=hi->hi<=ps.length->hi-lo<=fuel->(∀i v,i<lo->ps[i]? = some v->v<j)->(∀i v,hi<=i->ps[i]? = some v->j<=v) ->
 ∃r,below.go ps.toArray j fuel lo hi=r/\r<=ps.length/\(∀i v,i<r->ps[i]? = some v->v<j)/\(∀i v,r<=i->ps[i]? = some v->j<=v)
 | 0,lo,hi,h1,h2,h3,a,b=>⟨lo,rfl,by omega,a,λi v q=>b i v (by omega)⟩
 | f+1,lo,hi,h1,h2,h3,a,b=>by
  rw[below.go]
  by_cases c:lo<hi
  . rw[if_pos c]
    have hm:(lo+hi) / 2<ps.length:=by omega
    have e:ps.toArray.getD ((lo+hi) / 2) j=ps[(lo+hi) / 2]:=by simp[Array.getD,hm]
    have e2:ps[(lo+hi) / 2]? = some ps[(lo+hi) / 2]:=List.getElem?_eq_getElem hm
    dsimp only
    rw[e]
    by_cases d:ps[(lo+hi) / 2]<j
    . rw[if_pos d]
      refine lQ hr f _ _ (by omega) h2 (by omega) (λi v hi' hv=>?_) b
      rcases Nat.lt_or_ge i ((lo+hi) / 2) with q|q
      . exact Nat.lt_trans (hr.lt q hv e2) d
      . obtain rfl:i=(lo+hi) / 2:=by omega
        rw[e2] at hv;cases hv;exact d
    . rw[if_neg d]
      refine lQ hr f _ _ (by omega) (by omega) (by omega) a λi v hi' hv=>?_
      rcases Nat.lt_or_ge ((lo+hi) / 2) i with q|q
      . exact Nat.le_of_lt (Nat.lt_of_le_of_lt (by omega) (hr.lt q e2 hv))
      . obtain rfl:i=(lo+hi) / 2:=by omega
        rw[e2] at hv;cases hv;omega
  . rw[if_neg c]
    exact⟨lo,rfl,by omega,a,λi v q=>b i v (by omega)⟩
theorem bel{ps:List Nat}(hr:iE ps)(j:Nat):below ps.toArray j<=ps.length/\(∀i v,i<below ps.toArray j->ps[i]? = some v->v<j)/\(∀i v,below ps.toArray j<=i->ps[i]? = some v->j<=v):=by
 obtain⟨r,e,h⟩:=lQ (j:=j) hr ps.length 0 ps.length (Nat.zero_le _) (Nat.le_refl _) (by omega) (λi v h=>absurd h (Nat.not_lt_zero _)) (λi v h q=>by rw[List.getElem?_eq_none h] at q;cases q)
 rw[show below ps.toArray j=r from by unfold below;rw[List.size_toArray];exact e]
 exact h
theorem uQ{ps:List Nat}(hr:iE ps){i j:Nat}(h:ps[i]? = some j):below ps.toArray j=i:=by
 obtain⟨h1,h2,h3⟩:=bel hr j
 rcases Nat.lt_trichotomy (below ps.toArray j) i with q|q|q
 . have hl:=(List.getElem?_eq_some_iff.mp h).1
   have:=h3 _ _ (Nat.le_refl _) (List.getElem?_eq_getElem (by omega))
   have:=hr.lt q (List.getElem?_eq_getElem (by omega)) h
   omega
 . exact q
 . exact absurd (h2 i j q h) (Nat.lt_irrefl _)
section
variable {m mv:Nat} {ps:List Nat} {led:Bool} {h:Int}
theorem dZ(hr:iE ps){i j:Nat}(h:ps[i]? = some j):(tm m ps mv led).slot j=.live i:=by
 unfold SetTable.slot
 show(if ((ps.toArray)[below ps.toArray j]?==some j)=true then Slot.live (below ps.toArray j) else _)=_
 rw[uQ hr h,List.getElem?_toArray,h,if_pos (by simp)]
theorem uR{j:Nat}(h:j∉ps):(tm m ps mv led).slot j=.empty:=by
 unfold SetTable.slot
 show(if ((ps.toArray)[below ps.toArray j]?==some j)=true then Slot.live (below ps.toArray j) else if has #[] j=true then Slot.dummy else Slot.empty)=_
 rw[if_neg (λq=>h (mG (by rw[List.getElem?_toArray] at q;exact of_decide_eq_true (by simpa using q)))),if_neg (by simp[has])]
noncomputable def stp(m:Nat)(p:Probe):Probe:=(tm m [] 0 true).advance p
noncomputable def pth(m:Nat)(h:Int):Nat->Probe
 | 0=>(tm m [] 0 true).probeStart h
 | n+1=>stp m (pth m h n)
theorem yO(p:Probe):(stp m p).dummy=p.dummy:=by
 unfold stp SetTable.advance
 split <;> rfl
theorem nV:∀n,(pth m h n).dummy=none
 | 0=>rfl
 | n+1=>(yO _).trans (nV n)
theorem probe_go(hr:iE ps)(g:Nat->Int){N:Nat}(hN:(pth m h N).j∉ps)(hl:∀n,n<N->(pth m h n).j∈ps):∀fuel n,n<=N->N-n<fuel ->
 ((∀ha,(∀i,i<ps.length->ha i=g i)->probe.go (tm m ps mv led) ha h fuel (pth m h n)=some (.empty (pth m h N).j none))/\∀n' i,n<=n'->n'<N->ps[i]? = some (pth m h n').j->g i≠h) \/
 ∃n' i,n<=n'/\n'<N/\ps[i]? = some (pth m h n').j/\g i=h/\(∀ha,(∀i,i<ps.length->ha i=g i)->probe.go (tm m ps mv led) ha h fuel (pth m h n)=some (.candidate (pth m h n').j i (pth m h (n'+1))))/\∀n'' i,n<=n''->n''<n'->ps[i]? = some (pth m h n'').j->g i≠h
 | 0,n,_,h2=>absurd h2 (Nat.not_lt_zero _)
 | f+1,n,h1,h2=>by
  rcases Nat.lt_or_ge n N with q|q
  . obtain⟨i,hi⟩:=List.mem_iff_getElem?.mp (hl n q)
    have hil:=(List.getElem?_eq_some_iff.mp hi).1
    by_cases c:g i=h
    . refine .inr ⟨n,i,Nat.le_refl _,q,hi,c,λha hh=>?_,λn'' i a b=>absurd a (by omega)⟩
      rw[probe.go,dZ hr hi]
      dsimp only
      rw[if_pos (by rw[hh i hil,c];simp)]
      rfl
    . have hne:∀i',ps[i']? = some (pth m h n).j->g i'≠h:=λi' hi'=>by
       have:=dZ (m:=m) (mv:=mv) (led:=led) hr hi'
       rw[dZ hr hi] at this
       cases this
       exact c
      have one:∀ha,(∀i,i<ps.length->ha i=g i)->probe.go (tm m ps mv led) ha h (f+1) (pth m h n)=probe.go (tm m ps mv led) ha h f (pth m h (n+1)):=λha hh=>by
       rw[probe.go,dZ hr hi]
       dsimp only
       rw[if_neg (by rw[hh i hil];simpa using c)]
       rfl
      have step:∀{n' n'':Nat} {i':Nat},(∀n'' i,n+1<=n''->n''<n'->ps[i]? = some (pth m h n'').j->g i≠h)->n<=n''->n''<n'->ps[i']? = some (pth m h n'').j->g i'≠h:=λH a b hi'=>by
       rcases Nat.lt_or_ge n _ with z|z
       . exact H _ _ z b hi'
       . have:_=n:=Nat.le_antisymm z a
         rw[this] at hi'
         exact hne _ hi'
      rcases probe_go hr g hN hl f (n+1) (by omega) (by omega) with⟨e,H⟩|⟨n',i',a1,a2,a3,a4,a5,a6⟩
      . exact .inl ⟨λha hh=>(one ha hh).trans (e ha hh),λn' i' a b c=>step H a b c⟩
      . exact .inr ⟨n',i',by omega,a2,a3,a4,λha hh=>(one ha hh).trans (a5 ha hh),λn'' i'' a b c=>step a6 a b c⟩
  . obtain rfl:n=N:=by omega
    refine .inl ⟨λha hh=>?_,λn' i a b=>absurd a (by omega)⟩
    rw[probe.go,uR hN]
    dsimp only
    rw[nV]
noncomputable def lps(m:Nat)(h:Int):Nat->Nat×Nat
 | 0=>(bits h % (m+1),bits h)
 | c+1=>leap m (lps m h c).1 (lps m h c).2
noncomputable def rn(m:Nat)(x:Nat×Nat)(k:Nat):Probe:={ j:=x.1+k,more:=runEnd m x.1-x.1-k,i:=x.1,perturb:=x.2,dummy:=none }
noncomputable def off(m:Nat)(h:Int):Nat->Nat
 | 0=>0
 | c+1=>off m h c+(runEnd m (lps m h c).1-(lps m h c).1)+1
theorem aAV(i:Nat):i<=runEnd m i/\runEnd m i<=i+9:=by unfold runEnd;split <;> omega
theorem kG:∀c,(∀k,k<=runEnd m (lps m h c).1-(lps m h c).1->pth m h (off m h c+k)=rn m (lps m h c) k):=by
 have more:∀{c},pth m h (off m h c)=rn m (lps m h c) 0->∀k,k<=runEnd m (lps m h c).1-(lps m h c).1->pth m h (off m h c+k)=rn m (lps m h c) k:=by
  intro c e k
  induction k with
  | zero=>intro _;exact e
  | succ k ih=>
   intro hk
   show stp m (pth m h (off m h c+k))=_
   rw[ih (by omega)]
   unfold stp SetTable.advance
   rw[if_pos (show(rn m (lps m h c) k).more>0 by show runEnd m (lps m h c).1-(lps m h c).1-k>0;omega)]
   rfl
 intro c
 induction c with
 | zero=>exact more rfl
 | succ c ih=>
  refine more ?_
  show stp m (pth m h (off m h c+(runEnd m (lps m h c).1-(lps m h c).1)))=_
  rw[ih _ (Nat.le_refl _)]
  unfold stp SetTable.advance
  rw[if_neg (show ¬ (rn m (lps m h c) _).more>0 by show ¬ (runEnd m (lps m h c).1-(lps m h c).1-(runEnd m (lps m h c).1-(lps m h c).1)>0);omega)]
  rfl
theorem uS:∀c,off m h c<=10*c
 | 0=>Nat.le_refl _
 | c+1=>by
  have:=uS c
  have:=aAV (m:=m) (lps m h c).1
  show off m h c+(runEnd m (lps m h c).1-(lps m h c).1)+1<=_
  omega
theorem wD:∀c,(lps m h c).2=bits h / 32 ^ c
 | 0=>by rw[Nat.pow_zero,Nat.div_one];rfl
 | c+1=>by
  show(lps m h c).2 / 32=_
  rw[wD c,Nat.div_div_eq_div_mul,Nat.pow_succ]
theorem aCQ:∀c,(lps m h c).1<m+1
 | 0=>Nat.mod_lt _ (Nat.succ_pos _)
 | c+1=>Nat.mod_lt _ (Nat.succ_pos _)
theorem aFm(n:Nat):(pth m h n).j<m+1:=by
 have run:∀i,i<m+1->i+(runEnd m i-i)<m+1:=λi hi=>by unfold runEnd;split <;> omega
 have:∀n,(pth m h n).j+(pth m h n).more<m+1:=by
  intro n
  induction n with
  | zero=>exact run _ (Nat.mod_lt _ (Nat.succ_pos _))
  | succ n ih=>
   show(stp m (pth m h n)).j+(stp m (pth m h n)).more<m+1
   unfold stp SetTable.advance
   split
   . rename_i q
     show(pth m h n).j+1+((pth m h n).more-1)<m+1
     omega
   . exact run _ (Nat.mod_lt _ (Nat.succ_pos _))
 exact Nat.lt_of_le_of_lt (Nat.le_add_right _ _) (this n)
noncomputable def itr(m:Nat):Nat->Nat->Nat
 | 0,i=>i
 | d+1,i=>(itr m d i*5+1) % (m+1)
theorem wF:∀d,lps m h (13+d)=(itr m d (lps m h 13).1,0):=by
 have z:(lps m h 13).2=0:=by
  rw[wD]
  refine Nat.div_eq_of_lt ?_
  have:bits h<2 ^ 64:=by
   unfold bits
   have:=Int.emod_lt_of_pos h (b:=2 ^ 64) (by decide)
   have:=Int.emod_nonneg h (b:=2 ^ 64) (by decide)
   omega
  exact Nat.lt_of_lt_of_le this (by decide)
 intro d
 induction d with
 | zero=>exact Prod.ext rfl z
 | succ d ih=>
  show leap m (lps m h (13+d)).1 (lps m h (13+d)).2=_
  rw[ih]
  unfold leap
  simp[itr]
abbrev M2(m:Nat):Prop:=∃k,k<10/\m+1=2 ^ (k+3)
noncomputable def orb(m:Nat):Nat->Nat->Nat->Nat
 | 0,_,acc=>acc
 | d+1,i,acc=>orb m d ((i*5+1) % (m+1)) (acc ||| 2 ^ i)
theorem orb_bit(m:Nat){j:Nat}:∀(d e i acc:Nat),i=itr m e 0->(orb m d i acc).testBit j=true->acc.testBit j=true\/∃d',d'<e+d/\itr m d' 0=j
 | 0,_,_,_,_,h=>.inl h
 | d+1,e,i,acc,hi,h=>by
  rcases orb_bit m d (e+1) _ _ (by rw[hi];rfl) h with h|⟨d',a,b⟩
  . rw[Nat.testBit_or,Bool.or_eq_true] at h
    rcases h with h|h
    . exact .inl h
    . rw[Nat.testBit_two_pow,decide_eq_true_eq] at h
      exact .inr ⟨e,by omega,by rw[<-hi];exact h⟩
  . exact .inr ⟨d',by omega,b⟩
theorem iF(m:Nat)(i:Nat):∀d e,itr m (d+e) i=itr m d (itr m e i)
 | 0,e=>by rw[Nat.zero_add];rfl
 | d+1,e=>by
  rw[show d+1+e=(d+e)+1 by omega]
  show(itr m (d+e) i*5+1) % (m+1)=(itr m d (itr m e i)*5+1) % (m+1)
  rw[iF m i d e]
noncomputable def aHt(m:Nat):Bool:=orb m (m+1) 0 0==2 ^ (m+1)-1
noncomputable def itN(m:Nat):Nat->Nat->Nat
 | 0,i=>i
 | d+1,i=>itN m d ((i*5+1) % (m+1))
theorem wG(m:Nat):∀d i,itN m d i=itr m d i
 | 0,_=>rfl
 | d+1,i=>by
  show itN m d ((i*5+1) % (m+1))=_
  rw[wG m d,show((i*5+1) % (m+1))=itr m 1 i from rfl,<-iF]
theorem aCR:∀k∈List.range 10,aHt (2 ^ (k+3)-1)=true/\itN (2 ^ (k+3)-1) (2 ^ (k+3)) 0=0:=by decide +kernel
theorem aDS(hm:M2 m){j:Nat}(hj:j<m+1):∃c,c<m+14/\(lps m h c).1=j:=by
 obtain⟨k,hk,e⟩:=hm
 obtain⟨o1,o2⟩:=aCR k (List.mem_range.mpr hk)
 rw[show 2 ^ (k+3)-1=m by omega] at o1 o2
 rw[<-e,wG] at o2
 have fr:∀j,j<m+1->∃d,d<m+1/\itr m d 0=j:=λj hj=>by
  have b:(orb m (m+1) 0 0).testBit j=true:=by
   rw[eq_of_beq (show(orb m (m+1) 0 0==2 ^ (m+1)-1)=true from o1),Nat.testBit_two_pow_sub_one]
   exact decide_eq_true hj
  rcases orb_bit m (m+1) 0 0 0 rfl b with z|⟨d,a,b⟩
  . rw[Nat.zero_testBit] at z;cases z
  . exact⟨d,by omega,b⟩
 obtain⟨d1,a1,b1⟩:=fr _ (aCQ (m:=m) (h:=h) 13)
 obtain⟨d2,a2,b2⟩:=fr j hj
 rcases Nat.lt_or_ge d2 d1 with q|q
 . refine⟨13+(d2+(m+1)-d1),by omega,?_⟩
   rw[wF]
   show itr m _ _=j
   rw[<-b1,<-iF,show d2+(m+1)-d1+d1=d2+(m+1) by omega,iF,o2]
   exact b2
 . refine⟨13+(d2-d1),by omega,?_⟩
   rw[wF]
   show itr m _ _=j
   rw[<-b1,<-iF,show d2-d1+d1=d2 by omega]
   exact b2
theorem nW(hl:ps.length<=m):∃j,j<m+1/\j∉ps:=by
 refine Classical.byContradiction λq=>?_
 have:=List.nodup_range.length_le_of_subset (l₁:=List.range (m+1)) (l₂:=ps) λj hj=>Classical.byContradiction λz=>q ⟨j,List.mem_range.mp hj,z⟩
 rw[List.length_range] at this
 omega
theorem aFn{P:Nat->Prop}:∀n,P n->∃k,k<=n/\P k/\∀i,i<k->¬ P i:=by
 intro n
 induction n using Nat.strongRecOn with
 | _ n ih=>
  intro h
  by_cases q:∃i,i<n/\P i
  . obtain⟨i,a,b⟩:=q
    obtain⟨k,c,d⟩:=ih i a b
    exact⟨k,by omega,d⟩
  . exact⟨n,Nat.le_refl _,h,λi hi z=>q ⟨i,hi,z⟩⟩
theorem lR(hm:M2 m)(hl:ps.length<=m)(h:Int):∃N,N<10*(m+15)/\(pth m h N).j∉ps/\∀n,n<N->(pth m h n).j∈ps:=by
 obtain⟨j,a,b⟩:=nW hl
 obtain⟨c,d,e⟩:=aDS (h:=h) hm a
 have z:(pth m h (off m h c)).j=j:=by
  have:=kG (m:=m) (h:=h) c 0 (Nat.zero_le _)
  rw[Nat.add_zero] at this
  rw[this]
  exact e
 obtain⟨N,a1,a2,a3⟩:=aFn (P:=λn=>(pth m h n).j∉ps) (off m h c) (by rw[z];exact b)
 have:=uS (m:=m) (h:=h) c
 exact⟨N,by omega,a2,λn hn=>Classical.byContradiction λq=>a3 n hn q⟩
end
noncomputable def Rod(m:Nat)(P:Nat->Prop)(h:Int)(j:Nat):Prop:=∃n,n<10*(m+15)/\(pth m h n).j=j/\∀n',n'<n->P (pth m h n').j
theorem Rod.mono{m:Nat}{P P':Nat->Prop}{h:Int}{j:Nat}(hp:∀x,P x->P' x):Rod m P h j->Rod m P' h j:=λ⟨n,a,b,c⟩=>⟨n,a,b,λn' hn=>hp _ (c n' hn)⟩
theorem wH{m:Nat}{h:Int}(ow:Array (Option Nat)):∀fuel c,(∃c',c<=c'/\c'<c+fuel/\ow.getD (lps m h c').1 (some 0)=none) ->
 ∃n j,layClean.free m ow fuel (lps m h c).1 (lps m h c).2=some j/\n<10*(c+fuel)/\(pth m h n).j=j/\ow.getD j (some 0)=none/\∀n',off m h c<=n'->n'<n->ow.getD (pth m h n').j (some 0)≠none
 | 0,c,⟨c',a,b,_⟩=>absurd b (by omega)
 | f+1,c,⟨c',a,b,e⟩=>by
  rw[layClean.free]
  have hr:=aAV (m:=m) (lps m h c).1
  have ho:=uS (m:=m) (h:=h) c
  cases q:(List.range (runEnd m (lps m h c).1+1-(lps m h c).1)).find? λk=>(ow.getD ((lps m h c).1+k) (some 0)).isNone with
  | some k=>
   obtain⟨k1,k2,k3⟩:=List.find?_range_eq_some.mp q
   have k2':=List.mem_range.mp k2
   have at_:∀k',k'<=k->(pth m h (off m h c+k')).j=(lps m h c).1+k':=λk' hk=>by rw[kG c k' (by omega)];rfl
   refine⟨off m h c+k,(lps m h c).1+k,rfl,by omega,at_ k (Nat.le_refl _),by simpa using k1,λn' h1 h2=>?_⟩
   have:=at_ (n'-off m h c) (by omega)
   rw[show off m h c+(n'-off m h c)=n' by omega] at this
   rw[this]
   have:=k3 (n'-off m h c) (by omega)
   intro z
   rw[z] at this
   simp at this
  | none=>
   have k3:=List.find?_range_eq_none.mp q
   have at_:∀k',k'<=runEnd m (lps m h c).1-(lps m h c).1->ow.getD (pth m h (off m h c+k')).j (some 0)≠none:=λk' hk=>by
    rw[kG c k' hk]
    intro z
    have:=k3 k' (by omega)
    rw[show ow.getD ((lps m h c).1+k') (some 0)=none from z] at this
    simp at this
   have hne:c≠c':=λz=>by
    subst z
    have:=at_ 0 (Nat.zero_le _)
    rw[kG c 0 (Nat.zero_le _)] at this
    exact this e
   obtain⟨n,j,r1,r2,r3,r4,r5⟩:=wH ow f (c+1) ⟨c',by omega,by omega,e⟩
   refine⟨n,j,r1,by omega,r3,r4,λn' h1 h2=>?_⟩
   rcases Nat.lt_or_ge n' (off m h (c+1)) with z|z
   . have z':n'<off m h c+(runEnd m (lps m h c).1-(lps m h c).1)+1:=z
     have:=at_ (n'-off m h c) (by omega)
     rw[show off m h c+(n'-off m h c)=n' by omega] at this
     exact this
   . exact r5 n' z h2
structure Ow (m:Nat) (hs:List Int) (ow:Array (Option Nat)) (ps:List Nat):Prop where
 sz:ow.size=m+1
 len:ps.length=hs.length
 at_:∀j x:Nat,ow[j]? = some (some x)↔ps[x]? = some j
 rod:∀(x:Nat) h j,hs[x]? = some h->ps[x]? = some j->Rod m (·∈ps) h j
theorem Ow.step{m:Nat}(hm:M2 m){hs:List Int}{ow:Array (Option Nat)}{ps:List Nat}(o:Ow m hs ow ps)(hl:hs.length<=m)(h:Int):∃j,layClean.free m ow (turns m) (bits h % (m+1)) (bits h)=some j/\Ow m (hs++[h]) (ow.setIfInBounds j (some hs.length)) (ps++[j]):=by
 have some_:∀j,ow.getD j (some 0)≠none->j<m+1->j∈ps:=λj hj hj'=>by
  cases q:ow[j]? with
  | none=>rw[Array.getElem?_eq_none_iff,o.sz] at q;omega
  | some y=>
   cases y with
   | none=>exact absurd (by simp[Array.getD_eq_getD_getElem?,q]) hj
   | some x=>exact mG ((o.at_ j x).mp q)
 obtain⟨j0,a,b⟩:=nW (m:=m) (ps:=ps) (by rw[o.len];exact hl)
 obtain⟨c,d,e⟩:=aDS (h:=h) hm a
 obtain⟨n,j,r1,r2,r3,r4,r5⟩:=wH (m:=m) (h:=h) ow (m+15) 0 ⟨c,Nat.zero_le _,by omega,by
  rw[e]
  exact Classical.byContradiction λq=>b (some_ j0 q a)⟩
 have hj:ow[j]? = some none:=by
  rw[Array.getD_eq_getD_getElem?] at r4
  cases q:ow[j]? with
  | none=>rw[q] at r4;cases r4
  | some y=>rw[q] at r4;exact congrArg some r4
 have hj32:j<m+1:=by rw[<-o.sz];exact(Array.getElem?_eq_some_iff.mp hj).1
 refine⟨j,r1,by rw[Array.size_setIfInBounds];exact o.sz,by rw[lA,lA,o.len];rfl,λj' x=>?_,λx h' j' h1 h2=>?_⟩
 . rw[Array.getElem?_setIfInBounds]
   by_cases q:j=j'
   . subst q
     rw[if_pos rfl,if_pos (by rw[o.sz];exact hj32)]
     constructor
     . intro z
       cases z
       rw[<-o.len];simp
     . intro z
       rcases Nat.lt_or_ge x ps.length with k|k
       . rw[List.getElem?_append_left k] at z
         rw[(o.at_ j x).mpr z] at hj
         cases hj
       . rw[List.getElem?_append_right k] at z
         have:x-ps.length=0:=by
          have:=(List.getElem?_eq_some_iff.mp z).1
          simp at this
          omega
         rw[show x=hs.length by have:=o.len;omega]
   . rw[if_neg q,o.at_ j' x]
     constructor
     . intro z
       rw[List.getElem?_append_left (List.getElem?_eq_some_iff.mp z).1];exact z
     . intro z
       rcases Nat.lt_or_ge x ps.length with k|k
       . rw[List.getElem?_append_left k] at z;exact z
       . rw[List.getElem?_append_right k] at z
         have:=mG z
         exact absurd (List.mem_singleton.mp this).symm q
 . rcases Nat.lt_or_ge x hs.length with k|k
   . rw[List.getElem?_append_left k] at h1
     rw[List.getElem?_append_left (by rw[o.len];exact k)] at h2
     exact(o.rod x h' j' h1 h2).mono λy hy=>List.mem_append_left _ hy
   . rw[List.getElem?_append_right k] at h1
     rw[List.getElem?_append_right (by rw[o.len];exact k)] at h2
     obtain rfl:=(List.mem_singleton.mp (mG h1))
     obtain rfl:=(List.mem_singleton.mp (mG h2))
     exact⟨n,by omega,r3,λn' hn=>List.mem_append_left _ (some_ _ (r5 n' (Nat.zero_le _) hn) (aFm n'))⟩
set_option maxRecDepth 100000
theorem Ow.nil{m:Nat}:Ow m [] (Array.replicate (m+1) none) [] where
 sz:=by simp
 len:=rfl
 at_:=λj x=>by
  rw[Array.getElem?_replicate]
  constructor
  . intro z;split at z <;> cases z
  . intro z;simp at z
 rod:=λx h j h1=>by simp at h1
noncomputable def aFo(m:Nat)(acc:Option (Array (Option Nat)×Nat))(h:Int):Option (Array (Option Nat)×Nat):=do
 let (owner,k)<-acc
 let j<-layClean.free m owner (turns m) (bits h % (m+1)) (bits h)
 pure (owner.setIfInBounds j (some k),k+1)
theorem sL{m:Nat}(hm:M2 m):∀(rest hs:List Int) (ow:Array (Option Nat)) (ps:List Nat),Ow m hs ow ps->hs.length+rest.length<=m->∃ow' ps',rest.foldl (aFo m) (some (ow,hs.length))=some (ow',(hs++rest).length)/\Ow m (hs++rest) ow' ps'
 | [],hs,ow,ps,o,_=>⟨ow,ps,by rw[List.append_nil];rfl,by rw[List.append_nil];exact o⟩
 | h::rest,hs,ow,ps,o,hl=>by
  rw[lC] at hl
  obtain⟨j,e,o'⟩:=o.step hm (by omega) h
  have:=sL hm rest (hs++[h]) _ _ o' (by rw[lA];show hs.length+1+rest.length<=m;omega)
  rw[List.append_assoc,lA] at this
  have e2:aFo m (some (ow,hs.length)) h=some (ow.setIfInBounds j (some hs.length),hs.length+1):=by
   show(do let j<-layClean.free m ow (turns m) (bits h % (m+1)) (bits h);pure (ow.setIfInBounds j (some hs.length),hs.length+1))=_
   rw[e];rfl
  rw[List.foldl_cons,e2]
  exact this
theorem wJ{m:Nat}(hm:M2 m)(hs:List Int)(hl:hs.length<=m)(f mv:Nat)(led pl:Bool):∃live:List (Nat×Nat),
 laid m f mv led pl hs.toArray=some ({ mask:=m,place:=(live.map (·.1)).toArray,dummies:=#[],finger:=f,led:=led,moves:=mv,plain:=pl },(live.map (·.2)).toArray) /\
 iE (live.map (·.1))/\(live.map (·.2)).Perm (List.range hs.length)/\∀p∈live,∀h,hs[p.2]? = some h->Rod m (·∈live.map (·.1)) h p.1:=by
 obtain⟨ow,ps,e,o⟩:=sL hm hs [] _ _ Ow.nil (by simpa using hl)
 rw[List.nil_append] at e o
 refine⟨(List.range (m+1)).filterMap λj=>(ow.getD j none).map (j,·),?_,?_,?_,?_⟩
 . unfold laid
   have:layClean m hs.toArray=some ow:=by
    unfold layClean
    rw[<-Array.foldl_toList]
    show(hs.foldl (aFo m) (some (Array.replicate (m+1) none,0))).map (·.1)=some ow
    rw[show(some (Array.replicate (m+1) none,0):Option (Array (Option Nat)×Nat))=some (Array.replicate (m+1) none,([]:List Int).length) from rfl,e]
    rfl
   rw[this]
   rfl
 all_goals
  have mem:∀j x,(ow.getD j none).map (j,·)=some x->x.1=j/\ps[x.2]? = some j:=λj x hx=>by
   rw[Array.getD_eq_getD_getElem?] at hx
   cases q:ow[j]? with
   | none=>rw[q] at hx;cases hx
   | some y=>
    rw[q] at hx
    cases y with
    | none=>cases hx
    | some z=>cases hx;exact⟨rfl,(o.at_ j z).mp q⟩
 . rw[iE,List.pairwise_map]
   exact List.Pairwise.filterMap _ (λa a' h b hb b' hb'=>by rw[(mem _ _ hb).1,(mem _ _ hb').1];exact h) List.pairwise_lt_range
 all_goals
  have mem2:∀x j,ps[x]? = some j->(j,x)∈(List.range (m+1)).filterMap λj=>(ow.getD j none).map (j,·):=λx j hx=>by
   have q:=(o.at_ j x).mpr hx
   refine List.mem_filterMap.mpr ⟨j,List.mem_range.mpr (by rw[<-o.sz];exact(Array.getElem?_eq_some_iff.mp q).1),?_⟩
   rw[Array.getD_eq_getD_getElem?,q];rfl
 . refine(List.perm_ext_iff_of_nodup ?_ List.nodup_range).mpr λx=>?_
   . rw[List.Nodup,List.pairwise_map]
     exact List.Pairwise.filterMap _ (λa a' h b hb b' hb' z=>by
      have h1:=(mem _ _ hb).2
      have h2:=(mem _ _ hb').2
      rw[z,h2] at h1
      cases h1
      exact Nat.lt_irrefl _ h) List.pairwise_lt_range
   . rw[List.mem_range,<-o.len]
     constructor
     . intro q
       obtain⟨p,hp,rfl⟩:=List.mem_map.mp q
       obtain⟨j,_,hj⟩:=List.mem_filterMap.mp hp
       exact(List.getElem?_eq_some_iff.mp (mem _ _ hj).2).1
     . intro q
       exact List.mem_map.mpr ⟨(ps[x],x),mem2 _ _ (List.getElem?_eq_getElem q),rfl⟩
 . intro p hp h hh
   obtain⟨j,_,hj⟩:=List.mem_filterMap.mp hp
   obtain⟨e1,e2⟩:=mem _ _ hj
   rw[e1]
   refine(o.rod p.2 h j hh e2).mono λy hy=>?_
   obtain⟨x,hx⟩:=List.mem_iff_getElem?.mp hy
   exact List.mem_map.mpr ⟨(y,x),mem2 _ _ hx,rfl⟩
set_option maxRecDepth 100000
structure SK (prog:Program) (w:World) (K:Type) [DecidableEq K] extends HeapKind prog w K where
 noCl:∀{A:Around} {E:Value->Shared->Prop} {s:Shared} {k:K} {a:Addr} {Q:Bool->Shared->Prop},is s.heap k a->Q false s->wpAny (model prog w) A (ofAClassStatement 8 (.ref a)) Q E s
 byV:∀{A:Around} {E:Value->Shared->Prop} {s:Shared} {k:K} {a:Addr} {Q:Bool->Shared->Prop},is s.heap k a->Q true s->wpAny (model prog w) A (hashByValue 8 (.ref a)) Q E s
 keepT:∀{h h':Heap} {k:K} {a:Addr},is h k a->(∀b o,h.get? b=some o->h'.get? b=some o)->is h' k a
noncomputable def byTt(w:World):Bool:=w.params.followText "set-order"
section
variable {prog:Program} {w:World} {K:Type} [DecidableEq K] (knd:SK prog w K)
noncomputable def sen(xs:List (K×Addr)):Array (Int×Value):=(xs.map λx=>(knd.hash x.1,Value.ref x.2)).toArray
theorem aU(xs:List (K×Addr)):(sen knd xs).size=xs.length:=by unfold sen;rw[List.size_toArray,lM]
theorem lT(xs:List (K×Addr))(i:Nat):(sen knd xs)[i]? = (xs[i]?).map λx=>(knd.hash x.1,Value.ref x.2):=by unfold sen;rw[List.getElem?_toArray,List.getElem?_map]
structure Tb (xs:List (K×Addr)) (m:Nat) (ps:List Nat):Prop where
 m2:M2 m
 rise:iE ps
 len:ps.length=xs.length
 nd:(xs.map (·.1)).Nodup
 few:xs.length*5<m*3
 rod:∀(i:Nat) x j,xs[i]? = some x->ps[i]? = some j->Rod m (·∈ps) (knd.hash x.1) j
theorem M2.le{m:Nat}(h:M2 m):7<=m/\m<=4095:=by
 obtain⟨k,hk,e⟩:=h
 have h1:2 ^ 3<=2 ^ (k+3):=Nat.pow_le_pow_right (by decide) (by omega)
 have h2:2 ^ (k+3)<=2 ^ 12:=Nat.pow_le_pow_right (by decide) (by omega)
 omega
variable {knd}
theorem Tb.lt{xs:List (K×Addr)}{m:Nat}{ps:List Nat}(T:Tb knd xs m ps):ps.length<m:=by
 have h1:=T.len
 have h2:=T.few
 omega
variable (knd)
noncomputable def setT(xs:List (K×Addr))(ep m:Nat)(ps:List Nat)(mv:Nat):Obj:={ cls:=.type "set",dict:=none,data:=.set (sen knd xs) ep (tm m ps mv (!byTt w)),slots:=#[] }
variable {knd}
theorem Tb.fits{xs:List (K×Addr)}{m:Nat}{ps:List Nat}(T:Tb knd xs m ps){mv:Nat}{led:Bool}:(tm m ps mv led).fits (sen knd xs).size=true:=by
 have h1:=T.len
 have h2:=T.lt
 unfold SetTable.fits SetTable.fill tm
 rw[aU]
 simp
 omega
end
section
variable {prog:Program} {w:World} {K:Type} [DecidableEq K] {knd:SK prog w K} {A:Around} {E:Value->Shared->Prop} {s:Shared} {S a:Addr} {k:K} {xs:List (K×Addr)} {m mv ep:Nat} {ps:List Nat}
theorem aFp{Q:Bool->Shared->Prop}(ha:knd.is s.heap k a):∀(ys:List (K×Addr)),(∀y∈ys,knd.is s.heap y.1 y.2)->Q false s->wpAny (model prog w) A (searchCouldBeSeen (.ref a) (ys.map λy=>Value.ref y.2)) Q E s:=by
 intro ys hy h
 unfold searchCouldBeSeen
 refine wpAny_bind (wpAny_forIn_list _ (λrest r s'=>r.1=none/\s'=s/\∃zs:List (K×Addr),rest=zs.map (λy=>Value.ref y.2)/\∀y∈zs,knd.is s.heap y.1 y.2) _ ?_ ?_ _ _ ⟨rfl,rfl,ys,rfl,hy⟩)
 . rintro v rest r s' ⟨hr,rfl,zs,hz,hall⟩
   cases zs with
   | nil=>cases hz
   | cons z zs=>
    cases hz
    dsimp only
    have tl:∀y∈zs,knd.is s'.heap y.1 y.2:=λy hy=>hall y (List.mem_cons_of_mem _ hy)
    by_cases c:((a==z.2)||(carriedByValue (.ref a)&&carriedByValue (.ref z.2)))=true
    . rw[if_pos c]
      exact wpAny_pure ⟨rfl,rfl,zs,rfl,tl⟩
    . rw[if_neg c]
      refine wpAny_bind (knd.quiet ha ?_)
      rw[if_neg (by decide)]
      refine wpAny_bind (knd.quiet (hall z List.mem_cons_self) ?_)
      rw[if_neg (by decide)]
      refine wpAny_bind (knd.noCl ha ?_)
      rw[if_neg (by decide)]
      refine wpAny_bind (knd.noCl (hall z List.mem_cons_self) ?_)
      rw[if_neg (by decide)]
      exact wpAny_pure ⟨rfl,rfl,zs,rfl,tl⟩
 . rintro ⟨r1,r2⟩ s' ⟨hr,rfl,_⟩
   simp only at hr
   subst hr
   exact wpAny_pure h
theorem aJF(T:Tb knd xs m ps){led:Bool}:(tm m ps mv led).gaveWay=false:=by
 have:m % 2=1:=by
  obtain⟨k,_,e⟩:=T.m2
  rw[show k+3=k+2+1 by omega,Nat.pow_succ] at e
  omega
 simp[SetTable.gaveWay,tm,this]
theorem prb{led:Bool}{h:Int}{p:Probe}{met:Met}(e:∀ha,(∀i,i<ps.length->ha i=((xs[i]?).map λx=>knd.hash x.1).getD 0)->probe.go (tm m ps mv led) ha h (10*turns m) p=some met)(ha:Nat->Int)(hh:∀i,ha i=(((sen knd xs)[i]?).map (·.1)).getD 0):(tm m ps mv led).probe ha h p=some met:=
 e ha λi _=>by rw[hh,lT,Option.map_map];rfl
theorem yP(k:K):((sen knd xs).filter λx=>x.1==knd.hash k).toList.map (·.2)=(xs.filter λx=>knd.hash x.1==knd.hash k).map λy=>Value.ref y.2:=by
 unfold sen
 rw[Array.toList_filter,List.filter_map,List.map_map]
 rfl
theorem jE(hu:knd.room A)(T:Tb knd xs m ps)(ho:s.heap.get? S=some (setT knd xs ep m ps mv))(hk:∀x∈xs,knd.is s.heap x.1 x.2)(ha:knd.is s.heap k a){N:Nat}(hN:(pth m (knd.hash k) N).j∉ps)(hl:∀n,n<N->(pth m (knd.hash k) n).j∈ps)(hb:N<10*(m+15)){Q:SetFound->Shared->Prop}
 {ad:Bool} (h1:k∈xs.map (·.1)->∀r:Option Nat,(ad=true->r=none)->(ad=false->r.isSome=true)->Q (.there r) s) (h2:k∉xs.map (·.1)->Q (.free (pth m (knd.hash k) N).j false) s):∀fuel n stand,n<=N->N-n<fuel->(∀n' (i:Nat) x,n'<n->ps[i]? = some (pth m (knd.hash k) n').j->xs[i]? = some x->x.1≠k)->stand.getD (pth m (knd.hash k) 0)=pth m (knd.hash k) n ->
 wpAny (model prog w) A (setSearchFrom S (.ref a) (knd.hash k) ad fuel stand) Q E s
 | 0,n,_,_,hf,_,_=>absurd hf (Nat.not_lt_zero _)
 | f+1,n,stand,hn,hf,hno,hst=>by
  rw[setSearchFrom]
  refine wpAny_bind (wpAny_setState_of ho rfl T.fits ?_)
  dsimp only
  rw[if_neg (by rw[aJF T];decide)]
  rw[show(tm m ps mv (!byTt w)).probeStart (knd.hash k)=pth m (knd.hash k) 0 from rfl,hst]
  have hlen:=T.len
  rcases probe_go (mv:=mv) (led:=!byTt w) T.rise (λi=>((xs[i]?).map λx=>knd.hash x.1).getD 0) hN hl (10*turns m) n hn (by unfold turns;omega) with⟨e,H⟩|⟨n',i,a1,a2,a3,a4,e,H⟩
  all_goals
   rw[prb e]
   case hh=>exact λ_=>rfl
  . dsimp only
    refine wpAny_pure (h2 λhm=>?_)
    obtain⟨x,hx,rfl⟩:=List.mem_map.mp hm
    obtain⟨i,hi⟩:=List.mem_iff_getElem?.mp hx
    have hil:=(List.getElem?_eq_some_iff.mp hi).1
    obtain⟨n0,b1,b2,b3⟩:=T.rod i x _ hi (List.getElem?_eq_getElem (by omega))
    have b4:ps[i]? = some (pth m (knd.hash x.1) n0).j:=by rw[b2];exact List.getElem?_eq_getElem _
    have hlt:n0<N:=by
     rcases Nat.lt_trichotomy n0 N with z|z|z
     . exact z
     . exact absurd (mG b4) (by rw[z];exact hN)
     . exact absurd (b3 N z) hN
    rcases Nat.lt_or_ge n0 n with z|z
    . exact hno n0 i x z b4 hi rfl
    . exact H n0 i z hlt b4 (by rw[hi];rfl)
  . have hil:=(List.getElem?_eq_some_iff.mp a3).1
    obtain⟨x,hx⟩:∃x,xs[i]? = some x:=⟨_,List.getElem?_eq_getElem (by omega)⟩
    have hxm:=mG hx
    have rec_:x.1≠k->wpAny (model prog w) A (setSearchFrom S (.ref a) (knd.hash k) ad f (some (pth m (knd.hash k) (n'+1)))) Q E s:=λc=>
     jE hu T ho hk ha hN hl hb h1 h2 f (n'+1) _ (by omega) (by omega) (λn'' i'' x'' q1 q2 q3=>by
      rcases Nat.lt_or_ge n'' n with z|z
      . exact hno n'' i'' x'' z q2 q3
      . rcases Nat.lt_or_ge n'' n' with z'|z'
        . intro z3
          exact H n'' i'' z z' q2 (by rw[q3];exact congrArg knd.hash z3)
        . obtain rfl:n''=n':=by omega
          have:=(uQ T.rise a3).symm.trans (uQ T.rise q2)
          subst this
          rw[hx] at q3
          cases q3
          exact c) rfl
    dsimp only
    split
    case' isTrue=>
     refine wpAny_bind ?_
     rw[yP]
     refine aFp ha _ (λy hy=>hk y (List.mem_filter.mp hy).1) ?_
     rw[if_neg (by decide)]
    all_goals
     rw[lT,hx]
     dsimp only[Option.map_some]
     refine wpAny_bind (wpAny_holding (knd.eqBool hu (hk x hxm) ha ?_))
     refine wpAny_bind (wpAny_setState_of ho rfl T.fits ?_)
     dsimp only
     by_cases c0:(ad&&decide (x.1=k))=true
     . rw[if_pos c0]
       rw[bA,decide_eq_true_eq] at c0
       exact wpAny_pure (h1 (List.mem_map.mpr ⟨x,hxm,c0.2⟩) none (λ_=>rfl) λz=>by rw[c0.1] at z;cases z)
     . rw[if_neg c0,show(tm m ps mv (!byTt w)).sameMemory (tm m ps mv (!byTt w)).moves (tm m ps mv (!byTt w)).mask=some true by unfold SetTable.sameMemory;rw[if_pos (beq_self_eq_true _)]]
       dsimp only
       rw[if_pos rfl,dZ T.rise a3]
       dsimp only
       rw[lT,hx]
       dsimp only[Option.map_some]
       refine wpAny_bind ?_
       unfold isSame
       dsimp only
       rw[if_pos (beq_self_eq_true _)]
       refine wpAny_pure (wpAny_bind (wpAny_pure ?_))
       rw[if_pos rfl]
       dsimp only
       by_cases c:x.1=k
       . rw[if_pos (by simp[c])]
         refine wpAny_pure (h1 (List.mem_map.mpr ⟨x,hxm,c⟩) _ (λz=>?_) λ_=>rfl)
         rw[z,c] at c0
         simp at c0
       . rw[if_neg (by simp[c])]
         exact rec_ c
end
set_option maxRecDepth 100000
noncomputable def cK{α:Type}(l:List α)(p:Nat)(x:α):List α:=l.take p++x::l.drop p
theorem iG{α:Type}(l:List α)(p:Nat)(x:α):SetTable.insertAt l.toArray p x=(cK l p x).toArray:=by
 unfold SetTable.insertAt cK
 apply Array.ext'
 simp[List.extract_eq_drop_take]
 rw[List.take_of_length_le (by rw[List.length_drop];omega)]
theorem fF{α:Type}{l:List α}{p:Nat}{x:α}:(cK l p x).length=l.length+1:=by
 unfold cK
 rw[lA,lC,List.length_take,List.length_drop]
 omega
theorem jF{α:Type}{l:List α}{p:Nat}{x:α}:(cK l p x).Perm (x::l):=by
 unfold cK
 refine List.perm_middle.trans ?_
 rw[List.take_append_drop]
theorem wK{α:Type}{l:List α}{p:Nat}{x:α}(hp:p<=l.length)(i:Nat):(cK l p x)[i]? = if i<p then l[i]? else if i=p then some x else l[i-1]? := by
 unfold cK
 by_cases h:i<p
 . rw[if_pos h,List.getElem?_append_left (by rw[List.length_take];omega),List.getElem?_take,if_pos h]
 . rw[if_neg h,List.getElem?_append_right (by rw[List.length_take];omega),List.length_take,Nat.min_eq_left hp]
   by_cases h2:i=p
   . rw[if_pos h2,h2,Nat.sub_self];rfl
   . rw[if_neg h2,show i-p=(i-1-p)+1 by omega,gS,List.getElem?_drop,show p+(i-1-p)=i-1 by omega]
theorem sM{α β:Type}(f:α->β)(l:List α)(p:Nat)(x:α):(cK l p x).map f=cK (l.map f) p (f x):=by
 unfold cK;rw[List.map_append,mC,List.map_take,List.map_drop]
theorem aAW{ps:List Nat}(hr:iE ps){j:Nat}(hj:j∉ps):iE (cK ps (below ps.toArray j) j):=by
 obtain⟨h1,h2,h3⟩:=bel hr j
 have up:∀i v,below ps.toArray j<=i->ps[i]? = some v->j<v:=λi v a b=>by
  have:=h3 i v a b
  have:j≠v:=λz=>hj (z▸mG b)
  omega
 unfold cK iE
 rw[List.pairwise_append]
 refine⟨hr.sublist (List.take_sublist _ _),List.pairwise_cons.mpr ⟨λv hv=>?_,hr.sublist (List.drop_sublist _ _)⟩,λv hv u hu=>?_⟩
 . obtain⟨i,hi⟩:=List.mem_iff_getElem?.mp hv
   rw[List.getElem?_drop] at hi
   exact up _ _ (Nat.le_add_right _ _) hi
 . obtain⟨i,hi⟩:=List.mem_iff_getElem?.mp hv
   rw[List.getElem?_take] at hi
   split at hi
   . have hlt:=h2 i v ‹_› hi
     rcases List.mem_cons.mp hu with rfl|hu
     . exact hlt
     . obtain⟨i',hi'⟩:=List.mem_iff_getElem?.mp hu
       rw[List.getElem?_drop] at hi'
       exact Nat.lt_trans hlt (up _ _ (Nat.le_add_right _ _) hi')
   . cases hi
theorem aFq{prog:Program}{w:World}{K:Type}[DecidableEq K]{knd:SK prog w K}{xs:List (K×Addr)}{m:Nat}{ps:List Nat}(T:Tb knd xs m ps){k:K}{a:Addr}(hk:k∉xs.map (·.1)){N:Nat}(hb:N<10*(m+15))(hN:(pth m (knd.hash k) N).j∉ps)(hl:∀n,n<N->(pth m (knd.hash k) n).j∈ps) :
 let p:=below ps.toArray (pth m (knd.hash k) N).j
 (∀(i:Nat) x j,(cK xs p (k,a))[i]? = some x->(cK ps p (pth m (knd.hash k) N).j)[i]? = some j->Rod m (·∈cK ps p (pth m (knd.hash k) N).j) (knd.hash x.1) j)/\((cK xs p (k,a)).map (·.1)).Nodup:=by
 intro p
 have hp:p<=ps.length:=(bel T.rise _).1
 have sub:∀y,y∈ps->y∈cK ps p (pth m (knd.hash k) N).j:=λy hy=>jF.mem_iff.mpr (List.mem_cons_of_mem _ hy)
 refine⟨λi x j hx hj=>?_,?_⟩
 . rw[wK (by rw[<-T.len];exact hp)] at hx
   rw[wK hp] at hj
   split at hx
   . rw[if_pos ‹_›] at hj
     exact(T.rod i x j hx hj).mono sub
   . rw[if_neg ‹_›] at hj
     split at hx
     . rw[if_pos ‹_›] at hj
       cases hx
       cases hj
       exact⟨N,hb,rfl,λn hn=>sub _ (hl n hn)⟩
     . rw[if_neg ‹_›] at hj
       exact(T.rod _ x j hx hj).mono sub
 . rw[sM]
   exact(jF.nodup_iff).mpr (List.nodup_cons.mpr ⟨hk,T.nd⟩)
theorem qB{α:Type}{xs:List α}:∀(l:List Nat),(∀x∈l,x<xs.length)->(l.filterMap λi=>xs[i]?).length=l.length/\∀i:Nat,(l.filterMap λi=>xs[i]?)[i]? = (l[i]?).bind λi=>xs[i]?
 | [],_=>⟨rfl,λi=>by simp⟩
 | y::l,h=>by
  obtain⟨h1,h2⟩:=qB (xs:=xs) l λx hx=>h x (List.mem_cons_of_mem _ hx)
  have hy:=h y List.mem_cons_self
  rw[List.filterMap_cons,List.getElem?_eq_getElem hy]
  dsimp only
  refine⟨by rw[lC,lC,h1],λi=>?_⟩
  cases i with
  | zero=>simp[hy]
  | succ i=>rw[gS,gS,h2]
section
variable {prog:Program} {w:World} {K:Type} [DecidableEq K] {knd:SK prog w K} {A:Around} {E:Value->Shared->Prop} {s:Shared} {S a:Addr} {k:K} {xs:List (K×Addr)} {m mv ep:Nat} {ps:List Nat}
theorem iH{h:Heap}(ho:h.get? S=some (setT knd xs ep m ps mv))(xs':List (K×Addr))(m':Nat)(ps':List Nat)(mv':Nat):(h.update S (Obj.putSet (sen knd xs') (tm m' ps' mv' (!byTt w)))).get? S=some (setT knd xs' (ep+1) m' ps' mv'):=by
 have:=Heap.get?_update_self (Obj.putSet (sen knd xs') (tm m' ps' mv' (!byTt w))) ho rfl
 exact this
theorem aHu{led:Bool}{j:Nat}:(tm m ps mv led).put j=(tm m (cK ps (below ps.toArray j) j) mv led,below ps.toArray j):=by
 unfold SetTable.put tm
 dsimp only
 rw[iG,if_neg (by simp[has])]
theorem aCS(p:Nat):insertAt (sen knd xs) p (knd.hash k,Value.ref a)=sen knd (cK xs p (k,a)):=by
 unfold sen
 rw[iG,sM]
noncomputable def okS(n:Nat):Bool:=((List.range 10).any λk=>sizeAbove n==2 ^ (k+3))&&decide (n<sizeAbove n)&&decide (sizeAbove n<=4096)
theorem aCT:∀n∈List.range 3000,okS n=true:=by decide +kernel
theorem wL(n:Nat)(h:n<3000):M2 (sizeAbove n-1)/\n<sizeAbove n/\sizeAbove n<=4096:=by
 have q:=aCT n (List.mem_range.mpr h)
 unfold okS at q
 simp only[bA,decide_eq_true_eq,List.any_eq_true,beq_iff_eq] at q
 obtain⟨⟨⟨k,hk,e⟩,q2⟩,q3⟩:=q
 exact⟨⟨k,List.mem_range.mp hk,by omega⟩,q2,q3⟩
theorem wM{M wn:Nat}(hM:M2 M)(hw:sizeAbove wn-1=M)(hne:¬ sizeAbove wn>sizeLine)(ho:s.heap.get? S=some (setT knd xs ep m ps mv))(hf:(tm m ps mv (!byTt w)).fits (sen knd xs).size=true)(hl:xs.length*5<M*3)(hnd:(xs.map (·.1)).Nodup){Q:Unit->Shared->Prop}
 (h:∀h' xs' ps' mv' ep',Heap.SameBut S s.heap h'->Tb knd xs' M ps'->h'.get? S=some (setT knd xs' ep' M ps' mv')->xs'.Perm xs->Q () { s with heap:=h' }):wpAny (model prog w) A (setRelay S wn) Q E s:=by
 unfold setRelay
 refine wpAny_bind (wpAny_setState_of ho rfl hf ?_)
 dsimp only
 rw[if_neg hne]
 obtain⟨live,e,h1,h2,h3⟩:=wJ hM (xs.map λx=>knd.hash x.1) (by rw[lM];omega) 0 ((tm m ps mv (!byTt w)).movedTo M) (!byTt w) true
 have hrel:(tm m ps mv (!byTt w)).relaid ((sen knd xs).map (·.1)) wn=some (tm M (live.map (·.1)) ((tm m ps mv (!byTt w)).movedTo M) (!byTt w),(live.map (·.2)).toArray):=by
  have:(sen knd xs).map (·.1)=(xs.map λx=>knd.hash x.1).toArray:=by
   unfold sen;rw[List.map_toArray,List.map_map];rfl
  rw[this]
  unfold SetTable.relaid
  rw[hw]
  exact e
 rw[hrel]
 generalize (tm m ps mv (!byTt w)).movedTo M=mv'
 rw[lM] at h2
 have hlt:∀x∈live.map (·.2),x<xs.length:=λx hx=>List.mem_range.mp (h2.mem_iff.mp hx)
 obtain⟨q1,q2⟩:=qB (xs:=xs) (live.map (·.2)) hlt
 have hll:(live.map (·.2)).length=xs.length:=by rw[h2.length_eq,List.length_range]
 have hes:((live.map (·.2)).toArray.filterMap λi=>(sen knd xs)[i]?)=sen knd ((live.map (·.2)).filterMap λi=>xs[i]?):=by
  apply Array.toList_inj.mp
  rw[Array.toList_filterMap]
  unfold sen
  show(live.map (·.2)).filterMap (λi=>(xs.map λx=>(knd.hash x.1,Value.ref x.2)).toArray[i]?)=((live.map (·.2)).filterMap λi=>xs[i]?).map λx=>(knd.hash x.1,Value.ref x.2)
  rw[List.map_filterMap]
  refine congrArg (λf=>List.filterMap f _) (funext λi=>?_)
  rw[List.getElem?_toArray,List.getElem?_map]
 refine wpAny_bind ?_
 show wpAny _ _ (if (((live.map (·.2)).toArray.filterMap λi=>(sen knd xs)[i]?).size != (sen knd xs).size)=true then _ else _) _ _ _
 rw[hes,if_neg (by rw[aU,aU,q1,hll];simp)]
 refine wpAny_pure ?_
 refine wpAny_storeSet_of ho rfl ?_ (by rw[aU,q1,hll];have:=hM.le;exact Nat.le_trans (show xs.length<=5000 by omega) (by decide))
 refine h _ ((live.map (·.2)).filterMap λi=>xs[i]?) (live.map (·.1)) mv' (ep+1) (Heap.SameBut.update s.heap S _) ?_ ?_ ?_
 . have pm:((live.map (·.2)).filterMap λi=>xs[i]?).Perm xs:=by
    have:=h2.filterMap λi=>xs[i]?
    rw[List.filterMap_getElem?_range_length] at this
    exact this
   refine⟨hM,h1,by rw[q1,lM,lM],((pm.map _).nodup_iff).mpr hnd,by rw[q1,hll];omega,λi x j hx hj=>?_⟩
   rw[q2,List.getElem?_map] at hx
   rw[List.getElem?_map] at hj
   cases hp:live[i]? with
   | none=>rw[hp] at hj;cases hj
   | some p=>
    rw[hp] at hx hj
    cases hj
    refine h3 p (mG hp) _ ?_
    rw[List.getElem?_map,show xs[p.2]? = some x from hx];rfl
 . exact iH ho _ _ _ _
 . have:=h2.filterMap λi=>xs[i]?
   rw[List.filterMap_getElem?_range_length] at this
   exact this
theorem aAX(hu:knd.room A)(T:Tb knd xs m ps)(ho:s.heap.get? S=some (setT knd xs ep m ps mv))(hk:∀x∈xs,knd.is s.heap x.1 x.2)(ha:knd.is s.heap k a)(hfew:k∉xs.map (·.1)->xs.length<=700){Q:Bool->Shared->Prop}
 (h:∀h' b xs' m' ps' mv' ep',Heap.SameBut S s.heap h'->Tb knd xs' m' ps'->h'.get? S=some (setT knd xs' ep' m' ps' mv')->(if k∈xs.map (·.1) then xs'=xs else xs'.Perm ((k,a)::xs))->Q b { s with heap:=h' }):wpAny (model prog w) A (setAddHashed S (.ref a) (knd.hash k)) Q E s:=by
 obtain⟨N,hb,hN,hl⟩:=lR T.m2 (Nat.le_of_lt T.lt) (knd.hash k)
 unfold setAddHashed setAddHashedIn
 refine wpAny_holding (wpAny_bind (wpAny_setState_of ho rfl T.fits ?_))
 dsimp only
 rw[if_neg (by unfold byScan;simp[Value.scannable])]
 unfold setSearch
 have hm31:=T.m2.le
 refine wpAny_bind (jE (ad:=true) hu T ho hk ha hN hl hb (λhm r hr _=>?_) (λhm=>?_) 100000 0 none (Nat.zero_le _) (by omega) (λn' i x z=>absurd z (Nat.not_lt_zero _)) rfl)
 . rw[hr rfl]
   dsimp only
   refine wpAny_pure ?_
   exact h s.heap false xs m ps mv ep (Heap.SameBut.refl S s.heap) T ho (by rw[if_pos hm])
 . dsimp only
   refine wpAny_bind (wpAny_setState_of ho rfl T.fits ?_)
   dsimp only
   rw[aHu]
   dsimp only
   rw[if_pos (show(tm m _ mv (!byTt w)).plain=true from rfl)]
   refine wpAny_bind (knd.byV ha ?_)
   rw[if_pos rfl,aCS]
   obtain⟨g1,g2⟩:=aFq (a:=a) T hm hb hN hl
   have g3:=aAW T.rise hN
   generalize below ps.toArray (pth m (knd.hash k) N).j=p at g1 g2 g3 ⊢
   generalize hj:(pth m (knd.hash k) N).j=j at g1 g3 ⊢
   have hlen:(cK ps p j).length=(cK xs p (k,a)).length:=by rw[fF,fF,T.len]
   have hl1:(cK xs p (k,a)).length=xs.length+1:=fF
   have h17:=hfew hm
   refine wpAny_bind (wpAny_storeSet_of ho rfl ?_ (by rw[aU,hl1];exact Nat.le_trans (show xs.length+1<=701 by omega) (by decide)))
   have ho':=iH ho (cK xs p (k,a)) m (cK ps p j) mv
   have hfull:(tm m (cK ps p j) mv (!byTt w)).tooFull=decide ((xs.length+1)*5 ≥ m*3):=by
    unfold SetTable.tooFull SetTable.fill tm
    simp[fF,T.len]
   have pm:(cK xs p (k,a)).Perm ((k,a)::xs):=jF
   rw[hfull,aU]
   by_cases c:(xs.length+1)*5 ≥ m*3
   . obtain⟨z1,z2,z3⟩:=wL ((xs.length+1)*4) (by omega)
     rw[if_pos (by simpa using c),show grown (xs.length+1)=(xs.length+1)*4 by unfold grown;rw[if_neg (by omega)]]
     refine wpAny_bind (wM (s:={ s with heap:=_ }) z1 rfl (by rw[show sizeLine=16777216 by decide];omega) ho' ?_ (by rw[hl1];omega) g2 λh' xs' ps' mv' ep' b1 b2 b3 b4=>?_)
     . unfold SetTable.fits SetTable.fill tm
       rw[aU,hl1]
       have:=T.len
       have:=T.lt
       simp[fF]
       omega
     . exact wpAny_pure (h h' true xs' _ ps' mv' ep' ((Heap.SameBut.update s.heap S _).trans b1) b2 b3 (by rw[if_neg hm];exact b4.trans pm))
   . rw[if_neg (by simpa using c)]
     exact wpAny_pure (h _ true _ m _ mv (ep+1) (Heap.SameBut.update s.heap S _) ⟨T.m2,g3,hlen,g2,by rw[hl1];omega,g1⟩ ho' (by rw[if_neg hm];exact pm))
end
set_option maxRecDepth 100000
noncomputable def bV{prog:Program}{w:World}{K:Type}[DecidableEq K](knd:SK prog w K)(h:Heap)(S:Addr)(us:List (K×Addr)):Prop:=∃xs m ps mv ep,Tb knd xs m ps/\h.get? S=some (setT knd xs ep m ps mv)/\(∀x∈xs,x∈us)/\∀y∈us,y.1∈xs.map (·.1)
section
variable {prog:Program} {w:World} {K:Type} [DecidableEq K] {knd:SK prog w K} {A:Around} {R:Result->Shared->Prop} {I:Addr} {fp wr:List Addr} {G:Array GenState->Array GenState->Prop} {n:Nat} {P:Nat->Value->Prop} {St:Nat->Shared->Prop}
theorem bV.keep{h h':Heap}{S:Addr}{us:List (K×Addr)}(x:bV knd h S us)(e:∀o,h.get? S=some o->h'.get? S=some o):bV knd h' S us:=by
 obtain⟨xs,m,ps,mv,ep,T,ho,r⟩:=x
 exact⟨xs,m,ps,mv,ep,T,e _ ho,r⟩
theorem yQ(W:WalksS prog w A.in1 I fp wr G n P St)(hu:knd.room A.in1)(S:Addr)(hSf:S∉fp)(us:List (K×Addr))(hval:∀i v,P i v->∃x,us[i]? = some x/\v=Value.ref x.2)(hn:us.length=n)(h0:Heap)(hK0:∀x∈us,knd.is h0 x.1 x.2)(hB:∀b o,h0.get? b=some o->b∉S::wr)(ks:List K)(hks:ks.length<=700)(hin:∀x∈us,x.1∈ks) :
 ∀(m i:Nat) (s:Shared),n-i=m->i<=n->St i s->bV knd s.heap S (us.take i)->(∀b o,h0.get? b=some o->s.heap.get? b=some o) ->
  (∀s',Moved (S::wr) G s s'->bV knd s'.heap S us->R (.ok (.ret .none)) s') ->
  codeAny (model prog w) A (.builtin "set.update.loop" ⟨[.ref S,.ref I],[]⟩) R s:=by
 have nw:S∉wr:=λh=>hSf (W.sub _ h)
 have sb:∀b∈wr,b∈S::wr:=λb hb=>List.mem_cons_of_mem _ hb
 intro m
 induction m with
 | zero=>
  intro i s hk hi hst hS hK hR
  obtain rfl:i=n:=by omega
  refine codeAny_builtin PyProof.Rows.F.entry_set_update_loop ?_
  rw[Around.under_plainId PyProof.Rows.F.plain_set_update_loop _]
  show wpAny _ A.in1 (pyNext (.ref I) >>= _) _ _ s
  refine wpAny_bind (W.done s _ _ hst λs' hm=>?_)
  show wpAny _ A.in1 (ret Value.none) _ _ s'
  rw[List.take_of_length_le (by omega)] at hS
  exact wpAny_pure (hR s' (hm.mono sb) (hS.keep λo e=>hm.heap S o nw e))
 | succ m ih=>
  intro i s hk hi hst hS hK hR
  have hlt:i<n:=by omega
  refine codeAny_builtin PyProof.Rows.F.entry_set_update_loop ?_
  rw[Around.under_plainId PyProof.Rows.F.plain_set_update_loop _]
  show wpAny _ A.in1 (pyNext (.ref I) >>= _) _ _ s
  refine wpAny_bind (W.item i s _ _ hlt hst λv s' hP hst' hm=>?_)
  obtain⟨x,hk1,rfl⟩:=hval i v hP
  have hxm:=mG hk1
  obtain⟨xs,m',ps,mv,ep,T,ho,r1,r2⟩:bV knd s'.heap S (us.take i):=hS.keep λo e=>hm.heap S o nw e
  have gr':∀b o,h0.get? b=some o->s'.heap.get? b=some o:=λb o e=>hm.heap b o (λz=>hB b o e (List.mem_cons_of_mem _ z)) (hK b o e)
  have hK':∀x∈us,knd.is s'.heap x.1 x.2:=λx hx=>knd.keepT (hK0 x hx) gr'
  have htk:us.take (i+1)=us.take i++[x]:=by
   rw[List.take_succ,hk1];rfl
  show wpAny _ A.in1 (holding [Value.ref x.2] (setAdd S (Value.ref x.2)) >>= _) _ _ s'
  refine wpAny_bind (wpAny_holding ?_)
  unfold setAdd
  refine wpAny_holding ?_
  refine wpAny_bind (knd.pyHash (k:=x.1) hu (hK' x hxm) ?_)
  refine aAX (k:=x.1) (s:={ s' with toks:=s'.toks+knd.draws x.1 }) hu T ho (λy hy=>hK' y (List.mem_of_mem_take (r1 y hy))) (hK' x hxm) (λhno=>?_) λh' b xs' m'' ps' mv' ep' hsb T' ho' hp=>?_
  . have:=(List.nodup_cons.mpr ⟨hno,T.nd⟩).length_le_of_subset (l₂:=ks) λy hy=>by
     rcases List.mem_cons.mp hy with rfl|hy
     . exact hin x hxm
     . obtain⟨z,hz,rfl⟩:=List.mem_map.mp hy
       exact hin z (List.mem_of_mem_take (r1 z hz))
    rw[lC,lM] at this
    omega
  have hSi:bV knd h' S (us.take (i+1)):=by
   rw[htk]
   refine⟨xs',m'',ps',mv',ep',T',ho',?_,?_⟩
   . intro y hy
     split at hp
     . rw[hp] at hy
       exact List.mem_append_left _ (r1 y hy)
     . rcases List.mem_cons.mp (hp.mem_iff.mp hy) with rfl|q
       . exact List.mem_append_right _ (List.mem_singleton.mpr rfl)
       . exact List.mem_append_left _ (r1 y q)
   . intro y hy
     split at hp
     . rw[hp]
       rcases List.mem_append.mp hy with q|q
       . exact r2 y q
       . rw[List.mem_singleton.mp q];assumption
     . refine(hp.map _).mem_iff.mpr ?_
       rcases List.mem_append.mp hy with q|q
       . exact List.mem_cons_of_mem _ (r2 y q)
       . rw[List.mem_singleton.mp q];exact List.mem_cons_self
  have hKi:∀b o,h0.get? b=some o->h'.get? b=some o:=λb o e=>by
   rw[hsb.2 b λz=>hB b o e (by rw[z];exact List.mem_cons_self)];exact gr' b o e
  refine wpAny_pure ⟨plainId_quiet PyProof.Rows.F.plain_set_update_loop _,ih (i+1) _ (by omega) hlt (W.frame _ s' _ _ hst' (by show s'.toks<=s'.toks+_;omega) λb hb o e=>?_) hSi hKi λs'' hm'' hS''=>?_⟩
  . rw[hsb.2 b λh:b=S=>hSf (by rw[<-h];exact hb)];exact e
  . refine hR s'' (Moved.trans W.gtrans ((hm.mono sb).then_heap (by show s'.toks<=s'.toks+_;omega) λb o hb e=>?_) hm'') hS''
    rw[hsb.2 b λh:b=S=>hb (by rw[h];exact List.mem_cons_self)];exact e
end
section
variable {prog:Program} {w:World} {K:Type} [DecidableEq K] {knd:SK prog w K} {A:Around} {E:Value->Shared->Prop} {s:Shared}
theorem aAY(a:Value){Q₁:Value->Shared->Prop}(h:Q₁ (.ref s.heap.objs.size) { s with heap:=s.heap.push { cls:=.type "set",dict:=none,data:=.set #[] 0 (.fresh 0 0 (!byTt w)) } }) :
 codeAny (model prog w) A (.call (.builtin "set.__new__") ⟨[.type "set",a],[]⟩) (wants Q₁ E) s:=by
 refine codeAny_of_tree ?_
 show wpAny _ A.in1 (do checkBuiltinCall "set.__new__" ⟨[.type "set",a],[]⟩;again (.builtin "set.__new__" ⟨[.type "set",a],[]⟩)) _ _ s
 refine wpAny_bind (wpAny_of_eq (F.newCall_set_1 a) (wpAny_pure ⟨plainId_quiet F.plain_set_new _,codeAny_builtin F.entry_set_new ?_⟩))
 rw[Around.under_plainId F.plain_set_new _]
 unfold Builtin.«set.__new__» Builtin.Frozenset.newClass
 have hsub:=sub_set_self
 obtain⟨hp,g,d,tk,os⟩:=s
 dsimp only
 wp_walk
 refine wpAny_askSetting (wpAny_pure ?_)
 dsimp only
 simp only[newObj]
 refine wpAny_bind (wpAny_alloc (wpAny_pure ?_))
 exact wpAny_pure h
set_option maxHeartbeats 3200000 in
theorem yR{l:Addr}{items:Array Value}{us:List (K×Addr)}{Q:Value->Shared->Prop}(hh:A.handled=none)(hu:∀A':Around,A'.units<=A.units+20->knd.room A')(hl:s.heap.IsList l items)(hi:items.toList=us.map λx=>Value.ref x.2)(hK:∀x∈us,knd.is s.heap x.1 x.2)(ks:List K)(hks:ks.length<=700)(hin:∀x∈us,x.1∈ks)
 (h:∀(h':Heap) (tk:Nat),bV knd h' s.heap.objs.size us->(∀b o,b<s.heap.objs.size->s.heap.get? b=some o->h'.get? b=some o)->Q (.ref s.heap.objs.size) { s with heap:=h',toks:=tk }) :
 wpAny (model prog w) A (call (.type "set") [.ref l]) Q E s:=by
 have hn:us.length=items.size:=by rw[<-Array.length_toList,hi,lM]
 obtain⟨c,tl,hmro⟩:=PySem.F.called_set.mro
 have hmade:=PySem.F.called_set.made
 have hsub:=PySem.F.called_set.sub
 refine wpAny_call (codeAny_of_tree ?_)
 show wpAny _ _ (callAny (.type "set") _) _ _ _
 refine wpAny_pure ⟨Code.quiet_builtin _ (by decide +kernel),codeAny_builtin F.entry_type_call ?_⟩
 rw[Around.under_plain (weight_type_call_type "set" [.ref l] []) rfl]
 have h1:=PySem.F.called_set.notType
 have h2:=PySem.F.called_set.canCreate
 have hct:=PySem.F.typeCall_set_1 (.ref l)
 repeat (any_goals (first|assumption|wp_step))
 refine codeAny_mono (aAY (.ref l) (E:=E) (Q₁:=λobj s₁=>obj=.ref s.heap.objs.size/\s₁={ s with heap:=s.heap.push { cls:=.type "set",dict:=none,data:=.set #[] 0 (.fresh 0 0 (!byTt w)) } }) ⟨rfl,rfl⟩) λr s₁ hr=>?_
 cases r with
 | error e=>exact hr
 | ok fl=>
  cases fl with
  | ret obj=>
   obtain⟨rfl,rfl⟩:=hr
   generalize hled:(!byTt w)=led at *
   have hS:(s.heap.push { cls:=.type "set",dict:=none,data:=.set #[] 0 (.fresh 0 0 led) }).get? s.heap.objs.size=some { cls:=.type "set",dict:=none,data:=.set #[] 0 (.fresh 0 0 led) }:=Heap.get?_push_size _ rfl
   have hT:Shared.TypeIs { s with heap:=s.heap.push { cls:=.type "set",dict:=none,data:=.set #[] 0 (.fresh 0 0 led) } } (.ref s.heap.objs.size) "set" := ⟨_,hS,rfl⟩
   have hli:=PySem.F.called_set.init.lookup
   have hbi:=PySem.F.called_set.init.bind (.ref s.heap.objs.size)
   repeat (any_goals (first|assumption|wp_step))
   refine codeAny_mono (codeAny_call_builtin (R:=wants (λr s₂=>r=.none/\∃h' tk,s₂={ s with heap:=h',toks:=tk }/\bV knd h' s.heap.objs.size us /\
    (∀b o,b<s.heap.objs.size->s.heap.get? b=some o->h'.get? b=some o)) E) PySem.F.called_set.init.plain F.entry_set_init (check_set_init_1 hT ?_)) λr₂ s₂ hr₂=>?_
   . obtain⟨ol,hol,hcl,nl,hdl⟩:=hl
     obtain⟨ocls,odict,odata,oslots⟩:=ol
     simp only at hcl hdl
     subst hcl;subst hdl
     have hol':(s.heap.push { cls:=.type "set",dict:=none,data:=.set #[] 0 (.fresh 0 0 led) }).get? l=some { cls:=.type "list",dict:=odict,data:=.seq items nl,slots:=oslots }:=Heap.get?_push_of_some _ hol
     have hsls:=PySem.F.sub_list_set
     have hslf:=PySem.F.sub_list_frozenset
     have hne:(Value.type "list" == Value.type "dict")=false:=by decide
     have hl1:(s.heap.push { cls:=.type "set",dict:=none,data:=.set #[] 0 (.fresh 0 0 led) }).IsList l items:=⟨_,hol',rfl,nl,rfl⟩
     unfold Builtin.«set.__init__» noKeywords Builtin.Frozenset.updateFrom
     generalize hPI:pyIter=PI
     wp_walk
     subst hPI
     refine wpAny_pyIter_list hl1 ?_
     refine wpAny_bind (wpAny_runValue ?_)
     have hlS:l<s.heap.objs.size:=Heap.lt_size hol
     have hh3:A.in1.in1.in1.handled=none:=by simp[hh]
     have hsz:(s.heap.push { cls:=.type "set",dict:=none,data:=.set #[] 0 (.fresh 0 0 led) }).objs.size=s.heap.objs.size+1:=Heap.size_push _ _
     refine yQ ((Walks.list hh3 _ l (by rw[hsz];exact Nat.ne_of_lt (Nat.lt_succ_of_lt hlS)) items).toS) (hu _ (by show A.units+1+1+1<=A.units+20;omega)) s.heap.objs.size
      (by
       rw[hsz]
       intro z
       rcases List.mem_cons.mp z with q|q
       . exact absurd q (Nat.ne_of_lt (Nat.lt_succ_self _))
       . exact absurd (List.mem_singleton.mp q) (Nat.ne_of_gt hlS)) us
      (λi v hv=>by
       have hv':items.toList[i]? = some v:=by rw[Array.getElem?_toList];exact hv
       rw[hi,List.getElem?_map] at hv'
       cases q:us[i]? with
       | none=>rw[q] at hv';cases hv'
       | some x=>rw[q] at hv';cases hv';exact⟨x,rfl,rfl⟩) hn
      s.heap hK (λb o e z=>by
       have:=Heap.lt_size e
       rw[hsz] at z
       rcases List.mem_cons.mp z with q|q
       . exact absurd q (Nat.ne_of_lt this)
       . exact absurd (List.mem_singleton.mp q) (Nat.ne_of_lt (Nat.lt_succ_of_lt this))) ks hks hin (items.size-0) 0 _ (by omega) (Nat.zero_le _)
      ⟨⟨_,Heap.get?_push_size _ rfl,rfl,rfl⟩,(hl1.push _)⟩ ?hS0 ?hK0 ?hR
     case hS0=>
      refine⟨[],7,[],0,0,⟨⟨0,by decide,rfl⟩,List.Pairwise.nil,rfl,List.nodup_nil,(show 0*5<7*3 by decide),λi x j hx=>by simp at hx⟩,?_,λx hx=>by simp at hx,λy hy=>by simp at hy⟩
      unfold setT
      rw[hled]
      exact Heap.get?_push_of_some _ hS
     case hK0=>
      exact λb o e=>Heap.get?_push_of_some _ (Heap.get?_push_of_some _ e)
     case hR=>
      intro s' hm hS'
      obtain⟨h',g',d',tk',os'⟩:=s'
      have eg:g'=s.gens:=hm.gens
      have ed:d'=s.drawn:=hm.drawn
      have eo:os'=s.os:=hm.os
      subst eg;subst ed;subst eo
      show wpAny _ _ _ _ _ _
      refine wpAny_pure ?_
      show wpAny _ _ (ret Value.none) _ _ _
      refine wpAny_pure ⟨rfl,h',tk',rfl,hS',λb o hb e=>?_⟩
      refine hm.heap b o ?_ (Heap.get?_push_of_some _ (Heap.get?_push_of_some _ e))
      rw[hsz]
      intro z
      rcases List.mem_cons.mp z with q|q
      . exact absurd q (Nat.ne_of_lt hb)
      . exact absurd (List.mem_singleton.mp q) (Nat.ne_of_lt (Nat.lt_succ_of_lt hb))
   . cases r₂ with
     | error e=>exact hr₂
     | ok fl₂=>
      cases fl₂ with
      | ret r=>
       obtain⟨rfl,h',tk,rfl,hS',hk'⟩:=hr₂
       repeat (any_goals (first|assumption|wp_step))
       exact h _ _ hS' hk'
      | _=>exact hr₂.elim
  | _=>exact hr.elim
end
end L2
end
noncomputable section
namespace L2
open PySem PySem.Spec PyProof.Rows
set_option maxRecDepth 100000
theorem bH:Slot "set_iterator" "__next__" "set_iterator.__next__" :=
 .of (owner:= "set_iterator") (n:= "__next__") (by rw[typeLookup_type,builtinLookup_eq_fast];kernel_rfl) (by decide +kernel) (by decide +kernel) (by decide +kernel)
  (by first|exact .inl (by decide +kernel)|exact .inr (by decide +kernel)) (by rw[isSubtype_type];kernel_rfl)
theorem eV:entryFor table "set_iterator.__next__" = some Builtin.«set_iterator.__next__»:=entryFor_of_tree (by kernel_rfl)
theorem fG(a:Value):argsOk "set_iterator.__next__" ⟨[a],[]⟩:=by unfold argsOk;kernel_rfl
theorem lU:entryFor table "set.__iter__" = some Builtin.«frozenset.__iter__»:=
 entryFor_alias (id':= "frozenset.__iter__") (by kernel_rfl) rfl (by decide +kernel) (by kernel_rfl)
theorem fH:Slot "set_iterator" "__iter__" "set_iterator.__iter__" :=
 .of (owner:= "set_iterator") (n:= "__iter__") (by rw[typeLookup_type,builtinLookup_eq_fast];kernel_rfl) (by decide +kernel) (by decide +kernel) (by decide +kernel)
  (by first|exact .inl (by decide +kernel)|exact .inr (by decide +kernel)) (by rw[isSubtype_type];kernel_rfl)
theorem jX:entryFor table "set_iterator.__iter__" = some Builtin.«dict_keyiterator.__iter__»:=
 entryFor_alias (id':= "dict_keyiterator.__iter__") (by kernel_rfl) rfl (by decide +kernel) (by kernel_rfl)
theorem lV(a:Value):argsOk "set_iterator.__iter__" ⟨[a],[]⟩:=by unfold argsOk;kernel_rfl
theorem lW{α:Type}:∀(l:List α) (j:Nat) (h:j<l.length),(l[j]::l.eraseIdx j).Perm l
 | [],_,h=>absurd h (Nat.not_lt_zero _)
 | a::l,0,_=>List.Perm.refl _
 | a::l,j+1,h=>(List.Perm.swap a (l[j]'(by simpa using h)) _).trans ((lW l j (by simpa using h)).cons a)
theorem nX{α:Type}(next:Nat->Nat):∀(fuel k:Nat) (left:List α) (out:Array α),left.length=fuel->(pickOrder.go next fuel k left out).toList.Perm (out.toList++left)
 | 0,_,left,out,h=>by
  have:left=[]:=List.eq_nil_of_length_eq_zero h
  subst this
  rw[pickOrder.go,List.append_nil]
 | fuel+1,k,left,out,h=>by
  have hlt:next k % left.length<left.length:=Nat.mod_lt _ (by omega)
  rw[pickOrder.go,List.getElem?_eq_getElem hlt]
  dsimp only
  refine(nX next fuel (k+1) _ _ (by rw[List.length_eraseIdx_of_lt hlt];omega)).trans ?_
  rw[Array.toList_push,List.append_assoc]
  exact List.Perm.append_left _ (lW _ _ hlt)
noncomputable def gF(w:World)(S:Addr)(ep:Nat)(es:Array (Int×Value)):Array (Int×Value):=if byTt w then pickOrder (w.params.setOrder S ep) es else es
theorem iI(w:World)(S:Addr)(ep:Nat)(es:Array (Int×Value)):(gF w S ep es).toList.Perm es.toList:=by
 unfold gF
 split
 . unfold pickOrder
   refine(nX _ _ _ _ _ (by rw[Array.length_toList])).trans ?_
   simp
 . exact List.Perm.refl _
theorem iJ(w:World)(S:Addr)(ep:Nat)(es:Array (Int×Value)):(gF w S ep es).size=es.size:=by
 rw[<-Array.length_toList,(iI w S ep es).length_eq,Array.length_toList]
noncomputable def uT(ps:List Nat):Nat->Nat
 | 0=>0
 | i+1=>ps.getD i 0+1
noncomputable def slotV(w:World)(ps:List Nat)(i:Nat):Nat:=if byTt w then 0 else uT ps i
theorem yS{ps:List Nat}(hr:iE ps):∀i,i<=ps.length->SetTable.below ps.toArray (uT ps i)=i
 | 0,_=>by
  obtain⟨h1,h2,h3⟩:=bel hr 0
  rcases Nat.eq_zero_or_pos (SetTable.below ps.toArray 0) with z|z
  . exact z
  . exact absurd (h2 0 _ z (List.getElem?_eq_getElem (by omega))) (Nat.not_lt_zero _)
 | i+1,hi=>by
  show SetTable.below ps.toArray (ps.getD i 0+1)=i+1
  obtain⟨h1,h2,h3⟩:=bel hr (ps.getD i 0+1)
  have hp:ps[i]? = some (ps.getD i 0):=by rw[List.getD_eq_getElem?_getD,List.getElem?_eq_getElem (by omega)];rfl
  rcases Nat.lt_trichotomy (SetTable.below ps.toArray (ps.getD i 0+1)) (i+1) with z|z|z
  . have:=h3 i _ (by omega) hp
    omega
  . exact z
  . have q:=List.getElem?_eq_getElem (l:=ps) (i:=i+1) (by omega)
    have:=h2 (i+1) _ z q
    have:=hr.lt (Nat.lt_succ_self i) hp q
    omega
section
variable {prog:Program} {w:World} {K:Type} [DecidableEq K] {knd:SK prog w K} {A:Around} {E:Value->Shared->Prop} {s:Shared}
noncomputable def jG(w:World)(S:Addr)(ep:Nat)(ps:List Nat)(i:Nat):Obj:={ cls:=.type "set_iterator",dict:=none,data:=.fields #[rawInt (slotV w ps i),rawInt i,.ref S,rawInt ps.length,rawInt ep],slots:=#[] }
variable {S I:Addr} {ep i m mv:Nat} {ps:List Nat} {xs:List (K×Addr)}
theorem aDT{Q:Option (Value×Nat)->Shared->Prop}(T:Tb knd xs m ps)(ho:s.heap.get? S=some (setT knd xs ep m ps mv))(hi:i<=ps.length)
 (h:Q (((gF w S ep (sen knd xs))[i]?).map λe=>(e.2,slotV w ps (i+1))) s):wpAny (model prog w) A (setNext S (slotV w ps i) i ep) Q E s:=by
 have hf:(tm m ps mv (!byTt w)).fits (sen knd xs).size=true:=T.fits
 unfold setNext
 refine wpAny_bind (wpAny_setState_of ho rfl hf ?_)
 dsimp only
 unfold setsByText
 refine wpAny_bind (wpAny_bind (wpAny_askSetting (wpAny_pure ?_)))
 show wpAny _ _ (if byTt w=true then _ else _) _ _ s
 unfold gF slotV at h
 unfold slotV
 cases hb:byTt w with
 | true=>
  rw[hb,if_pos rfl,if_pos rfl] at h
  rw[if_pos rfl,if_pos rfl]
  rw[if_neg (by simp)]
  unfold setWalk
  refine wpAny_bind (wpAny_bind (wpAny_setState_of ho rfl hf ?_))
  dsimp only
  unfold setsByText
  refine wpAny_bind (wpAny_bind (wpAny_askSetting (wpAny_pure ?_)))
  show wpAny _ _ (if byTt w=true then _ else _) _ _ s
  rw[hb,if_pos rfl]
  refine wpAny_bind (wpAny_askSetting (wpAny_pure ?_))
  exact wpAny_pure h
 | false=>
  rw[hb,if_neg bN,if_neg bN] at h
  rw[if_neg bN,if_neg bN]
  show wpAny _ _ (if (!true&&decide ((sen knd xs).size>1))=true then _ else _) _ _ s
  rw[if_neg (by simp)]
  refine wpAny_bind ?_
  show wpAny _ _ (if (!(!false)&&!(sen knd xs).isEmpty)=true then _ else _) _ _ s
  rw[if_neg (by simp)]
  refine wpAny_pure ?_
  have hb4:=yS T.rise i hi
  show wpAny _ _ (pure (match (sen knd xs)[SetTable.below ps.toArray (uT ps i)]?,ps.toArray[SetTable.below ps.toArray (uT ps i)]? with
   | some (_,x),some j=>some (x,j+1)
   | _,_=>none)) _ _ s
  rw[hb4]
  refine wpAny_pure ?_
  have e:(match (sen knd xs)[i]?,ps.toArray[i]? with|some (_,x),some j=>some (x,j+1)|_,_=>none)=((sen knd xs)[i]?).map λe=>(e.2,uT ps (i+1)):=by
   by_cases hlt:i<ps.length
   . have hx:i<xs.length:=by have:=T.len;omega
     rw[lT,List.getElem?_eq_getElem hx,List.getElem?_toArray,List.getElem?_eq_getElem hlt]
     simp[uT,hlt]
   . have hx:xs.length<=i:=by have:=T.len;omega
     rw[lT,List.getElem?_eq_none hx];rfl
  rw[e]
  exact h
theorem aHv{e:Int×Value}{Q:Option Value->Shared->Prop}(T:Tb knd xs m ps)(ho:s.heap.get? S=some (setT knd xs ep m ps mv))(hI:s.heap.get? I=some (jG w S ep ps i))(hne:S≠I)(he:(gF w S ep (sen knd xs))[i]? = some e)
 (hQ:∀h',h'.get? I=some (jG w S ep ps (i+1))->Heap.SameBut I s.heap h'->Q (some e.2) { s with heap:=h' }):wpAny (model prog w) A (pyNext (.ref I)) Q E s:=by
 have hf:(tm m ps mv (!byTt w)).fits (sen knd xs).size=true:=T.fits
 have hT:s.TypeIs (.ref I) "set_iterator" := ⟨_,hI,rfl⟩
 have hlt:i<ps.length:=by
  have:=(Array.getElem?_eq_some_iff.mp he).1
  rw[iJ,aU] at this
  have:=T.len
  omega
 unfold pyNext
 refine wpAny_bind (wpAny_attempt (wpAny_callSpecial?_slot (name:=Str.ofString "__next__") hT bH (wpAny_call_entry bH hT eV ?_ (fG _))))
 unfold Builtin.«set_iterator.__next__» slotArgs
 simp only[List.isEmpty_nil,Bool.not_true,bF,↓reduceIte,bind_assoc,lN,bne_self_eq_false]
 refine wpAny_bind (wpAny_pure ?_)
 try dsimp only
 refine wpAny_bind (wpAny_fieldsOf hI rfl ?_)
 show wpAny _ _ (setEntries S >>= _) _ _ s
 refine wpAny_bind (wpAny_setEntries_of ho rfl hf ?_)
 rw[if_neg (by rw[aU,T.len];simp)]
 show wpAny _ _ (setNext S ((slotV w ps i:Int).toNat) ((i:Int).toNat) ((ep:Int).toNat) >>= _) _ _ s
 rw[Int.toNat_natCast,Int.toNat_natCast,Int.toNat_natCast]
 refine wpAny_bind (aDT T ho (by omega) ?_)
 rw[he]
 dsimp only[Option.map_some]
 refine wpAny_bind (wpAny_setField_rec hI (by simp) λh1 g1 b1=>?_)
 refine wpAny_bind (wpAny_setField_rec (s:={ s with heap:=h1 }) g1 (by simp) λh2 g2 b2=>?_)
 refine wpAny_pure ⟨e.2,rfl,wpAny_pure (hQ h2 ?_ (b1.trans b2))⟩
 rw[g2]
 simp[jG,rawInt]
theorem aJG{Q:Option Value->Shared->Prop}(hh:A.handled=none)(T:Tb knd xs m ps)(ho:s.heap.get? S=some (setT knd xs ep m ps mv))(hI:s.heap.get? I=some (jG w S ep ps ps.length))
 (hQ:∀h',Heap.ExtBut I s.heap h'->Q none { s with heap:=h' }):wpAny (model prog w) A (pyNext (.ref I)) Q E s:=by
 have hf:(tm m ps mv (!byTt w)).fits (sen knd xs).size=true:=T.fits
 have hT:s.TypeIs (.ref I) "set_iterator" := ⟨_,hI,rfl⟩
 have he:(gF w S ep (sen knd xs))[ps.length]? = none:=by
  rw[Array.getElem?_eq_none_iff,iJ,aU,T.len]
  exact Nat.le_refl _
 unfold pyNext
 refine wpAny_bind (wpAny_attempt (wpAny_callSpecial?_slot (name:=Str.ofString "__next__") hT bH (wpAny_call_entry bH hT eV ?_ (fG _))))
 unfold Builtin.«set_iterator.__next__» slotArgs
 simp only[List.isEmpty_nil,Bool.not_true,bF,↓reduceIte,bind_assoc,lN,bne_self_eq_false]
 refine wpAny_bind (wpAny_pure ?_)
 try dsimp only
 refine wpAny_bind (wpAny_fieldsOf hI rfl ?_)
 show wpAny _ _ (setEntries S >>= _) _ _ s
 refine wpAny_bind (wpAny_setEntries_of ho rfl hf ?_)
 rw[if_neg (by rw[aU,T.len];simp)]
 show wpAny _ _ (setNext S ((slotV w ps ps.length:Int).toNat) ((ps.length:Int).toNat) ((ep:Int).toNat) >>= _) _ _ s
 rw[Int.toNat_natCast,Int.toNat_natCast,Int.toNat_natCast]
 refine wpAny_bind (aDT T ho (Nat.le_refl _) ?_)
 rw[he]
 dsimp only[Option.map_none]
 refine wpAny_bind (wpAny_setField_rec hI (by simp) λh1 g1 b1=>?_)
 show wpAny _ _ (newExc (.type "StopIteration") [] >>= _) _ _ _
 refine wpAny_bind ?_
 simp only[newExc,newTuple]
 refine wpAny_bind (wpAny_newObj_type ?_ (by size_fits))
 refine wpAny_bind (m:=firstArgMember _ _) (wpAny_of_eq (a:=Value.none) (by first|rfl|(simp only[firstArgMember];rfl)) ?_)
 refine wpAny_newObj_type ?_ (by size_fits)
 simp only[raiseNew]
 refine wpAny_bind (wpAny_handled ?_)
 first|rw[show A.in1.handled=none from hh]|rw[hh]
 refine wpAny_bind (wpAny_pure (wpAny_throw ?_))
 refine wpAny_bind (wpAny_isInstance (T:= "StopIteration") (b:=true) ⟨_,Heap.get?_push_size _ rfl,rfl⟩ isSubtype_stop ?_)
 exact wpAny_pure (hQ _ ((b1.extBut.push _).push _))
theorem aFr(hh:A.handled=none)(T:Tb knd xs m ps)(hne:S≠I):Walks prog w A I [I,S] [I] ps.length (λi v=>∃e,(gF w S ep (sen knd xs))[i]? = some e/\v=e.2) (λi h=>h.get? I=some (jG w S ep ps i)/\h.get? S=some (setT knd xs ep m ps mv)) where
 sub:=λb hb=>by
  rw[List.mem_singleton.mp hb]
  exact List.mem_cons_self
 frame:=λi h h' st k=>⟨k I List.mem_cons_self _ st.1,k S (List.mem_cons_of_mem _ (List.mem_singleton.mpr rfl)) _ st.2⟩
 item:=λi s Q E hi st hQ=>by
  have hlt:i<(gF w S ep (sen knd xs)).size:=by rw[iJ,aU,<-T.len];exact hi
  refine aHv T st.2 st.1 hne (Array.getElem?_eq_getElem hlt) λh' g b=>hQ _ h' s.toks ⟨_,Array.getElem?_eq_getElem hlt,rfl⟩ ⟨g,?_⟩ λc o hc e=>?_
  . rw[b.2 S hne];exact st.2
  . rw[b.2 c λz=>hc (by rw[z];exact List.mem_singleton.mpr rfl)];exact e
 done:=λs Q E st hQ=>aJG hh T st.2 st.1 λh' b=>hQ h' s.toks λc o hc e=>b c o (λz=>hc (by rw[z];exact List.mem_singleton.mpr rfl)) e
 self:=λi s Q E st hQ=>by
  have hT:s.TypeIs (.ref I) "set_iterator" := ⟨_,st.1,rfl⟩
  refine wpAny_pyIter_slot hT fH (wpAny_call_entry fH hT jX ?_ (lV _))
  show wpAny _ _ (ret (.ref I)) _ _ s
  exact wpAny_pure ⟨_,rfl, "set_iterator",_,hT,bH.lookup,hQ⟩
theorem aHw{Q:Value->Shared->Prop}(T:Tb knd xs m ps)(ho:s.heap.get? S=some (setT knd xs ep m ps mv))(h:Q (.ref s.heap.objs.size) { s with heap:=s.heap.push (jG w S ep ps 0) }):wpAny (model prog w) A (pyIter (.ref S)) Q E s:=by
 have hf:(tm m ps mv (!byTt w)).fits (sen knd xs).size=true:=T.fits
 have hT:s.TypeIs (.ref S) "set" := ⟨_,ho,rfl⟩
 refine wpAny_pyIter_slot hT PySem.F.slot_set_iter (wpAny_call_entry PySem.F.slot_set_iter hT lU ?_ (PySem.F.args_set_iter_1 _))
 unfold Builtin.«frozenset.__iter__» Builtin.Frozenset.slot0 slotArgs
 simp only[List.isEmpty_nil,Bool.not_true,bF,↓reduceIte,bind_assoc,lN,bne_self_eq_false]
 unfold Builtin.Frozenset.addrOf Builtin.Frozenset.sizeOf
 refine wpAny_bind (wpAny_pure ?_)
 try dsimp only
 refine wpAny_bind (wpAny_pure ?_)
 refine wpAny_bind (wpAny_bind (wpAny_setEntries_of ho rfl hf (wpAny_pure ?_)))
 unfold setDrawn setsByText
 refine wpAny_bind (wpAny_bind (wpAny_setState_of ho rfl hf ?_))
 dsimp only
 refine wpAny_bind (wpAny_bind (wpAny_askSetting (wpAny_pure ?_)))
 refine wpAny_pure ?_
 show wpAny _ _ (if (!byTt w&&(!true&&decide ((sen knd xs).size>1)))=true then _ else _) _ _ s
 rw[if_neg (by simp)]
 refine wpAny_bind (wpAny_pure ?_)
 refine wpAny_bind (wpAny_setEpoch_of ho rfl hf ?_)
 refine wpAny_bind (wpAny_newObj_type ?_)
 have e:(#[rawInt 0,rawInt 0,Value.ref S,rawInt ((sen knd xs).size:Int),rawInt (ep:Int)]:Array Value)=#[rawInt (slotV w ps 0),rawInt ((0:Nat):Int),.ref S,rawInt ps.length,rawInt ep]:=by
  rw[aU,T.len]
  have:slotV w ps 0=0:=by unfold slotV uT;split <;> rfl
  rw[this];rfl
 refine wpAny_pure ⟨_,rfl, "set_iterator",_,⟨_,Heap.get?_push_size _ rfl,rfl⟩,bH.lookup,?_⟩
 show Q (.ref s.heap.objs.size) { s with heap:=s.heap.push { cls:=.type "set_iterator",data:=.fields #[rawInt 0,rawInt 0,Value.ref S,rawInt ((sen knd xs).size:Int),rawInt (ep:Int)] } }
 rw[e]
 exact h
theorem nY{P:Nat->Value->Prop}{acc:Array Value}{m:Nat}{od:List (Int×Value)}(hP:∀i v,P i v->∃e,od[i]? = some e/\v=e.2)(h:ItemsOf P acc m)(hm:od.length=m):acc.toList=od.map (·.2):=by
 refine List.ext_getElem? λj=>?_
 rw[Array.getElem?_toList,List.getElem?_map]
 by_cases hj:j<acc.size
 . obtain⟨e,he,hv⟩:=hP j acc[j] (h.2 j _ (Array.getElem?_eq_getElem hj))
   rw[Array.getElem?_eq_getElem hj,he,hv];rfl
 . have h1:=h.1
   rw[Array.getElem?_eq_none (by omega),List.getElem?_eq_none (by omega)];rfl
theorem aAZ{Q:List Value->Shared->Prop}(hh:A.handled=none)(T:Tb knd xs m ps)(ho:s.heap.get? S=some (setT knd xs ep m ps mv))
 (hQ:∀s' acc,(∀b o,s.heap.get? b=some o->s'.heap.get? b=some o)->(s.heap.objs.size<s'.heap.objs.size/\∃tk h',s'={ s with heap:=h',toks:=tk })->acc=(gF w S ep (sen knd xs)).toList.map (·.2)->Q acc s'):wpAny (model prog w) A (collect (.ref S)) Q E s:=by
 have hT:s.TypeIs (.ref S) "set" := ⟨_,ho,rfl⟩
 have hSL:S<s.heap.objs.size:=Heap.lt_size ho
 unfold collect
 refine wpAny_bind (wpAny_runValue (codeAny_builtin F.entry_proto_collect ?_))
 rw[Around.under_plainId F.plain_proto_collect _]
 show wpAny _ A.in1 (newList [] >>= λl=>again (.builtin "list.__iadd__" ⟨[l,.ref S],[]⟩)) _ _ s
 refine wpAny_bind (wpAny_newObj_type ?_)
 refine wpAny_pure ⟨plainId_quiet F.plain_list_iadd _,codeAny_builtin F.entry_list_iadd ?_⟩
 rw[Around.under_plainId F.plain_list_iadd _]
 have ho1:(s.heap.push { cls:=.type "list",data:=.seq ([]:List Value).toArray }).get? S=some (setT knd xs ep m ps mv):=Heap.get?_push_of_some _ ho
 have hT1:Shared.TypeIs { s with heap:=s.heap.push { cls:=.type "list",data:=.seq ([]:List Value).toArray } } (.ref S) "set" := ⟨_,ho1,rfl⟩
 have hL1:(s.heap.push { cls:=.type "list",data:=.seq ([]:List Value).toArray }).get? s.heap.objs.size=some { cls:=.type "list",data:=.seq ([]:List Value).toArray }:=Heap.get?_push_size _ rfl
 have h1:Builtin.List.listSameRef (.ref s.heap.objs.size) (.ref S)=false:=by
  simp only[Builtin.List.listSameRef,beq_eq_false_iff_ne]
  exact Nat.ne_of_gt hSL
 show wpAny _ A.in1 (Builtin.List.listExtendWith (.ref s.heap.objs.size) (.ref S) (.ref s.heap.objs.size)) _ _ _
 unfold Builtin.List.listExtendWith
 refine wpAny_bind (wpAny_typeOf hT1 ?_)
 rw[if_neg (by rw[h1];decide)]
 refine wpAny_bind (aHw T ho1 ?_)
 refine wpAny_bind (wpAny_holding ?_)
 have ho2:((s.heap.push { cls:=.type "list",data:=.seq ([]:List Value).toArray }).push (jG w S ep ps 0)).get? S=some (setT knd xs ep m ps mv):=Heap.get?_push_of_some _ ho1
 have hT2:Shared.TypeIs { s with heap:=(s.heap.push { cls:=.type "list",data:=.seq ([]:List Value).toArray }).push (jG w S ep ps 0) } (.ref S) "set" := ⟨_,ho2,rfl⟩
 unfold Builtin.List.listLengthHint
 refine wpAny_bind (wpAny_specialOf hT2 PySem.F.slot_set_len.lookup ?_)
 generalize hid:("set.__len__" : String)=id0
 wp_delta
 rw[show splitId id0=some ("set", "__len__") from by subst hid;decide +kernel]
 subst hid
 refine wpAny_bind (wpAny_isInstance (b:=true) hT2 (by rw[isSubtype_type];kernel_rfl) ?_)
 rw[if_neg (by decide)]
 dsimp only
 rw[if_pos (by decide +kernel)]
 refine wpAny_bind (wpAny_typeOf hT2 ?_)
 refine wpAny_pure ?_
 rw[if_pos (by decide +kernel)]
 refine wpAny_bind (wpAny_rule ?_)
 unfold Builtin.List.listTouch
 have hL2:((s.heap.push { cls:=.type "list",data:=.seq ([]:List Value).toArray }).push (jG w S ep ps 0)).get? s.heap.objs.size=some { cls:=.type "list",data:=.seq ([]:List Value).toArray }:=Heap.get?_push_of_some _ hL1
 refine wpAny_bind (wpAny_bind (listUpdate_at (f:=λx=>x.push Value.none) hL2 rfl ?_))
 have hL3:=get?_update_seq (c:= "list") (xs:=#[]) (n:=0) hL2 (λx=>x.push Value.none)
 refine listUpdate_at (f:=λx=>x.pop) hL3 rfl ?_
 have hL4:=get?_update_seq hL3 (λx=>x.pop)
 have hIsz:(s.heap.push { cls:=.type "list",data:=.seq ([]:List Value).toArray }).objs.size=s.heap.objs.size+1:=size_push' _ _
 have hI2:((s.heap.push { cls:=.type "list",data:=.seq ([]:List Value).toArray }).push (jG w S ep ps 0)).get? (s.heap.push { cls:=.type "list",data:=.seq ([]:List Value).toArray }).objs.size=some (jG w S ep ps 0):=Heap.get?_push_size _ rfl
 rw[hIsz] at hI2 ⊢
 have keep:∀b o,b≠s.heap.objs.size->((s.heap.push { cls:=.type "list",data:=.seq ([]:List Value).toArray }).push (jG w S ep ps 0)).get? b=some o->((((s.heap.push { cls:=.type "list",data:=.seq ([]:List Value).toArray }).push (jG w S ep ps 0)).update s.heap.objs.size (Obj.mapSeq λx=>x.push Value.none)).update s.heap.objs.size (Obj.mapSeq λx=>x.pop)).get? b=some o:=λb o hb e=>by
  rw[Heap.get?_update_ne _ _ _ _ hb,Heap.get?_update_ne _ _ _ _ hb];exact e
 have hSI:S≠s.heap.objs.size+1:=λz=>Nat.not_lt.mpr (Nat.le_succ _) (z▸hSL)
 have hSf:s.heap.objs.size∉[s.heap.objs.size+1,S]:=λhm=>by
  rcases List.mem_cons.mp hm with z|z
  . exact absurd z (by omega)
  . rw[<-List.mem_singleton.mp z] at hSL;exact Nat.lt_irrefl _ hSL
 have hlen:ps.length<=5000:=by have:=T.lt;have:=T.m2.le;omega
 refine wpAny_pure ⟨plainId_quiet F.plain_extend_loop _,codeAny_extend_loopS (aFr (A:=A.in1) (ep:=ep) (I:=s.heap.objs.size+1) hh T hSI).toS (Nat.le_trans hlen (by decide)) _ hSf _ ps.length 0 _ #[] 2 (Nat.sub_zero _) (Nat.zero_le _) ⟨keep _ _ (by omega) hI2,keep _ _ (Nat.ne_of_lt hSL) ho2⟩ hL4 (ItemsOf.nil _) λs' acc' c' hm hS' hacc=>?_⟩
 show wpAny _ A (load s.heap.objs.size >>= _) _ _ s'
 refine wpAny_bind (wpAny_load hS' ?_)
 refine wpAny_pure (hQ s' acc'.toList (λb o e=>?_) ?_ ?_)
 . have hb:b<s.heap.objs.size:=Heap.lt_size e
   refine hm.heap b o (λz=>?_) (keep b o (Nat.ne_of_lt hb) (Heap.get?_push_of_some _ (Heap.get?_push_of_some _ e)))
   rcases List.mem_cons.mp z with z|z
   . exact Nat.ne_of_lt hb z
   . exact Nat.not_lt.mpr (Nat.le_succ _) (List.mem_singleton.mp z▸hb)
 . obtain⟨h',g',d',tk',os'⟩:=s'
   have eg:g'=s.gens:=hm.gens
   have ed:d'=s.drawn:=hm.drawn
   have eo:os'=s.os:=hm.os
   subst eg;subst ed;subst eo
   exact⟨Heap.lt_size hS',tk',h',rfl⟩
 . exact nY (P:=λi v=>∃e,(gF w S ep (sen knd xs))[i]? = some e/\v=e.2) (λi v ⟨e,he,hv⟩=>⟨e,by rw[Array.getElem?_toList];exact he,hv⟩) hacc (by rw[Array.length_toList,iJ,aU,T.len])
end
end L2
end
noncomputable section
namespace L2
open PySem PySem.Spec PyProof.Rows SetTable
set_option maxRecDepth 100000
section
variable {prog:Program} {w:World} {K:Type} [DecidableEq K] {knd:SK prog w K} {A:Around} {E:Value->Shared->Prop} {s:Shared} {S O:Addr} {xs ys:List (K×Addr)} {m mv ep m' mv' ep':Nat} {ps ps':List Nat}
theorem dL{α β:Type}{f:α->β}{l ys:List β}(h:l.Perm ys):∀{xs:List α},ys=xs.map f->∃us:List α,us.Perm xs/\l=us.map f:=by
 induction h with
 | nil=>
  intro xs e
  cases xs with
  | nil=>exact⟨[],List.Perm.refl _,rfl⟩
  | cons _ _=>cases e
 | cons x _ ih=>
  intro xs e
  cases xs with
  | nil=>cases e
  | cons y ys=>
   obtain⟨e1,e2⟩:=List.cons.inj e
   obtain⟨us,p,q⟩:=ih e2
   exact⟨y::us,p.cons y,by rw[mC,<-q,e1]⟩
 | swap x y l=>
  intro xs e
  match xs,e with
  | a::b::r,e=>
   obtain⟨e1,e2⟩:=List.cons.inj e
   obtain⟨e3,e4⟩:=List.cons.inj e2
   exact⟨b::a::r,List.Perm.swap _ _ _,by rw[mC,mC,e1,e3,e4]⟩
  | [_],e=>cases(List.cons.inj e).2
  | [],e=>cases e
 | trans _ _ ih1 ih2=>
  intro xs e
  obtain⟨us,p,q⟩:=ih2 e
  obtain⟨vs,p',q'⟩:=ih1 q
  exact⟨vs,p'.trans p,q'⟩
theorem aDU{others:List Addr}{f:Option Addr}{Q:Array (Int×Value)->Shared->Prop}(T:Tb knd xs m ps)(ho:s.heap.get? S=some (setT knd xs ep m ps mv))(h:Q (gF w S ep (sen knd xs)) s):wpAny (model prog w) A (setWalkUnseen S others f) Q E s:=by
 unfold setWalkUnseen
 refine wpAny_bind (wpAny_setState_of ho rfl T.fits ?_)
 dsimp only
 unfold setsByText
 refine wpAny_bind (wpAny_bind (wpAny_askSetting (wpAny_pure ?_)))
 have hw:(byTt w||(tm m ps mv (!byTt w)).led&&(tm m ps mv (!byTt w)).plain||decide ((sen knd xs).size<=1))=true:=by
  unfold tm
  cases byTt w <;> simp
 show wpAny _ _ (if (byTt w||(tm m ps mv (!byTt w)).led&&(tm m ps mv (!byTt w)).plain||decide ((sen knd xs).size<=1))=true then _ else _) _ _ s
 rw[if_pos hw]
 unfold setWalk
 refine wpAny_bind (wpAny_setState_of ho rfl T.fits ?_)
 dsimp only
 unfold setsByText
 refine wpAny_bind (wpAny_bind (wpAny_askSetting (wpAny_pure ?_)))
 show wpAny _ _ (if byTt w=true then _ else _) _ _ s
 unfold gF at h
 cases hb:byTt w with
 | true=>
  rw[hb,if_pos rfl] at h
  rw[if_pos rfl]
  exact wpAny_bind (wpAny_askSetting (wpAny_pure h))
 | false=>
  rw[hb,if_neg bN] at h
  rw[if_neg bN]
  show wpAny _ _ (if (!true&&decide ((sen knd xs).size>1))=true then _ else _) _ _ s
  rw[if_neg (by simp)]
  refine wpAny_bind ?_
  show wpAny _ _ (if (!(!false)&&decide ((sen knd xs).size>1))=true then _ else _) _ _ s
  rw[if_neg (by simp)]
  exact wpAny_pure (wpAny_pure h)
theorem aFs(T:Tb knd xs m ps)(ho:s.heap.get? S=some (setT knd xs ep m ps mv)){n:Nat}(hn:xs.length+n<=1400){Q:Unit->Shared->Prop}
 (h:∀h' xs' m1 ps1 mv1 ep1,Heap.SameBut S s.heap h'->Tb knd xs' m1 ps1->h'.get? S=some (setT knd xs' ep1 m1 ps1 mv1)->xs'.Perm xs->(xs.length+n)*5<m1*3->Q () { s with heap:=h' }):wpAny (model prog w) A (setRoomFor S n) Q E s:=by
 unfold setRoomFor
 refine wpAny_bind (wpAny_setState_of ho rfl T.fits ?_)
 dsimp only
 have hr:(tm m ps mv (!byTt w)).roomFor n=if (xs.length+n)*5 ≥ m*3 then some ((xs.length+n)*2) else none:=by
  unfold SetTable.roomFor SetTable.fill tm
  simp[T.len]
 rw[hr]
 by_cases c:(xs.length+n)*5 ≥ m*3
 . rw[if_pos c]
   dsimp only
   obtain⟨z1,z2,z3⟩:=wL ((xs.length+n)*2) (by omega)
   have z4:=z1.le
   exact wM z1 rfl (by rw[show sizeLine=16777216 by decide];omega) ho T.fits (by omega) T.nd λh' xs' ps' mv' ep' b1 b2 b3 b4=>h h' xs' _ ps' mv' ep' b1 b2 b3 b4 (by omega)
 . rw[if_neg c]
   exact wpAny_pure (h s.heap xs m ps mv ep (Heap.SameBut.refl S s.heap) T ho (List.Perm.refl _) (by omega))
theorem aBa(eo:Array (Int×Value))(zs:List (K×Addr))(hz:eo.toList=zs.map λx=>(knd.hash x.1,Value.ref x.2))
 (f:(Int×Value)->PUnit->Sem (ForInStep PUnit)) (I:List (K×Addr)->Shared->Prop) {Q:PUnit->Shared->Prop}
 (hf:∀(z:K×Addr) (rest:List (K×Addr)) s,I (z::rest) s->wpAny (model prog w) A (f (knd.hash z.1,Value.ref z.2) ⟨⟩) (λr s'=>match r with|.done b=>Q b s'|.yield b=>I rest s') E s) (hend:∀s,I [] s->Q ⟨⟩ s) (h:I zs s) :
 wpAny (model prog w) A (forIn eo PUnit.unit f) Q E s:=by
 rw[<-Array.forIn_toList,hz]
 clear hz
 induction zs generalizing s with
 | nil=>rw[mN,List.forIn_nil];exact wpAny_pure (hend _ h)
 | cons z zs ih=>
  rw[mC,List.forIn_cons]
  refine wpAny_bind (wpAny_mono (hf z zs s h) (λr s' q=>?_) λ_ _ e=>e)
  cases r with
  | done b=>exact wpAny_pure q
  | yield b=>exact ih q
theorem aHx{M:Nat}(hM:M2 M)(hl:ys.length*5<M*3)(hnd:(ys.map (·.1)).Nodup):∃ys' ps1,Tb knd ys' M ps1/\ys'.Perm ys/\∀mv led,∃order,laid M 0 mv led true ((sen knd ys).map (·.1))=some (tm M ps1 mv led,order)/\(order.filterMap λi=>(sen knd ys)[i]?)=sen knd ys':=by
 obtain⟨live,e,h1,h2,h3⟩:=wJ hM (ys.map λx=>knd.hash x.1) (by rw[lM];omega) 0 0 true true
 have hrel:(sen knd ys).map (·.1)=(ys.map λx=>knd.hash x.1).toArray:=by
  unfold sen;rw[List.map_toArray,List.map_map];rfl
 rw[lM] at h2
 have hlt:∀x∈live.map (·.2),x<ys.length:=λx hx=>List.mem_range.mp (h2.mem_iff.mp hx)
 obtain⟨q1,q2⟩:=qB (xs:=ys) (live.map (·.2)) hlt
 have hll:(live.map (·.2)).length=ys.length:=by rw[h2.length_eq,List.length_range]
 have pm:((live.map (·.2)).filterMap λi=>ys[i]?).Perm ys:=by
  have:=h2.filterMap λi=>ys[i]?
  rw[List.filterMap_getElem?_range_length] at this
  exact this
 refine⟨(live.map (·.2)).filterMap λi=>ys[i]?,live.map (·.1),⟨hM,h1,by rw[q1,lM,lM],((pm.map _).nodup_iff).mpr hnd,by rw[q1,hll];omega,λi x j hx hj=>?_⟩,pm,λmv led=>⟨(live.map (·.2)).toArray,?_,?_⟩⟩
 . rw[q2,List.getElem?_map] at hx
   rw[List.getElem?_map] at hj
   cases hp:live[i]? with
   | none=>rw[hp] at hj;cases hj
   | some p=>
    rw[hp] at hx hj
    cases hj
    refine h3 p (mG hp) _ ?_
    rw[List.getElem?_map,show ys[p.2]? = some x from hx];rfl
 . rw[hrel]
   unfold laid at e ⊢
   cases q:layClean M (ys.map λx=>knd.hash x.1).toArray with
   | none=>rw[q] at e;cases e
   | some ow=>
    rw[q] at e
    have e:=Option.some.inj e
    have e1:=congrArg (λz=>z.1.place) e
    have e2:=congrArg (λz=>z.2) e
    dsimp only at e1 e2
    show some (_,_)=some (_,_)
    rw[e2]
    unfold tm
    rw[<-e1]
 . apply Array.toList_inj.mp
   rw[Array.toList_filterMap]
   unfold sen
   show(live.map (·.2)).filterMap (λi=>(ys.map λx=>(knd.hash x.1,Value.ref x.2)).toArray[i]?)=((live.map (·.2)).filterMap λi=>ys[i]?).map λx=>(knd.hash x.1,Value.ref x.2)
   rw[List.map_filterMap]
   refine congrArg (λf=>List.filterMap f _) (funext λi=>?_)
   rw[List.getElem?_toArray,List.getElem?_map]
theorem wN{h0:Heap}(hu:knd.room A)(T:Tb knd xs m ps)(ho:s.heap.get? S=some (setT knd xs ep m ps mv))(T':Tb knd ys m' ps')(ho':s.heap.get? O=some (setT knd ys ep' m' ps' mv'))(hne:S≠O)(hx:∀x∈xs,knd.is h0 x.1 x.2)(hy:∀x∈ys,knd.is h0 x.1 x.2)(hg:∀b o,h0.get? b=some o->b≠S/\s.heap.get? b=some o)(hl:xs.length+ys.length<=700)
 {each:Sem Unit} (he:∀s':Shared,s'.heap.get? O=some (setT knd ys ep' m' ps' mv')->∀Q:Unit->Shared->Prop,Q () s'->wpAny (model prog w) A each Q E s') {Q:Unit->Shared->Prop}
 (h:∀h' xs' m1 ps1 mv1 ep1,Heap.SameBut S s.heap h'->Tb knd xs' m1 ps1->h'.get? S=some (setT knd xs' ep1 m1 ps1 mv1)->(∀x∈xs',x∈xs\/x∈ys)->(∀y,y∈xs\/y∈ys->y.1∈xs'.map (·.1))->Q () { s with heap:=h' }) :
 wpAny (model prog w) A (setMerge S O each) Q E s:=by
 unfold setMerge
 rw[if_neg (by simpa using hne)]
 refine wpAny_bind (wpAny_setState_of ho' rfl T'.fits ?_)
 dsimp only
 by_cases e0:ys=[]
 . rw[if_pos (by rw[e0];rfl)]
   subst e0
   exact wpAny_pure (h s.heap xs m ps mv ep (Heap.SameBut.refl S s.heap) T ho (λx hx=>.inl hx) λy hy=>by
    rcases hy with hy|hy
    . exact List.mem_map.mpr ⟨y,hy,rfl⟩
    . cases hy)
 have hsz:(sen knd ys).size=ys.length:=aU knd ys
 rw[if_neg (by rw[Array.isEmpty_iff_size_eq_zero,hsz];intro z;exact e0 (List.length_eq_zero_iff.mp z)),hsz]
 refine wpAny_bind (aFs T ho (n:=ys.length) (by omega) λh1 xs1 m1 ps1 mv1 ep1 b1 T1 o1 pm1 hr=>?_)
 have g1:∀b o,h0.get? b=some o->h1.get? b=some o:=λb o e=>(b1.2 b (hg b o e).1).trans (hg b o e).2
 have oO:h1.get? O=some (setT knd ys ep' m' ps' mv'):=(b1.2 O hne.symm).trans ho'
 refine wpAny_bind (wpAny_setState_of (s:={ s with heap:=h1 }) o1 rfl T1.fits ?_)
 dsimp only
 have l1:=pm1.length_eq
 by_cases e1:xs=[]
 . -- a new table
   subst e1
   have x1:xs1=[]:=List.Perm.eq_nil pm1
   subst x1
   have p1:ps1=[]:=List.length_eq_zero_iff.mp T1.len
   subst p1
   have led2:((!byTt w)&&(!byTt w))=(!byTt w):=Bool.and_self _
   by_cases e2:m1=m'
   . subst e2
     rw[show(tm m1 [] mv1 (!byTt w)).road (tm m1 ps' mv' (!byTt w))=.slotForSlot by unfold road SetTable.fill tm;simp]
     dsimp only
     refine wpAny_storeSet_of (s:={ s with heap:=h1 }) o1 rfl ?_ (by rw[hsz];exact Nat.le_trans (show ys.length<=700 by omega) (by decide))
     have:=iH o1 ys m1 ps' mv1
     refine h _ ys m1 ps' mv1 (ep1+1) (b1.trans (Heap.SameBut.update h1 S _)) T' ?_ (λx hx=>.inr hx) λy hy=>?_
     . rw[<-this]
       unfold tm
       dsimp only
       rw[led2]
       rfl
     . rcases hy with hy|hy
       . cases hy
       . exact List.mem_map.mpr ⟨y,hy,rfl⟩
   . rw[show(tm m1 [] mv1 (!byTt w)).road (tm m' ps' mv' (!byTt w))=.clean by unfold road SetTable.fill tm;simp[e2]]
     dsimp only
     obtain⟨ys',ps2,T2,pm2,hlay⟩:=aHx (knd:=knd) T1.m2 (ys:=ys) (by rw[lN] at hr;omega) T'.nd
     obtain⟨order,q1,q2⟩:=hlay mv1 (!byTt w)
     have q1':laid (tm m1 [] mv1 (!byTt w)).mask (tm m1 [] mv1 (!byTt w)).finger (tm m1 [] mv1 (!byTt w)).moves ((tm m1 [] mv1 (!byTt w)).led&&(tm m' ps' mv' (!byTt w)).led) ((tm m1 [] mv1 (!byTt w)).plain&&(tm m' ps' mv' (!byTt w)).plain) ((sen knd ys).map (·.1))=some (tm m1 ps2 mv1 (!byTt w),order):=by
      show laid m1 0 mv1 ((!byTt w)&&(!byTt w)) true _=_
      rw[led2];exact q1
     rw[q1']
     refine wpAny_bind ?_
     show wpAny _ _ (if ((order.filterMap λi=>(sen knd ys)[i]?).size != (sen knd ys).size)=true then _ else _) _ _ _
     rw[q2,if_neg (by rw[aU,aU,pm2.length_eq];simp)]
     refine wpAny_pure ?_
     refine wpAny_storeSet_of (s:={ s with heap:=h1 }) o1 rfl ?_ (by rw[aU,pm2.length_eq];exact Nat.le_trans (show ys.length<=700 by omega) (by decide))
     refine h _ ys' m1 ps2 mv1 (ep1+1) (b1.trans (Heap.SameBut.update h1 S _)) T2 (iH o1 _ _ _ _) (λx hx=>.inr (pm2.mem_iff.mp hx)) λy hy=>?_
     rcases hy with hy|hy
     . cases hy
     . exact(pm2.map _).mem_iff.mpr (List.mem_map.mpr ⟨y,hy,rfl⟩)
 . have hlen:ps1.length≠0:=by
    rw[T1.len,l1];exact λz=>e1 (List.length_eq_zero_iff.mp z)
   rw[show(tm m1 ps1 mv1 (!byTt w)).road (tm m' ps' mv' (!byTt w))=.oneByOne by unfold road SetTable.fill tm;simp;intro z;rw[z] at hlen;exact absurd rfl hlen]
   dsimp only
   refine wpAny_bind (aDU (s:={ s with heap:=h1 }) T' oO ?_)
   obtain⟨zs,hzp,hze⟩:∃zs:List (K×Addr),zs.Perm ys/\(gF w O ep' (sen knd ys)).toList=zs.map λx=>(knd.hash x.1,Value.ref x.2):=by
    have:=iI w O ep' (sen knd ys)
    obtain⟨zs,a,b⟩:=dL this (xs:=ys) (f:=λx=>(knd.hash x.1,Value.ref x.2)) rfl
    exact⟨zs,a,b⟩
   refine wpAny_bind (aBa (gF w O ep' (sen knd ys)) zs hze _ (λrest s'=>∃h2 xs2 m2 ps2 mv2 ep2,s'={ s with heap:=h2 }/\Heap.SameBut S s.heap h2/\Tb knd xs2 m2 ps2/\h2.get? S=some (setT knd xs2 ep2 m2 ps2 mv2)/\(∀x∈xs2,x∈xs\/x∈ys)/\(∀y,y∈xs\/(y∈ys/\y∉rest)->y.1∈xs2.map (·.1))/\xs2.length+rest.length<=700/\∀z∈rest,z∈ys) ?_ ?_ ⟨h1,xs1,m1,ps1,mv1,ep1,rfl,b1,T1,o1,λx hx=>.inl (pm1.mem_iff.mp hx),λy hy=>?_,by rw[l1,hzp.length_eq];omega,λz hz=>hzp.mem_iff.mp hz⟩)
   . rintro z rest s' ⟨h2,xs2,m2,ps2,mv2,ep2,rfl,c1,c2,c3,c4,c5,c6,c7⟩
     have g2:∀b o,h0.get? b=some o->h2.get? b=some o:=λb o e=>(c1.2 b (hg b o e).1).trans (hg b o e).2
     have kz:∀x,x∈xs\/x∈ys->knd.is h2 x.1 x.2:=λx hx'=>knd.keepT (hx'.elim (hx x) (hy x)) g2
     rw[lC] at c6
     refine wpAny_bind (wpAny_holding (aAX (k:=z.1) (a:=z.2) (s:={ s with heap:=h2 }) hu c2 c3 (λx hx'=>kz x (c4 x hx')) (kz z (.inr (c7 z List.mem_cons_self))) (λ_=>by omega) λh3 b xs3 m3 ps3 mv3 ep3 d1 d2 d3 d4=>?_))
     have oO3:h3.get? O=some (setT knd ys ep' m' ps' mv'):=(d1.2 O hne.symm).trans ((c1.2 O hne.symm).trans ho')
     refine wpAny_bind (he { s with heap:=h3 } oO3 _ ?_)
     refine wpAny_bind (wpAny_setState_of (s:={ s with heap:=h3 }) oO3 rfl T'.fits ?_)
     dsimp only
     rw[if_neg (by simp)]
     refine wpAny_pure ⟨h3,xs3,m3,ps3,mv3,ep3,rfl,c1.trans d1,d2,d3,λx hx'=>?_,λy hy'=>?_,?_,λq hq=>c7 q (List.mem_cons_of_mem _ hq)⟩
     . split at d4
       . rw[d4] at hx';exact c4 x hx'
       . rcases List.mem_cons.mp (d4.mem_iff.mp hx') with rfl|q
         . exact .inr (c7 _ List.mem_cons_self)
         . exact c4 x q
     . have key:y.1∈xs2.map (·.1)\/y=z:=by
        rcases hy' with q|⟨q1,q2⟩
        . exact .inl (c5 y (.inl q))
        . by_cases e:y=z
          . exact .inr e
          . exact .inl (c5 y (.inr ⟨q1,λq3=>(List.mem_cons.mp q3).elim e q2⟩))
       split at d4
       . rename_i hm
         rw[d4]
         rcases key with q|q
         . exact q
         . rw[q];exact hm
       . refine(d4.map _).mem_iff.mpr ?_
         rcases key with q|q
         . exact List.mem_cons_of_mem _ q
         . rw[q];exact List.mem_cons_self
     . split at d4
       . rw[d4];omega
       . have:=d4.length_eq
         rw[lC] at this
         omega
   . rintro s' ⟨h2,xs2,m2,ps2,mv2,ep2,rfl,c1,c2,c3,c4,c5,c6,c7⟩
     exact wpAny_pure (h h2 xs2 m2 ps2 mv2 ep2 c1 c2 c3 c4 λy hy'=>c5 y (hy'.elim .inl λq=>.inr ⟨q,λz=>by cases z⟩))
   . rcases hy with q|⟨q,q2⟩
     . exact(pm1.map _).mem_iff.mpr (List.mem_map.mpr ⟨y,q,rfl⟩)
     . exact absurd (hzp.mem_iff.mpr q) q2
end
set_option maxRecDepth 100000
theorem qC:entryFor table "set.__or__" = some Builtin.«frozenset.__or__»:=entryFor_alias (id':= "frozenset.__or__") (by kernel_rfl) rfl (by decide +kernel) (by kernel_rfl)
theorem nI:entryFor table "set.__and__" = some Builtin.«frozenset.__and__»:=entryFor_alias (id':= "frozenset.__and__") (by kernel_rfl) rfl (by decide +kernel) (by kernel_rfl)
section
variable {prog:Program} {w:World} {K:Type} [DecidableEq K] {knd:SK prog w K} {A:Around} {E:Value->Shared->Prop} {s:Shared} {S O a:Addr} {k:K} {xs ys:List (K×Addr)} {m mv ep m' mv' ep':Nat} {ps ps':List Nat}
theorem aFt(hu:knd.room A)(T:Tb knd xs m ps)(ho:s.heap.get? S=some (setT knd xs ep m ps mv))(hk:∀x∈xs,knd.is s.heap x.1 x.2)(ha:knd.is s.heap k a){Q:Option Nat->Shared->Prop}
 (h:∀r:Option Nat,r.isSome=decide (k∈xs.map (·.1))->Q r s):wpAny (model prog w) A (setFind S (.ref a) (knd.hash k)) Q E s:=by
 obtain⟨N,hb,hN,hl⟩:=lR T.m2 (Nat.le_of_lt T.lt) (knd.hash k)
 unfold setFind setFindIn
 refine wpAny_bind (wpAny_setState_of ho rfl T.fits ?_)
 dsimp only
 rw[if_neg (by unfold byScan;simp[Value.scannable])]
 unfold setSearch
 have hm31:=T.m2.le
 refine wpAny_bind (jE (ad:=false) hu T ho hk ha hN hl hb (λhm r _ hr=>?_) (λhm=>?_) 100000 0 none (Nat.zero_le _) (by omega) (λn' i x z=>absurd z (Nat.not_lt_zero _)) rfl)
 . exact wpAny_pure (h r (by rw[hr rfl,decide_eq_true hm]))
 . exact wpAny_pure (h none (by rw[decide_eq_false hm];rfl))
theorem nZ{v:Addr}{Q:Bool->Shared->Prop}(hT:s.TypeIs (.ref v) "set")(h:Q true s):wpAny (model prog w) A (Builtin.Frozenset.isAnySet (.ref v)) Q E s:=by
 unfold Builtin.Frozenset.isAnySet
 refine wpAny_bind (wpAny_isInstance hT (b:=true) (by rw[isSubtype_type];kernel_rfl) ?_)
 exact wpAny_pure h
theorem aDV{v:Addr}{Q:Value->Shared->Prop}(hT:s.TypeIs (.ref v) "set")(h:Q (.type "set") s):wpAny (model prog w) A (Builtin.Frozenset.baseOf v) Q E s:=by
 unfold Builtin.Frozenset.baseOf
 refine wpAny_bind (wpAny_isInstance hT (b:=true) (by rw[isSubtype_type];kernel_rfl) (wpAny_pure ?_))
 rw[if_pos rfl]
 exact h
theorem aHy{Q:Value->Shared->Prop}(h:Q (.ref s.heap.objs.size) { s with heap:=s.heap.push { cls:=.type "set",dict:=none,data:=.set #[] 0 (.fresh 0 0 (!byTt w)) } }) :
 wpAny (model prog w) A (newSet (.type "set")) Q E s:=by
 unfold newSet setsByText
 refine wpAny_bind (wpAny_bind (wpAny_askSetting (wpAny_pure ?_)))
 dsimp only
 simp only[newObj]
 exact wpAny_bind (wpAny_alloc (wpAny_pure h))
theorem eM{us:List (K×Addr)}{h:Heap}{S:Addr}(x:bV knd h S us)(sh:Shared)(e:sh.heap=h):sh.TypeIs (.ref S) "set" := by
 obtain⟨xs,m,ps,mv,ep,T,ho,_⟩:=x
 exact⟨_,by rw[e];exact ho,rfl⟩
theorem wP:(Tb knd [] 7 []:Prop):=⟨⟨0,by decide,rfl⟩,List.Pairwise.nil,rfl,List.nodup_nil,(show 0*5<7*3 by decide),λi x j hx=>by simp at hx⟩
theorem sN{h:Heap}:(h.push { cls:=.type "set",dict:=none,data:=.set #[] 0 (.fresh 0 0 (!byTt w)) }).get? h.objs.size=some (setT knd [] 0 7 [] 0):=Heap.get?_push_size _ rfl
theorem lX{us:List (K×Addr)}{ks:List K}(T:Tb knd xs m ps)(r:∀x∈xs,x∈us)(hin:∀x∈us,x.1∈ks):xs.length<=ks.length:=by
 have:=T.nd.length_le_of_subset (l₂:=ks) λy hy=>by
  obtain⟨z,hz,rfl⟩:=List.mem_map.mp hy
  exact hin z (r z hz)
 rwa [lM] at this
theorem qD{Q:Nat->Shared->Prop}(T:Tb knd xs m ps)(ho:s.heap.get? S=some (setT knd xs ep m ps mv))(h:Q ep s):wpAny (model prog w) A (setEpoch S) Q E s:=by
 unfold setEpoch
 exact wpAny_bind (wpAny_setState_of ho rfl T.fits (wpAny_pure h))
theorem aBb{id:String}{Q:Unit->Shared->Prop}(T:Tb knd xs m ps)(ho:s.heap.get? S=some (setT knd xs ep m ps mv))(h:Q () s):wpAny (model prog w) A (Builtin.Frozenset.unchanged id S ep) Q E s:=by
 unfold Builtin.Frozenset.unchanged
 refine wpAny_bind (qD T ho ?_)
 rw[if_neg (by simp)]
 exact wpAny_pure h
theorem aJH{us vs:List (K×Addr)}(hu:∀A':Around,A'.units<=A.units+20->knd.room A')(hS:bV knd s.heap S us)(hO:bV knd s.heap O vs)(hne:S≠O)(hus:∀x∈us,knd.is s.heap x.1 x.2)(hvs:∀x∈vs,knd.is s.heap x.1 x.2)(ks js:List K)(hks:ks.length+js.length<=700)(hin:∀x∈us,x.1∈ks)(hjn:∀x∈vs,x.1∈js){Q:Value->Shared->Prop}
 (h:∀(h':Heap),bV knd h' s.heap.objs.size (us++vs)->(∀b o,s.heap.get? b=some o->h'.get? b=some o)->Q (.ref s.heap.objs.size) { s with heap:=h' }):wpAny (model prog w) A (binaryOp .BitOr (.ref S) (.ref O)) Q E s:=by
 have T1:s.TypeIs (.ref S) "set" := eM hS s rfl
 have T2:s.TypeIs (.ref O) "set" := eM hO s rfl
 obtain⟨xs,m,ps,mv,ep,Ta,oa,ra,ra'⟩:=hS
 obtain⟨ys,m',ps',mv',ep',Tc,oc,rc,rc'⟩:=hO
 have lx:=lX Ta ra hin
 have ly:=lX Tc rc hjn
 refine wpAny_binaryOp_same (op:=.BitOr) T1 T2 PySem.F.fills_set_or PySem.F.slot_set_or (wpAny_call_entry PySem.F.slot_set_or T1 qC ?_ (PySem.F.args_set_or_2 _ _))
 refine wpAny_bind (m:=Builtin.Frozenset.slot1 "__or__" ⟨[.ref S,.ref O],[]⟩) (wpAny_bind (m:=pure (Value.ref S,[Value.ref O])) (wpAny_pure (wpAny_pure ?_)))
 dsimp only
 rw[if_neg bN]
 dsimp only
 refine wpAny_bind (wpAny_bind (nZ T1 ?_))
 refine nZ T2 ?_
 rw[if_neg (by decide)]
 refine wpAny_bind (wpAny_pure ?_)
 refine wpAny_bind ?_
 refine wpAny_bind (m:=Builtin.Frozenset.copyOf S) ?_
 unfold Builtin.Frozenset.copyOf
 refine wpAny_bind (aDV T1 (wpAny_bind (aHy (wpAny_bind (wpAny_pure ?_)))))
 have sz:∀b o,s.heap.get? b=some o->b≠s.heap.objs.size:=λb o e=>Nat.ne_of_lt (Heap.lt_size e)
 refine wpAny_bind (wN (h0:=s.heap) (s:={ s with heap:=_ }) (hu _ (by show A.units+1<=A.units+20;omega)) wP sN Ta (Heap.get?_push_of_some _ oa) (sz S _ oa).symm (λx hx=>by cases hx) (λx hx=>hus x (ra x hx)) (λb o e=>⟨sz b o e,Heap.get?_push_of_some _ e⟩) (by rw[lN];omega) (each:=pure ()) (λs' _ Q q=>wpAny_pure q) λh1 xs1 m1 ps1 mv1 ep1 b1 T3 o1 r1 r1'=>wpAny_pure ?_)
 have g1:∀b o,s.heap.get? b=some o->h1.get? b=some o:=λb o e=>(b1.2 b (sz b o e)).trans (Heap.get?_push_of_some _ e)
 rw[if_pos (by simpa using λz:O=S=>hne z.symm)]
 have T2':Shared.TypeIs { s with heap:=h1 } (.ref O) "set" := ⟨_,g1 O _ oc,rfl⟩
 refine wpAny_bind (wpAny_pure (wpAny_bind (wpAny_holding ?_)))
 unfold Builtin.Frozenset.updateFrom
 refine wpAny_bind (nZ T2' ?_)
 rw[if_pos rfl]
 refine wpAny_bind (wpAny_pure ?_)
 unfold Builtin.Frozenset.merge
 refine wpAny_bind (qD (s:={ s with heap:=h1 }) Tc (g1 O _ oc) ?_)
 refine wN (h0:=s.heap) (s:={ s with heap:=h1 }) (hu _ (by show A.units+1<=A.units+20;omega)) T3 o1 Tc (g1 O _ oc) (sz O _ oc).symm (λx hx=>hus x (ra x ((r1 x hx).resolve_left λz=>by cases z))) (λx hx=>hvs x (rc x hx)) (λb o e=>⟨sz b o e,g1 b o e⟩) ?len (λs' e Q q=>aBb Tc e q) λh2 xs2 m2 ps2 mv2 ep2 b2 T4 o2 r2 r2'=>?_
 . have:xs1.length<=ks.length:=lX T3 (us:=us) (λx hx=>ra x ((r1 x hx).resolve_left λz=>by cases z)) hin
   omega
 refine wpAny_pure (wpAny_pure ⟨_,rfl,(λz=>nomatch z),h h2 ⟨xs2,m2,ps2,mv2,ep2,T4,o2,λx hx=>?_,λy hy=>?_⟩ λb o e=>(b2.2 b (sz b o e)).trans (g1 b o e)⟩)
 . rcases r2 x hx with q|q
   . exact List.mem_append_left _ (ra x ((r1 x q).resolve_left λz=>by cases z))
   . exact List.mem_append_right _ (rc x q)
 . have back:∀z:K×Addr,z.1∈xs.map (·.1)->z.1∈xs2.map (·.1):=λz hz=>by
    obtain⟨q,hq,e⟩:=List.mem_map.mp hz
    have:=r1' q (.inr hq)
    obtain⟨q2,hq2,e2⟩:=List.mem_map.mp this
    rw[<-e,<-e2]
    exact r2' q2 (.inl hq2)
   rcases List.mem_append.mp hy with q|q
   . exact back y (ra' y q)
   . obtain⟨q1,hq1,e1⟩:=List.mem_map.mp (rc' y q)
     rw[<-e1]
     exact r2' q1 (.inr hq1)
theorem aHz{us vs:List (K×Addr)}(hu:∀A':Around,A'.units<=A.units+20->knd.room A')(hS:bV knd s.heap S us)(hO:bV knd s.heap O vs)(hne:S≠O)(hus:∀x∈us,knd.is s.heap x.1 x.2)(hvs:∀x∈vs,knd.is s.heap x.1 x.2)(ks js:List K)(hks:ks.length<=700)(hjs:js.length<=700)(hin:∀x∈us,x.1∈ks)(hjn:∀x∈vs,x.1∈js){Q:Value->Shared->Prop}
 (h:∀(h':Heap) (zs:List (K×Addr)),bV knd h' s.heap.objs.size zs->(∀z∈zs,z∈us\/z∈vs)->(∀k,k∈zs.map (·.1)↔k∈us.map (·.1)/\k∈vs.map (·.1))->(∀b o,s.heap.get? b=some o->h'.get? b=some o)->Q (.ref s.heap.objs.size) { s with heap:=h' }):wpAny (model prog w) A (binaryOp .BitAnd (.ref S) (.ref O)) Q E s:=by
 have T1:s.TypeIs (.ref S) "set" := eM hS s rfl
 have T2:s.TypeIs (.ref O) "set" := eM hO s rfl
 obtain⟨xs,m,ps,mv,ep,Ta,oa,ra,ra'⟩:=hS
 obtain⟨ys,m',ps',mv',ep',Tc,oc,rc,rc'⟩:=hO
 have lx:=lX Ta ra hin
 have ly:=lX Tc rc hjn
 have sz:∀b o,s.heap.get? b=some o->b≠s.heap.objs.size:=λb o e=>Nat.ne_of_lt (Heap.lt_size e)
 have kx:∀k,k∈us.map (·.1)↔k∈xs.map (·.1):=λk=>⟨λq=>by obtain⟨z,hz,rfl⟩:=List.mem_map.mp q;exact ra' z hz,λq=>by obtain⟨z,hz,rfl⟩:=List.mem_map.mp q;exact List.mem_map.mpr ⟨z,ra z hz,rfl⟩⟩
 have ky:∀k,k∈vs.map (·.1)↔k∈ys.map (·.1):=λk=>⟨λq=>by obtain⟨z,hz,rfl⟩:=List.mem_map.mp q;exact rc' z hz,λq=>by obtain⟨z,hz,rfl⟩:=List.mem_map.mp q;exact List.mem_map.mpr ⟨z,rc z hz,rfl⟩⟩
 refine wpAny_binaryOp_same (op:=.BitAnd) T1 T2 PySem.F.fills_set_and PySem.F.slot_set_and (wpAny_call_entry PySem.F.slot_set_and T1 nI ?_ (PySem.F.args_set_and_2 _ _))
 refine wpAny_bind (m:=Builtin.Frozenset.slot1 "__and__" ⟨[.ref S,.ref O],[]⟩) (wpAny_bind (m:=pure (Value.ref S,[Value.ref O])) (wpAny_pure (wpAny_pure ?_)))
 dsimp only
 rw[if_neg bN]
 dsimp only
 refine wpAny_bind (wpAny_bind (nZ T1 ?_))
 refine nZ T2 ?_
 rw[if_neg (by decide)]
 refine wpAny_bind (wpAny_pure ?_)
 refine wpAny_bind ?_
 unfold Builtin.Frozenset.intersection
 rw[if_neg (by simpa using λz:O=S=>hne z.symm)]
 refine wpAny_bind (aDV T1 (wpAny_bind (aHy (wpAny_bind (wpAny_pure (wpAny_bind (wpAny_holding ?_)))))))
 have g0:∀b o,s.heap.get? b=some o->(s.heap.push { cls:=.type "set",dict:=none,data:=.set #[] 0 (.fresh 0 0 (!byTt w)) }).get? b=some o:=λb o e=>Heap.get?_push_of_some _ e
 refine wpAny_bind (nZ ⟨_,g0 O _ oc,rfl⟩ ?_)
 rw[if_pos rfl]
 refine wpAny_bind (wpAny_pure ?_)
 have szT:∀{sh:Shared} {V:Addr} {zs:List (K×Addr)} {m mv ep:Nat} {ps:List Nat} {Q:Nat->Shared->Prop},Tb knd zs m ps->sh.heap.get? V=some (setT knd zs ep m ps mv)->Q zs.length sh->wpAny (model prog w) A.in1 (Builtin.Frozenset.sizeOf V) Q E sh:=λT o q=>by
  unfold Builtin.Frozenset.sizeOf setEntries
  refine wpAny_bind (wpAny_bind (wpAny_setState_of o rfl T.fits (wpAny_pure (wpAny_pure ?_))))
  dsimp only
  rw[aU]
  exact q
 refine wpAny_bind (szT Tc (g0 O _ oc) (wpAny_bind (szT Ta (g0 S _ oa) ?_)))
 have loop:∀{U V:Addr} {xu xv:List (K×Addr)} {mu mvu eu mw mvw ew:Nat} {pu pw:List Nat},Tb knd xu mu pu->s.heap.get? U=some (setT knd xu eu mu pu mvu)->Tb knd xv mw pw->s.heap.get? V=some (setT knd xv ew mw pw mvw)->(∀x∈xu,knd.is s.heap x.1 x.2)->(∀x∈xv,knd.is s.heap x.1 x.2)->(∀x∈xv,x∈us\/x∈vs)->xv.length<=700->(∀k,k∈xu.map (·.1)/\k∈xv.map (·.1)↔k∈us.map (·.1)/\k∈vs.map (·.1)) ->
  wpAny (model prog w) A.in1 (setWalkUnseen V [U,s.heap.objs.size] (some s.heap.objs.size)) (λes s'=>wpAny (model prog w) A.in1 (forIn es PUnit.unit λx _=>match x with
   | (h,x)=>do
    holding [x] do
     let r<-setFind U x h
     if r.isSome=true then do
      let _<-setAddHashed s.heap.objs.size x h
      pure ()
     else pure ()
    Builtin.Frozenset.unchanged (toString "frozenset." ++ toString "__and__") V ew
    pure (ForInStep.yield PUnit.unit)) (λ_ s'=>∃(h':Heap) (zs:List (K×Addr)),s'={ s with heap:=h' }/\bV knd h' s.heap.objs.size zs/\(∀z∈zs,z∈us\/z∈vs)/\(∀k,k∈zs.map (·.1)↔k∈us.map (·.1)/\k∈vs.map (·.1))/\∀b o,s.heap.get? b=some o->h'.get? b=some o) E s') E { s with heap:=s.heap.push { cls:=.type "set",dict:=none,data:=.set #[] 0 (.fresh 0 0 (!byTt w)) } }:=by
  intro U V xu xv mu mvu eu mw mvw ew pu pw TU oU TV oV kU kV sub lv keys
  refine aDU (s:={ s with heap:=_ }) TV (g0 V _ oV) ?_
  obtain⟨zs,hzp,hze⟩:∃zs:List (K×Addr),zs.Perm xv/\(gF w V ew (sen knd xv)).toList=zs.map λx=>(knd.hash x.1,Value.ref x.2):=by
   obtain⟨zs,a,b⟩:=dL (iI w V ew (sen knd xv)) (xs:=xv) (f:=λx=>(knd.hash x.1,Value.ref x.2)) rfl
   exact⟨zs,a,b⟩
  refine aBa _ zs hze _ (λrest s'=>∃h2 xs2 m2 ps2 mv2 ep2,s'={ s with heap:=h2 }/\(∀b o,s.heap.get? b=some o->h2.get? b=some o)/\Tb knd xs2 m2 ps2/\h2.get? s.heap.objs.size=some (setT knd xs2 ep2 m2 ps2 mv2)/\(∀x∈xs2,x∈xv/\x.1∈xu.map (·.1))/\(∀y,y∈xv->y∉rest->y.1∈xu.map (·.1)->y.1∈xs2.map (·.1))/\xs2.length+rest.length<=700/\∀z∈rest,z∈xv) ?_ ?_ ⟨_,[],7,[],0,0,rfl,g0,wP,sN,λx hx=>(by cases hx),λy hy q=>absurd (hzp.mem_iff.mpr hy) q,by rw[lN,hzp.length_eq];omega,λz hz=>hzp.mem_iff.mp hz⟩
  . rintro z rest s' ⟨h2,xs2,m2,ps2,mv2,ep2,rfl,c1,c2,c3,c4,c5,c6,c7⟩
    have zx:=c7 z List.mem_cons_self
    have kz:∀x,x∈xu\/x∈xv->knd.is h2 x.1 x.2:=λx hx'=>knd.keepT (hx'.elim (kU x) (kV x)) c1
    rw[lC] at c6
    have oV2:∀{h3:Heap},Heap.SameBut s.heap.objs.size h2 h3->h3.get? V=some (setT knd xv ew mw pw mvw):=λd=>(d.2 V (sz V _ oV)).trans (c1 V _ oV)
    dsimp only
    refine wpAny_bind (wpAny_holding (wpAny_bind (aFt (k:=z.1) (a:=z.2) (s:={ s with heap:=h2 }) (hu _ (by show A.units+1<=A.units+20;omega)) TU (c1 U _ oU) (λx hx'=>kz x (.inl hx')) (kz z (.inr zx)) λr hr=>?_)))
    by_cases hm:z.1∈xu.map (·.1)
    . rw[hr,decide_eq_true hm,if_pos rfl]
      refine wpAny_bind (aAX (k:=z.1) (a:=z.2) (s:={ s with heap:=h2 }) (hu _ (by show A.units+1<=A.units+20;omega)) c2 c3 (λx hx'=>kz x (.inr (c4 x hx').1)) (kz z (.inr zx)) (λ_=>by omega) λh3 b xs3 m3 ps3 mv3 ep3 d1 d2 d3 d4=>wpAny_pure ?_)
      refine wpAny_bind (aBb (s:={ s with heap:=h3 }) TV (oV2 d1) ?_)
      refine wpAny_pure ⟨h3,xs3,m3,ps3,mv3,ep3,rfl,λb o e=>(d1.2 b (sz b o e)).trans (c1 b o e),d2,d3,λx hx'=>?_,λy hy' q1 q2=>?_,?_,λq hq=>c7 q (List.mem_cons_of_mem _ hq)⟩
      . split at d4
        . rw[d4] at hx';exact c4 x hx'
        . rcases List.mem_cons.mp (d4.mem_iff.mp hx') with rfl|q
          . exact⟨zx,hm⟩
          . exact c4 x q
      . have key:y.1∈xs2.map (·.1)\/y=z:=by
         by_cases e:y=z
         . exact .inr e
         . exact .inl (c5 y hy' (λq3=>(List.mem_cons.mp q3).elim e q1) q2)
        split at d4
        . rename_i hm2
          rw[d4]
          rcases key with q|q
          . exact q
          . rw[q];exact hm2
        . refine(d4.map _).mem_iff.mpr ?_
          rcases key with q|q
          . exact List.mem_cons_of_mem _ q
          . rw[q];exact List.mem_cons_self
      . split at d4
        . rw[d4];omega
        . have:=d4.length_eq
          rw[lC] at this
          omega
    . rw[hr,decide_eq_false hm,if_neg bN]
      refine wpAny_pure (wpAny_bind (aBb (s:={ s with heap:=h2 }) TV (c1 V _ oV) ?_))
      refine wpAny_pure ⟨h2,xs2,m2,ps2,mv2,ep2,rfl,c1,c2,c3,c4,λy hy' q1 q2=>?_,by omega,λq hq=>c7 q (List.mem_cons_of_mem _ hq)⟩
      by_cases e:y=z
      . rw[e] at q2;exact absurd q2 hm
      . exact c5 y hy' (λq3=>(List.mem_cons.mp q3).elim e q1) q2
  . rintro s' ⟨h2,xs2,m2,ps2,mv2,ep2,rfl,c1,c2,c3,c4,c5,c6,c7⟩
    refine⟨h2,xs2,rfl,⟨xs2,m2,ps2,mv2,ep2,c2,c3,λx hx'=>hx',λy hy'=>List.mem_map.mpr ⟨y,hy',rfl⟩⟩,λz hz=>sub z (c4 z hz).1,λk=>?_,c1⟩
    rw[<-keys k]
    constructor
    . intro q
      obtain⟨y,hy',rfl⟩:=List.mem_map.mp q
      exact⟨(c4 y hy').2,List.mem_map.mpr ⟨y,(c4 y hy').1,rfl⟩⟩
    . rintro ⟨q1,q2⟩
      obtain⟨y,hy',rfl⟩:=List.mem_map.mp q2
      exact c5 y hy' (λz=>by cases z) q1
 have done:∀{s':Shared},(∃(h':Heap) (zs:List (K×Addr)),s'={ s with heap:=h' }/\bV knd h' s.heap.objs.size zs/\(∀z∈zs,z∈us\/z∈vs)/\(∀k,k∈zs.map (·.1)↔k∈us.map (·.1)/\k∈vs.map (·.1))/\∀b o,s.heap.get? b=some o->h'.get? b=some o)->Q (.ref s.heap.objs.size) s':=λ⟨h',zs,e,q1,q2,q3,q4⟩=>e▸h h' zs q1 q2 q3 q4
 by_cases c:ys.length>xs.length
 . rw[if_pos c]
   dsimp only
   refine wpAny_bind (qD (s:={ s with heap:=_ }) Ta (g0 S _ oa) ?_)
   refine wpAny_bind (wpAny_mono (loop Tc oc Ta oa (λx hx=>hvs x (rc x hx)) (λx hx=>hus x (ra x hx)) (λx hx=>.inl (ra x hx)) (by omega) λk=>by rw[kx,ky];exact And.comm) (λes s1 q1=>wpAny_bind (wpAny_mono q1 (λ_ s2 q2=>?_) λ_ _ e=>e)) λ_ _ e=>e)
   exact wpAny_pure (wpAny_pure (wpAny_pure ⟨_,rfl,(λz=>nomatch z),done q2⟩))
 . rw[if_neg c]
   dsimp only
   refine wpAny_bind (qD (s:={ s with heap:=_ }) Tc (g0 O _ oc) ?_)
   refine wpAny_bind (wpAny_mono (loop Ta oa Tc oc (λx hx=>hus x (ra x hx)) (λx hx=>hvs x (rc x hx)) (λx hx=>.inr (rc x hx)) (by omega) λk=>by rw[kx,ky]) (λes s1 q1=>wpAny_bind (wpAny_mono q1 (λ_ s2 q2=>?_) λ_ _ e=>e)) λ_ _ e=>e)
   exact wpAny_pure (wpAny_pure (wpAny_pure ⟨_,rfl,(λz=>nomatch z),done q2⟩))
end
end L2
end
noncomputable section
namespace L2
open PySem PySem.Spec PyProof.Rows SetTable PySem.W
open Hp (lexG ltI lexJ lexN)
set_option maxRecDepth 100000
structure LO {α:Type} (lt:α->α->Bool):Prop where
 tr:∀{a b c},lt a b=true->lt b c=true->lt a c=true
 ir:∀a,lt a a=false
 tot:∀{a b},a≠b->lt a b=false->lt b a=true
theorem LO.as{α:Type}{lt:α->α->Bool}(L:LO lt){a b:α}(h:lt a b=true):lt b a=false:=by
 cases q:lt b a with
 | false=>rfl
 | true=>have:=L.tr h q;rw[L.ir] at this;cases this
theorem qF:LO ltI:=⟨λh1 h2=>by unfold ltI at*;simp only[decide_eq_true_eq] at*;omega,λa=>by unfold ltI;simp,λh1 h2=>by unfold ltI at*;simp only[decide_eq_true_eq,decide_eq_false_iff_not] at*;omega⟩
theorem wQ{α:Type}[DecidableEq α]{lt:α->α->Bool}(L:LO lt):∀{a b c:List α},lexG lt a b=true->lexG lt b c=true->lexG lt a c=true
 | [],[],_,h,_=>by cases h
 | [],_::_,[],_,h=>by cases h
 | [],_::_,_::_,_,_=>rfl
 | _::_,[],_,h,_=>by cases h
 | _::_,_::_,[],_,h=>by cases h
 | x::xs,y::ys,z::zs,h1,h2=>by
  rw[lexG] at h1 h2 ⊢
  by_cases e1:x=y
  . subst e1
    rw[if_pos rfl] at h1
    by_cases e2:x=z
    . rw[if_pos e2] at h2 ⊢;exact wQ L h1 h2
    . rw[if_neg e2] at h2 ⊢;exact h2
  . rw[if_neg e1] at h1
    by_cases e2:y=z
    . subst e2
      rw[if_neg e1];exact h1
    . rw[if_neg e2] at h2
      have h3:=L.tr h1 h2
      rw[if_neg (λe=>by subst e;rw[L.as h1] at h2;cases h2)]
      exact h3
theorem wR{α:Type}[DecidableEq α]{lt:α->α->Bool}:∀a:List α,lexG lt a a=false
 | []=>rfl
 | x::xs=>by rw[lexG,if_pos rfl];exact wR xs
theorem sO{α:Type}[DecidableEq α]{lt:α->α->Bool}(L:LO lt):∀{a b:List α},a≠b->lexG lt a b=false->lexG lt b a=true
 | [],[],h,_=>absurd rfl h
 | [],_::_,_,h=>by cases h
 | _::_,[],_,_=>rfl
 | x::xs,y::ys,h,h2=>by
  rw[lexG] at h2 ⊢
  by_cases e1:x=y
  . subst e1
    rw[if_pos rfl] at h2 ⊢
    exact sO L (λe=>h (by rw[e])) h2
  . rw[if_neg e1] at h2
    rw[if_neg (Ne.symm e1)]
    exact L.tot e1 h2
theorem LO.lex{α:Type}[DecidableEq α]{lt:α->α->Bool}(L:LO lt):LO (lexG lt):=⟨λh1 h2=>wQ L h1 h2,wR,λh1 h2=>sO L h1 h2⟩
theorem eN:LO lexN:=qF.lex.lex
theorem wU:∀(ns ms:List Int),HT.lexLt ns ms=lexJ ns ms
 | [],[]=>rfl
 | [],_::_=>rfl
 | _::_,[]=>rfl
 | x::xs,y::ys=>by rw[HT.lexLt_cons,lexJ,lexG,wU xs ys];rfl
noncomputable def rk{α:Type}(lt:α->α->Bool)(ks:List α)(k:α):Nat:=ks.countP λy=>lt y k
theorem oA{α:Type}{lt:α->α->Bool}(L:LO lt){x y:α}(h:lt x y=true):∀{ks:List α},x∈ks->rk lt ks x<rk lt ks y
 | z::ks,hx=>by
  unfold rk
  rw[List.countP_cons,List.countP_cons]
  have mono:ks.countP (λq=>lt q x)<=ks.countP λq=>lt q y:=List.countP_mono_left λq _ hq=>L.tr hq h
  rcases List.mem_cons.mp hx with rfl|hx
  . rw[if_neg (by rw[L.ir];exact bN),if_pos h];omega
  . have:=oA L h hx
    unfold rk at this
    by_cases q:lt z x=true
    . rw[if_pos q,if_pos (L.tr q h)];omega
    . rw[if_neg q];split <;> omega
theorem aFu{α:Type}[DecidableEq α]{lt:α->α->Bool}(L:LO lt){ks:List α}{x y:α}(hx:x∈ks)(hy:y∈ks):decide (rk lt ks x<rk lt ks y)=lt x y:=by
 cases h:lt x y with
 | true=>exact decide_eq_true (oA L h hx)
 | false=>
  refine decide_eq_false λq=>?_
  by_cases e:x=y
  . subst e;omega
  . have:=oA L (L.tot e h) hy;omega
abbrev rfs{K:Type}(us:List (K×Addr)):List Value:=us.map λx=>Value.ref x.2
section
variable {prog:Program} {w:World} {K:Type} [DecidableEq K] {A:Around} {E:Value->Shared->Prop} {s:Shared} {lt:K->K->Bool}
noncomputable def rOf(lt:K->K->Bool)(us:List (K×Addr))(p:Keyed):Nat:=match p.1 with
 | .ref b=>(match us.find? (λy=>y.2==b) with|some x=>rk lt (us.map (·.1)) x.1|none=>0)
 | _=>0
theorem wV:∀{us:List (K×Addr)},(us.map (·.2)).Nodup->∀{x:K×Addr},x∈us->us.find? (λy=>y.2==x.2)=some x
 | y::us,h,x,hx=>by
  rw[mC,List.nodup_cons] at h
  rw[List.find?_cons]
  rcases List.mem_cons.mp hx with rfl|hx
  . rw[show(x.2==x.2)=true from beq_self_eq_true _]
  . rw[show(y.2==x.2)=false from beq_eq_false_iff_ne.mpr λe=>h.1 (List.mem_map.mpr ⟨x,hx,e.symm⟩)]
    exact wV h.2 hx
theorem sP(L:LO lt){a:Addr}{us:List (K×Addr)}{n:Nat}{P:PySem.Fin->Shared->Prop}(κ:SortKind)(ho:s.heap.get? a=some (seqObj "list" (rfs us).toArray n))(na:(us.map (·.2)).Nodup)(nd:(us.map (·.1)).Nodup)(hz:us.length<=1000000)
 (hkind:∀h6:Heap,(∀b o,b≠a->s.heap.get? b=some o->h6.get? b=some o)->0<us.length->∀Q:SortKind->Shared->Prop,Q κ { s with heap:=h6 }->wpAny (model prog w) A (keyKind' (rfs us).toArray) Q E { s with heap:=h6 })
 (hlt:∀h6:Heap,(∀b o,b≠a->s.heap.get? b=some o->h6.get? b=some o)->∀x∈us,∀y∈us,∀Q:Bool->Shared->Prop,Q (lt x.1 y.1) { s with heap:=h6 }->wpAny (model prog w) A (keyLt' κ (.ref x.2) (.ref y.2)) Q (λ_ _=>False) { s with heap:=h6 })
 (h:∀us':List (K×Addr),us'.Perm us->(us'.Pairwise λx y=>lt x.1 y.1=true)->P (.done (.ret .none)) { s with heap:=sortedHeap s.heap a (rfs us) (rfs us').toArray }) :
 wpAny (model prog w) A (Builtin.«list.sort» ⟨[.ref a],[]⟩) P E s:=by
 rw[list_sort_plain]
 have ha:a<s.heap.objs.size:=Heap.lt_size ho
 have hlv:(rfs us).length=us.length:=by rw[lM]
 refine wpAny_bind (listItems_at ho rfl ?_)
 refine wpAny_bind (listUpdate_at ho rfl ?_ (by rw[List.size_toArray,sizeLine_eq];omega) (Nat.zero_le _))
 obtain⟨e1,ho1⟩:∃e1,(s.heap.update a (Obj.mapSeq λ_=>(#[]:Array Value))).get? a=some (seqObj "list" #[] e1):=⟨_,get?_update_seq ho λ_=>#[]⟩
 refine wpAny_bind (seqEpoch_at ho1 rfl ?_)
 refine wpAny_bind (wpAny_newTuple ?_ (by show(rfs us).length<=_;rw[sizeLine_eq];omega))
 refine wpAny_bind (wpAny_newList ?_ (Nat.zero_le _))
 refine wpAny_holding ?_
 have keep:∀b o,b≠a->s.heap.get? b=some o->(((s.heap.update a (Obj.mapSeq λ_=>(#[]:Array Value))).push (seqObj "tuple" (rfs us).toArray 0)).push (seqObj "list" #[] 0)).get? b=some o:=λb o hb e=>
  Heap.get?_push_of_some _ (Heap.get?_push_of_some _ (by rw[Heap.get?_update_ne _ _ _ _ hb];exact e))
 have ho6:(((s.heap.update a (Obj.mapSeq λ_=>(#[]:Array Value))).push (seqObj "tuple" (rfs us).toArray 0)).push (seqObj "list" #[] 0)).get? a=some (seqObj "list" #[] e1):=Heap.get?_push_of_some _ (Heap.get?_push_of_some _ ho1)
 show wpAny (model prog w) A _ P E { s with heap:=((s.heap.update a (Obj.mapSeq λ_=>(#[]:Array Value))).push (seqObj "tuple" (rfs us).toArray 0)).push (seqObj "list" #[] 0) }
 dsimp only
 have fin:∀us':List (K×Addr),us'.Perm us->(us'.Pairwise λx y=>lt x.1 y.1=true)->∀out:Array Value,out=(rfs us').toArray->P (.done (.ret .none)) { s with heap:=sortedHeap s.heap a (rfs us) out }:=λus' a b out e=>e▸h us' a b
 by_cases h2:(rfs us).toArray.size<2
 . rw[if_pos h2,if_pos h2]
   refine wpAny_bind (wpAny_pure ?_)
   rw[StateT.run_pure]
   refine wpAny_bind (wpAny_pure ?_)
   dsimp only
   refine wpAny_bind (seqEpoch_at ho6 rfl ?_)
   refine wpAny_bind (listUpdate_at ho6 rfl ?_ (Nat.zero_le _) (by rw[Array.size_map];show(pairsOf (rfs us)).size<=_;rw[pairsOf_size,sizeLine_eq];omega))
   simp only[bne_self_eq_false,bF,if_false]
   refine wpAny_pure (fin us (List.Perm.refl _) ?_ _ ?_)
   . rw[List.size_toArray,hlv] at h2
     match us,h2 with
     | [],_=>exact .nil
     | [x],_=>exact List.pairwise_singleton _ _
     | _::_::_,h2=>simp at h2;omega
   . apply Array.toList_inj.mp
     show((pairsOf (rfs us)).map (·.2)).toList=_
     rw[Array.toList_map,pairsOf_toList]
     exact List.map_snd_zip (Nat.le_refl _)
 . rw[if_neg h2,if_neg h2]
   have h2':2<=us.length:=by rw[List.size_toArray,hlv] at h2;omega
   refine wpAny_bind (hkind _ keep (by omega) _ ?_)
   have e0:((rfs us).toArray.zip (rfs us).toArray).toList=us.map λx=>(Value.ref x.2,Value.ref x.2):=by
    rw[Array.toList_zip,List.toList_toArray]
    unfold rfs
    rw[List.zip_map']
   have fnd:∀x∈us,us.find? (λy=>y.2==x.2)=some x:=λx hx=>wV na hx
   have rv:∀x∈us,rOf lt us (Value.ref x.2,Value.ref x.2)=rk lt (us.map (·.1)) x.1:=λx hx=>by
    unfold rOf
    dsimp only
    rw[fnd x hx]
   have C:Ts.Cmp (model prog w) A E { s with heap:=((s.heap.update a (Obj.mapSeq λ_=>(#[]:Array Value))).push (seqObj "tuple" (rfs us).toArray 0)).push (seqObj "list" #[] 0) } κ (λp=>∃x∈us,p=(Value.ref x.2,Value.ref x.2)) (rOf lt us):=by
    rintro _ _ ⟨x,hx,rfl⟩ ⟨y,hy,rfl⟩ st Q hk q
    rw[rv x hx,rv y hy,aFu L (ks:=us.map (·.1)) (x:=x.1) (y:=y.1) (List.mem_map.mpr ⟨x,hx,rfl⟩) (List.mem_map.mpr ⟨y,hy,rfl⟩)] at q
    rw[lt'_eq]
    refine wpS_bind (wpS_get ?_)
    rw[hk]
    refine wpS_bind (wpS_lift (wpAny_attempt (wpAny_mono (hlt _ keep x hx y hy (λb s'=>s'=_/\b=lt x.1 y.1) ⟨rfl,rfl⟩) (λb s' z=>⟨z.1,z.2▸wpS_pure q⟩) λ_ _ z=>z.elim)))
   have hsz:((rfs us).toArray.zip (rfs us).toArray).size=us.length:=by
    rw[<-Array.length_toList,e0,lM]
   refine wpAny_bind (wpAny_mono (Ts.wpS_sortRuns (r:=rOf lt us) C (st:=SortSt.mk' κ ((rfs us).toArray.zip (rfs us).toArray) #[] 7 none) (Q:=λ_ st'=>failedOf st'=none/\∃us':List (K×Addr),us'.Perm us/\(us'.Pairwise λx y=>lt x.1 y.1=true)/\(arrOf st').map (·.2)=(rfs us').toArray) rfl rfl rfl (λi p hp=>?_) ?_ λst' pm hf sg=>⟨hf,?_⟩) ?_ λ_ _ e=>e)
   . have:p∈((rfs us).toArray.zip (rfs us).toArray).toList:=Array.mem_toList_iff.mpr (Array.mem_of_getElem? hp)
     rw[e0] at this
     obtain⟨x,hx,rfl⟩:=List.mem_map.mp this
     exact⟨x,hx,rfl⟩
   . show(((rfs us).toArray.zip (rfs us).toArray).toList.map (rOf lt us)).Nodup
     rw[e0,List.map_map]
     have:us.map (rOf lt us∘λx=>(Value.ref x.2,Value.ref x.2))=(us.map (·.1)).map (rk lt (us.map (·.1))):=by
      rw[List.map_map]
      exact List.map_congr_left λx hx=>rv x hx
     rw[this]
     exact(List.pairwise_map.mpr (List.Pairwise.imp_of_mem (λ{x y} hx hy hne e=>hne (by
      by_cases q:x=y
      . exact q
      . cases c:lt x y with
        | true=>have:=oA L c hx;omega
        | false=>have:=oA L (L.tot q c) hy;omega)) nd))
   . obtain⟨us',u1,u2⟩:=dL (pm.trans (List.Perm.of_eq (show(arrOf (SortSt.mk' κ ((rfs us).toArray.zip (rfs us).toArray) #[] 7 none)).toList=_ from rfl))) (xs:=us) (f:=λx=>(Value.ref x.2,Value.ref x.2)) e0
     refine⟨us',u1,?_,?_⟩
     . have hsz':(arrOf st').size=us'.length:=by rw[<-Array.length_toList,u2,lM]
       refine List.pairwise_iff_getElem.mpr λi j hi hj hij=>?_
       have at':∀i (hi:i<us'.length),(arrOf st')[i]? = some (Value.ref us'[i].2,Value.ref us'[i].2):=λi hi=>by
        rw[<-Array.getElem?_toList,u2,List.getElem?_map,List.getElem?_eq_getElem hi];rfl
       have q:=sg i j (Nat.zero_le _) (Nat.le_of_lt hij) (by show j<((rfs us).toArray.zip (rfs us).toArray).size;rw[hsz,<-u1.length_eq];exact hj)
       have mi:=u1.mem_iff.mp (List.getElem_mem hi)
       have mj:=u1.mem_iff.mp (List.getElem_mem hj)
       rw[Ts.kr_at (at' i hi),Ts.kr_at (at' j hj),rv _ mi,rv _ mj] at q
       have ne:us'[i].1≠us'[j].1:=by
        have:=List.pairwise_iff_getElem.mp ((u1.map (·.1)).nodup_iff.mpr nd) i j (by simpa using hi) (by simpa using hj) hij
        simpa using this
       cases c:lt us'[i].1 us'[j].1 with
       | true=>rfl
       | false=>
        have:=oA L (L.tot ne c) (ks:=us.map (·.1)) (List.mem_map.mpr ⟨_,mj,rfl⟩)
        omega
     . apply Array.toList_inj.mp
       rw[Array.toList_map,u2,List.map_map]
       rfl
   . rintro ⟨⟨⟩,st'⟩ s' ⟨rfl,hf,us',g1,g2,g3⟩
     dsimp only
     refine wpAny_bind (seqEpoch_at ho6 rfl ?_)
     refine wpAny_bind (listUpdate_at ho6 rfl ?_ (Nat.zero_le _) (by rw[g3,List.size_toArray,lM,g1.length_eq,sizeLine_eq];omega))
     rw[hf]
     simp only[bne_self_eq_false,bF,if_false]
     exact wpAny_pure (fin us' g1 g2 _ g3)
end
set_option maxRecDepth 100000
section
variable {prog:Program} {w:World} {A:Around} {E:Value->Shared->Prop} {s:Shared}
abbrev IsT(prog:Program)(w:World)(h:Heap)(k:List Int)(a:Addr):Prop:=IsTupleKey (intKind prog w) h k a
abbrev IsN(prog:Program)(w:World)(h:Heap)(k:List (List Int))(a:Addr):Prop:=bP (tupleKind (intKind prog w)) h k a
theorem aBc(n:Nat){v:Value}(h:carriedByValue v=true):ofAClassStatement n v=pure false:=by
 cases v with
 | ref a=>simp[carriedByValue] at h
 | _=>first|rfl|simp[ofAClassStatement]|(unfold ofAClassStatement;rfl)
theorem aBd{n:Nat}{k:List Int}{a:Addr}{Q:Bool->Shared->Prop}(ha:IsT prog w s.heap k a)(h:Q false s):wpAny (model prog w) A (ofAClassStatement (n+1) (.ref a)) Q E s:=by
 have hT:=ha.typeIs
 obtain⟨o,items,n,ho,_,hd,hi⟩:=ha
 unfold ofAClassStatement
 refine wpAny_bind (wpAny_typeOf hT ?_)
 dsimp only
 rw[if_pos (by decide +kernel)]
 refine wpAny_bind (wpAny_pure ?_)
 rw[if_neg (by decide)]
 refine wpAny_bind (wpAny_seqItems ho hd ?_)
 dsimp only
 rw[<-Array.forIn_toList]
 refine wpAny_bind (wpAny_forIn_list _ (λrest r s'=>r.1=none/\s'=s/\∀v∈rest,carriedByValue v=true) _ ?_ ?_ _ _ ⟨rfl,rfl,hi.byValue⟩)
 . rintro v rest r s' ⟨hr,rfl,hall⟩
   rw[aBc _ (hall v List.mem_cons_self)]
   refine wpAny_bind (wpAny_pure ?_)
   rw[if_neg (by decide)]
   exact wpAny_pure ⟨rfl,rfl,λu hu'=>hall u (List.mem_cons_of_mem _ hu')⟩
 . rintro ⟨r1,r2⟩ s' ⟨hr,rfl,_⟩
   simp only at hr
   subst hr
   exact wpAny_pure h
theorem aBe{k:List (List Int)}{a:Addr}{Q:Bool->Shared->Prop}(ha:IsN prog w s.heap k a)(h:Q false s):wpAny (model prog w) A (ofAClassStatement 8 (.ref a)) Q E s:=by
 have hT:=ha.typeIs
 obtain⟨o,items,n,ho,_,hd,hi⟩:=ha
 unfold ofAClassStatement
 refine wpAny_bind (wpAny_typeOf hT ?_)
 dsimp only
 rw[if_pos (by decide +kernel)]
 refine wpAny_bind (wpAny_pure ?_)
 rw[if_neg (by decide)]
 refine wpAny_bind (wpAny_seqItems ho hd ?_)
 dsimp only
 rw[<-Array.forIn_toList]
 refine wpAny_bind (wpAny_forIn_list _ (λrest r s'=>r.1=none/\s'=s/\∃ks',aP (tupleKind (intKind prog w)) s.heap ks' rest) _ ?_ ?_ _ _ ⟨rfl,rfl,k,hi⟩)
 . rintro v rest r s' ⟨hr,rfl,ks',hl⟩
   cases hl with
   | cons h1 hl'=>
    refine wpAny_bind (aBd (n:=6) h1 ?_)
    rw[if_neg (by decide)]
    exact wpAny_pure ⟨rfl,rfl,_,hl'⟩
 . rintro ⟨r1,r2⟩ s' ⟨hr,rfl,_⟩
   simp only at hr
   subst hr
   exact wpAny_pure h
theorem aDW{k:Int}{v:Value}(h:(intKind prog w).is k v=true):∃t,v=.int k t:=by
 change Value.isInt k v=true at h
 cases v <;> simp[Value.isInt] at h
 exact⟨_,by rw[h]⟩
theorem aFv{n:Nat}{k:List Int}{a:Addr}{Q:Bool->Shared->Prop}(ha:IsT prog w s.heap k a)(h:Q true s):wpAny (model prog w) A (hashByValue (n+1) (.ref a)) Q E s:=by
 have hT:=ha.typeIs
 obtain⟨o,items,n',ho,_,hd,hi⟩:=ha
 unfold hashByValue
 refine wpAny_bind (wpAny_specialOf hT PySem.F.slot_tuple_hash.lookup ?_)
 dsimp only
 refine wpAny_bind (wpAny_seqItems ho hd ?_)
 dsimp only[Option.getD_some]
 rw[<-Array.forIn_toList]
 refine wpAny_bind (wpAny_forIn_list _ (λrest r s'=>r.1=none/\s'=s/\∃ks,ItemsAre (intKind prog w) ks rest) _ ?_ ?_ _ _ ⟨rfl,rfl,_,hi⟩)
 . rintro v rest r s' ⟨hr,rfl,ks,hall⟩
   cases hall with
   | cons h1 h2=>
    obtain⟨tk,rfl⟩:=aDW h1
    rw[show hashByValue n (.int _ tk)=pure true by unfold hashByValue;cases n <;> rfl]
    refine wpAny_bind (wpAny_pure ?_)
    rw[if_neg (by decide)]
    exact wpAny_pure ⟨rfl,rfl,_,h2⟩
 . rintro ⟨r1,r2⟩ s' ⟨hr,rfl,_⟩
   simp only at hr
   subst hr
   exact wpAny_pure h
theorem aFw{k:List (List Int)}{a:Addr}{Q:Bool->Shared->Prop}(ha:IsN prog w s.heap k a)(h:Q true s):wpAny (model prog w) A (hashByValue 8 (.ref a)) Q E s:=by
 have hT:=ha.typeIs
 obtain⟨o,items,n',ho,_,hd,hi⟩:=ha
 unfold hashByValue
 refine wpAny_bind (wpAny_specialOf hT PySem.F.slot_tuple_hash.lookup ?_)
 dsimp only
 refine wpAny_bind (wpAny_seqItems ho hd ?_)
 dsimp only[Option.getD_some]
 rw[<-Array.forIn_toList]
 refine wpAny_bind (wpAny_forIn_list _ (λrest r s'=>r.1=none/\s'=s/\∃ks',aP (tupleKind (intKind prog w)) s.heap ks' rest) _ ?_ ?_ _ _ ⟨rfl,rfl,k,hi⟩)
 . rintro v rest r s' ⟨hr,rfl,ks',hl⟩
   cases hl with
   | cons h1 hl'=>
    refine wpAny_bind (aFv (n:=6) h1 ?_)
    rw[if_neg (by decide)]
    exact wpAny_pure ⟨rfl,rfl,_,hl'⟩
 . rintro ⟨r1,r2⟩ s' ⟨hr,rfl,_⟩
   simp only at hr
   subst hr
   exact wpAny_pure h
theorem IsT.keep{h h':Heap}{k:List Int}{a:Addr}(q:IsT prog w h k a)(e:∀b o,h.get? b=some o->h'.get? b=some o):IsT prog w h' k a:=by
 obtain⟨o,its,n,ho,r⟩:=q
 exact⟨o,its,n,e _ _ ho,r⟩
theorem oC{h h':Heap}(e:∀b o,h.get? b=some o->h'.get? b=some o):∀{ks:List (List Int)} {vs:List Value},aP (tupleKind (intKind prog w)) h ks vs->aP (tupleKind (intKind prog w)) h' ks vs
 | _,_,.nil=>.nil
 | _,_,.cons q r=>.cons (IsT.keep q e) (oC e r)
noncomputable def cF(prog:Program)(w:World):SK prog w (List (List Int)):={ eZ (intKind prog w) with
 noCl:=λha h=>aBe ha h
 byV:=λha h=>aFw ha h
 keepT:=λ{h h' k a} q e=>by
  obtain⟨o,its,n,ho,hc,hd,hi⟩:=q
  exact⟨o,its,n,e _ _ ho,hc,hd,oC e hi⟩ }
theorem qG:∀{ks:List Int} {vs:List Value},ItemsAre (intKind prog w) ks vs->IntsAre vs ks
 | _,_,.nil=>.nil
 | _,_,.cons h1 h2=>by
  obtain⟨t,rfl⟩:=aDW h1
  exact .cons _ _ (qG h2)
theorem aCU(hu:A.units+10<cLine){Q:Bool->Shared->Prop}{ks:List (List Int)}{vs:List Value}(hv:aP (tupleKind (intKind prog w)) s.heap ks vs):∀{js:List (List Int)} {us:List Value} (hu:aP (tupleKind (intKind prog w)) s.heap js us) (i:Nat) (fin:Bool),fin=decide (vs.length<us.length)->Q (lexN ks js) s->KatLex prog w A false fin Q (vs.zip us) i s:=by
 induction hv with
 | nil=>
  intro js us hu i fin hf hq
  cases hu with
  | nil=>rw[hf];exact hq
  | cons _ _=>rw[hf];exact hq
 | @cons k a ks vs h1 _ ih=>
  intro js us hus i fin hf hq
  cases hus with
  | nil=>rw[hf];exact hq
  | @cons j b js us h2 hus=>
   rw[List.zip_cons_cons]
   refine kat_cons ((tupleKind (intKind prog w)).eqBool (show A.units<cLine by omega) h1 h2 ?_)
   unfold lexN lexG at hq
   by_cases c:k=j
   . rw[if_pos c] at hq
     rw[decide_eq_true c]
     exact kat_yes (ih hus (i+1) fin (by rw[hf,lC,lC];simp) hq)
   . rw[if_neg c] at hq
     rw[decide_eq_false c]
     refine kat_no ?_
     obtain⟨o1,i1,n1,g1,g2,g3,g4⟩:=h1
     obtain⟨o2,i2,n2,f1,f2,f3,f4⟩:=h2
     refine kat_one _ _ (HT.lt_tupInts ⟨o1,g1,g2,n1,g3⟩ ⟨o2,f1,f2,n2,f3⟩ (qG g4) (qG f4) (by omega) ?_)
     rw[wU]
     exact hq
theorem aJI(hu:A.units+10<cLine){x y:List (List Int)×Addr}{Q:Bool->Shared->Prop}(hx:IsN prog w s.heap x.1 x.2)(hy:IsN prog w s.heap y.1 y.2)(h:Q (lexN x.1 y.1) s):wpAny (model prog w) A (keyLt' (tuples' false) (.ref x.2) (.ref y.2)) Q E s:=by
 obtain⟨o,its,n,ho,_,hd,hi⟩:=hx
 obtain⟨o',its',n',ho',_,hd',hi'⟩:=hy
 exact kat_lt ho hd ho' hd' (aCU hu hi hi' 0 _ (by rw[Array.length_toList,Array.length_toList]) h)
theorem aBf:∀{us:List (List (List Int)×Addr)},(∀x∈us,IsN prog w s.heap x.1 x.2)->(∀x∈us,x.1≠[])->∃fs:List Value,KatTups s.heap (us.map λx=>Value.ref x.2) fs/\fs.length=us.length/\∀v∈fs,∃k a,v=Value.ref a/\IsT prog w s.heap k a
 | [],_,_=>⟨[],KatTups.nil,rfl,λv hv=>by simp at hv⟩
 | x::us,h,hne=>by
  obtain⟨fs,h1,h2,h3⟩:=aBf (us:=us) (λy hy=>h y (List.mem_cons_of_mem _ hy)) (λy hy=>hne y (List.mem_cons_of_mem _ hy))
  obtain⟨o,its,n,ho,hc,hd,hi⟩:=h x List.mem_cons_self
  cases hk:x.1 with
  | nil=>exact absurd hk (hne x List.mem_cons_self)
  | cons k ks=>
   rw[hk] at hi
   cases q:its.toList with
   | nil=>rw[q] at hi;cases hi
   | cons v vs=>
    rw[q] at hi
    cases hi with
    | @cons _ a _ _ g1 g2=>
     refine⟨.ref a::fs,KatTups.cons ho hc hd (by rw[<-Array.getElem?_toList,q];rfl) h1,by rw[lC,lC,h2],λu hu=>?_⟩
     rcases List.mem_cons.mp hu with rfl|hu
     . exact⟨k,a,rfl,g1⟩
     . exact h3 u hu
theorem aFx{us:List (List (List Int)×Addr)}(h:∀x∈us,IsN prog w s.heap x.1 x.2)(hne:∀x∈us,x.1≠[])(hl:0<us.length){Q:SortKind->Shared->Prop}(hq:Q (tuples' false) s):wpAny (model prog w) A (keyKind' (us.map λx=>Value.ref x.2).toArray) Q E s:=by
 obtain⟨fs,h1,h2,h3⟩:=aBf h hne
 refine kat_kind (T:=.type "tuple") h1 (by omega) (λv hv=>?_) (by decide) hq
 obtain⟨k,a,rfl,o,its,n,ho,hc,_⟩:=h3 v hv
 have:Looks (model prog w) s.heap (typeOf (.ref a)) o.cls:=(Looks.ld ho).andThen .now
 rwa [hc] at this
abbrev KN:=List (List Int)×Addr
theorem wW:∀{us:List KN},(∀x∈us,IsN prog w s.heap x.1 x.2)->(us.map (·.1)).Nodup->(us.map (·.2)).Nodup
 | [],_,_=>List.nodup_nil
 | x::us,h,nd=>by
  rw[mC,List.nodup_cons] at nd ⊢
  refine⟨λq=>?_,wW (λy hy=>h y (List.mem_cons_of_mem _ hy)) nd.2⟩
  obtain⟨y,hy,e⟩:=List.mem_map.mp q
  have h1:=h y (List.mem_cons_of_mem _ hy)
  rw[e] at h1
  exact nd.1 (List.mem_map.mpr ⟨y,hy,h1.inj (h x List.mem_cons_self)⟩)
theorem jP(hu:A.units+10<cLine){a:Addr}{us:List KN}{n:Nat}{P:PySem.Fin->Shared->Prop}(ho:s.heap.get? a=some (seqObj "list" (rfs us).toArray n))(hK:∀x∈us,IsN prog w s.heap x.1 x.2)(hne:∀x∈us,x.1≠[])(nd:(us.map (·.1)).Nodup)(hz:us.length<=1000000)
 (h:∀us':List KN,us'.Perm us->(us'.Pairwise λx y=>lexN x.1 y.1=true)->P (.done (.ret .none)) { s with heap:=sortedHeap s.heap a (rfs us) (rfs us').toArray }) :
 wpAny (model prog w) A (Builtin.«list.sort» ⟨[.ref a],[]⟩) P E s:=by
 have kp:∀h6:Heap,(∀b o,b≠a->s.heap.get? b=some o->h6.get? b=some o)->∀x∈us,IsN prog w h6 x.1 x.2:=λh6 e x hx=>by
  obtain⟨o,its,n',g1,g2,g3,g4⟩:=hK x hx
  have tup:∀b o',s.heap.get? b=some o'->o'.cls=.type "tuple" -> b≠a:=λb o' q q' z=>by
   subst z
   rw[ho] at q
   cases q
   exact absurd (show Value.type "list" = Value.type "tuple" from q') (by decide)
  refine⟨o,its,n',e _ _ (tup _ _ g1 g2) g1,g2,g3,?_⟩
  clear g1 g2 g3 hx
  generalize its.toList=vs at g4
  generalize x.1=ks at g4
  induction g4 with
  | nil=>exact .nil
  | cons q _ ih=>
   obtain⟨o',its',n'',f1,f2,f3⟩:=q
   exact .cons ⟨o',its',n'',e _ _ (tup _ _ f1 f2) f1,f2,f3⟩ ih
 exact sP eN (tuples' false) ho (wW hK nd) nd hz (λh6 e hl Q q=>aFx (s:={ s with heap:=h6 }) (kp h6 e) hne hl q) (λh6 e x hx y hy Q q=>aJI (s:={ s with heap:=h6 }) hu (kp h6 e x hx) (kp h6 e y hy) q) h
theorem sQ{S:Addr}{us:List KN}{Q:Value->Shared->Prop}(hh:A.handled=none)(hu:A.units+20<cLine)(hS:bV (cF prog w) s.heap S us)(hK:∀x∈us,IsN prog w s.heap x.1 x.2)(hne:∀x∈us,x.1≠[])
 (h:∀(h':Heap) (tk:Nat) (L:Addr) (xs:List KN) (n:Nat),s.heap.objs.size<=L->(∀b o,s.heap.get? b=some o->h'.get? b=some o)->h'.get? L=some (seqObj "list" (rfs xs).toArray n)->(∀x∈xs,x∈us)->(∀y∈us,y.1∈xs.map (·.1))->(xs.Pairwise λx y=>lexN x.1 y.1=true)->Q (.ref L) { s with heap:=h',toks:=tk }) :
 wpAny (model prog w) A (call (.builtin "sorted") [.ref S]) Q E s:=by
 obtain⟨xs,m,ps,mv,ep,T,ho,r1,r2⟩:=hS
 refine Calls.call_function_entry kind_sorted plain_sorted entry_sorted (args_sorted1 _) ?_
 unfold Builtin.«sorted»
 refine wpAny_bind (m:=checkCount "sorted" 1 1 _) (wpAny_pure ?_)
 refine wpAny_bind (aAZ hh T ho λs' acc hk hs' hacc=>?_)
 obtain⟨hle,tk,h1,rfl⟩:=hs'
 obtain⟨ys,y1,y2⟩:=dL (f:=λx:KN=>((cF prog w).hash x.1,Value.ref x.2)) (iI w S ep (sen (cF prog w) xs)) (xs:=xs) (by unfold sen;rw[List.toList_toArray])
 have hacc':acc=rfs ys:=by rw[hacc,y2,List.map_map];rfl
 subst hacc'
 have hl:ys.length<=5000:=by rw[y1.length_eq,<-T.len];have:=T.lt;have:=T.m2.le;omega
 refine wpAny_bind (wpAny_newList ?_ (by rw[lM,sizeLine_eq];omega))
 have hoL:(h1.push (seqObj "list" (rfs ys).toArray 0)).get? h1.objs.size=some (seqObj "list" (rfs ys).toArray 0):=Heap.get?_push_size _ rfl
 have hY:∀x∈ys,x∈us:=λx hx=>r1 x (y1.mem_iff.mp hx)
 refine wpAny_bind (wpAny_holding (wpAny_call_entry (s:={ s with heap:=h1.push (seqObj "list" (rfs ys).toArray 0),toks:=tk }) slot_list_sort ⟨_,hoL,rfl⟩ entry_list_sort (jP (by show A.units+1+1+10<cLine;omega) hoL (λx hx=>(cF prog w).keepT (hK x (hY x hx)) λb o e=>Heap.get?_push_of_some _ (hk b o e)) (λx hx=>hne x (hY x hx)) ((y1.map _).nodup_iff.mpr T.nd) (by omega) λzs z1 z2=>⟨_,rfl,?_⟩) (args_list_sort _)))
 obtain⟨n,hL⟩:=sortedHeap_at (out:=(rfs zs).toArray) hoL
 refine wpAny_pure ⟨_,rfl,h _ _ h1.objs.size zs n (Nat.le_of_lt hle) (λb o q=>?_) hL (λx hx=>hY x (z1.mem_iff.mp hx)) (λy hy=>(z1.map _).mem_iff.mpr ((y1.map _).mem_iff.mpr (r2 y hy))) z2⟩
 have hb:b<h1.objs.size:=Heap.lt_size (hk b o q)
 rw[sortedHeap_old (Nat.ne_of_lt hb) (by rw[size_push'];exact Nat.lt_succ_of_lt hb)]
 exact Heap.get?_push_of_some _ (hk b o q)
end
set_option maxRecDepth 100000
set_option maxHeartbeats 4000000
section
variable {prog:Program} {w:World} {A:Around} {E:Value->Shared->Prop} {s:Shared} {it d:Addr} {i ep:Nat} {o:Obj} {es:Array DictEntry}
theorem aHA{Q:Value->Shared->Prop}(hd:(d==sysModules)=false)(ho:s.heap.get? d=some o)(hc:o.ExactDict)(hdat:o.data=.dict es ep)
 (hQ:Q (.ref s.heap.objs.size) { s with heap:=s.heap.push { cls:=.type "dict_keyiterator",data:=.fields #[.ref d,.int 0 0,.int es.size 0,.int ep 0] } }):wpAny (model prog w) A (pyIter (.ref d)) Q E s:=by
 have hT:s.TypeIs (.ref d) "dict" := ⟨o,ho,hc.1⟩
 refine wpAny_pyIter_slot hT PySem.F.slot_dict_iter (wpAny_call_entry PySem.F.slot_dict_iter hT PySem.F.entry_dict_iter ?_ (PySem.F.args_dict_iter_1 _))
 unfold Builtin.«dict.__iter__»
 refine wpAny_bind ?_
 unfold Builtin.Dict.dictSlotNone
 refine wpAny_bind (wpAny_notOrdered_dict hT ?_)
 show wpAny _ _ (pure (Value.ref d)) _ _ s
 refine wpAny_pure ?_
 show wpAny _ _ (Builtin.Dict.showsAll d >>= _) _ _ s
 unfold Builtin.Dict.showsAll
 rw[if_neg (by rw[hd];exact bN)]
 refine wpAny_bind (wpAny_pure (wpAny_bind (wpAny_dictEntries ho hdat (wpAny_bind (wpAny_dictEpoch ho hdat ?_)))))
 exact wpAny_bind (wpAny_newObj_type (wpAny_pure ⟨_,rfl, "dict_keyiterator",_,⟨_,Heap.get?_push_size _ rfl,rfl⟩,PySem.F.slot_dict_keyiterator_next.lookup,hQ⟩))
theorem aDX{Q:Option Value->Shared->Prop}(hh:A.handled=none)(hit:s.heap.IsKeyIter it d i es.size ep)(hod:s.heap.get? d=some o)(hdd:o.data=.dict es ep)
 (h1:∀e h',es[i]? = some e->h'.IsKeyIter it d (i+1) es.size ep->Heap.SameBut it s.heap h'->Q (some e.key) { s with heap:=h' })
 (h2:∀h',es.size<=i->Heap.ExtBut it s.heap h'->Q none { s with heap:=h' }):wpAny (model prog w) A (pyNext (.ref it)) Q E s:=by
 obtain⟨oi,ho,hc,hd⟩:=id hit
 unfold pyNext
 refine wpAny_bind (wpAny_attempt (wpAny_callSpecial?_slot (name:=Str.ofString "__next__") hit.typeIs PySem.F.slot_dict_keyiterator_next (wpAny_call_entry PySem.F.slot_dict_keyiterator_next hit.typeIs PySem.F.entry_dict_keyiterator_next ?_ (PySem.F.args_dict_keyiterator_next_1 _))))
 refine wpAny_bind (wpAny_pure (wpAny_bind (wpAny_bind ?_)))
 refine wpAny_bind (wpAny_typeNameOfWhole_keyiter hit.typeIs (wpAny_pure ?_))
 refine wpAny_bind (wpAny_fieldsOf ho hd ?_)
 simp only[show Builtin.Dict_items.ownsTuple "dict_keyiterator" = false by decide,bF,if_false]
 show wpAny _ _ (if (Value.ref d==Value.none)=true then _ else _) _ _ s
 rw[if_neg (show ¬ ((Value.ref d==Value.none)=true) from bN)]
 refine wpAny_bind (wpAny_pure (wpAny_bind (wpAny_dictEntries hod hdd ?_)))
 rw[if_neg (by simp)]
 refine wpAny_bind (wpAny_pure (wpAny_bind (wpAny_dictEpoch hod hdd ?_)))
 rw[if_neg (by simp)]
 refine wpAny_pure ?_
 rcases Nat.lt_or_ge i es.size with hlt|hge
 . simp only[show ¬ ((i:Int)<0) from by omega,if_false,Int.toNat_natCast,Array.getElem?_eq_getElem hlt]
   refine wpAny_bind (wpAny_bind (wpAny_typeNameOfWhole_keyiter hit.typeIs (wpAny_pure ?_)))
   refine wpAny_bind (wpAny_isOneOf_keyiter hit.typeIs ?_)
   show wpAny _ _ (setField (.ref it) 1 (rawInt ((i:Int)+1)) >>= _) _ _ s
   refine wpAny_bind (wpAny_setField ho hd (by simp) ?_)
   have hit':(s.heap.update it (Obj.mapFields (·.setIfInBounds 1 (rawInt ((i:Int)+1))))).IsKeyIter it d (i+1) es.size ep:=
    ⟨_,Heap.get?_update_self _ ho (Obj.isFreed_of_fields (Obj.data_mapFields hd _)),(Obj.cls_mapFields ..).trans hc,by rw[Obj.data_mapFields hd];simp[rawInt]⟩
   refine wpAny_bind (wpAny_holding ?_)
   refine wpAny_bind (wpAny_isOneOf_keyiter (s:={ s with heap:=s.heap.update it (Obj.mapFields (·.setIfInBounds 1 (rawInt ((i:Int)+1)))) }) hit'.typeIs ?_)
   show wpAny _ _ (pure es[i].key) _ _ _
   exact wpAny_pure (wpAny_pure ⟨_,rfl,wpAny_pure (h1 es[i] _ (Array.getElem?_eq_getElem hlt) hit' (Heap.SameBut.update ..))⟩)
 . simp only[show ¬ ((i:Int)<0) from by omega,if_false,Int.toNat_natCast,Array.getElem?_eq_none hge]
   refine wpAny_bind (wpAny_bind (wpAny_typeNameOfWhole_keyiter hit.typeIs (wpAny_pure ?_)))
   show wpAny _ _ (setField (.ref it) 0 .none >>= _) _ _ s
   refine wpAny_bind (wpAny_setField ho hd (by simp) ?_)
   show wpAny _ _ (newExc (.type "StopIteration") [] >>= _) _ _ _
   refine wpAny_bind ?_
   simp only[newExc,newTuple]
   refine wpAny_bind (wpAny_newObj_type ?_ (by size_fits))
   refine wpAny_bind (m:=firstArgMember _ _) (wpAny_of_eq (a:=Value.none) (by first|rfl|(simp only[firstArgMember];rfl)) ?_)
   refine wpAny_newObj_type ?_ (by size_fits)
   simp only[raiseNew]
   refine wpAny_bind (wpAny_handled ?_)
   rw[show A.in1.handled=none from hh]
   refine wpAny_bind (wpAny_pure (wpAny_throw ?_))
   refine wpAny_bind (wpAny_isInstance (T:= "StopIteration") (b:=true) ⟨_,Heap.get?_push_size _ rfl,rfl⟩ isSubtype_stop ?_)
   exact wpAny_pure (h2 _ hge (((Heap.SameBut.update ..).extBut.push _).push _))
theorem aFy(hh:A.handled=none)(I d:Addr)(hne:d≠I)(hdd:o.data=.dict es ep):Walks prog w A I [I,d] [I] es.size (λi v=>∃e,es[i]? = some e/\v=e.key) (λi h=>h.IsKeyIter I d i es.size ep/\h.get? d=some o) where
 sub:=λb hb=>by simp at hb;simp[hb]
 frame:=λ_ _ _ st hk=>⟨st.1.at λo e=>hk I (by simp) o e,hk d (by simp) o st.2⟩
 item:=λi s Q E hi st hQ=>aDX hh st.1 st.2 hdd (λe h' he hit' hs'=>hQ e.key h' s.toks ⟨e,he,rfl⟩ ⟨hit',by rw[hs'.2 d hne];exact st.2⟩ λb o hb e=>hs'.extBut b o (λh=>hb (by simp[h])) e) λh' z=>absurd hi (by omega)
 done:=λs Q E st hQ=>aDX hh st.1 st.2 hdd (λe h' he=>absurd (Array.getElem?_eq_some_iff.mp he).1 (Nat.lt_irrefl _)) λh' _ he'=>hQ h' s.toks λb o hb e=>he' b o (λh=>hb (by simp[h])) e
 self:=λ_ _ _ _ st hQ=>wpAny_pyIter_keyiter st.1 hQ
theorem aBg{R:Result->Shared->Prop}{S D:Addr}{c₀:Nat}{o:Obj}{es:Array DictEntry}{ep:Nat}(hh:A.handled=none)(hz:es.size<=5000)(hn:(D==sysModules)=false)(hSD:D≠S)(hS:s.heap.get? S=some (seqObj "list" #[] c₀))(g1:s.heap.get? D=some o)(g2:o.ExactDict)(g3:o.data=.dict es ep)
 (hR:∀h' tk c',(∀b o',b≠S->s.heap.get? b=some o'->h'.get? b=some o')->h'.get? S=some (seqObj "list" (es.map (·.key)) c')->R (.ok (.ret .none)) { s with heap:=h',toks:=tk }) :
 wpAny (model prog w) A.in1 (Builtin.List.listExtendWith (.ref S) (.ref D) .none)
  (λfin s'=>match fin with|.done f=>R (.ok f) s'|.again c'=>c'.quiet=true/\codeAny (model prog w) A c' R s') (λe s'=>R (.error e) s') s:=by
 have ty:∀{s':Shared},s'.heap.get? D=some o->s'.TypeIs (.ref D) "dict" := λq=>⟨_,q,g2.1⟩
 have hDL:D<s.heap.objs.size:=Heap.lt_size g1
 have hSL:S<s.heap.objs.size:=Heap.lt_size hS
 have h1:Builtin.List.listSameRef (.ref S) (.ref D)=false:=by
  simp only[Builtin.List.listSameRef,beq_eq_false_iff_ne]
  exact Ne.symm hSD
 unfold Builtin.List.listExtendWith
 refine wpAny_bind (wpAny_typeOf (ty g1) ?_)
 rw[if_neg (by rw[h1];decide)]
 refine wpAny_bind (aHA hn g1 g2 g3 ?_)
 generalize hI:({ cls:=Value.type "dict_keyiterator",data:=Data.fields #[Value.ref D,Value.int 0 0,Value.int (es.size:Int) 0,Value.int (ep:Int) 0] }:Obj)=oI
 refine wpAny_bind (wpAny_holding ?_)
 have ho2:(s.heap.push oI).get? D=some o:=Heap.get?_push_of_some _ g1
 have hT2:Shared.TypeIs { s with heap:=s.heap.push oI } (.ref D) "dict" := ty ho2
 unfold Builtin.List.listLengthHint
 refine wpAny_bind (wpAny_specialOf hT2 PySem.F.slot_dict_len.lookup ?_)
 generalize hid:("dict.__len__" : String)=id0
 wp_delta
 rw[show splitId id0=some ("dict", "__len__") from by subst hid;decide +kernel]
 subst hid
 refine wpAny_bind (wpAny_isInstance (b:=true) hT2 (by rw[isSubtype_type];kernel_rfl) ?_)
 rw[if_neg (by decide)]
 dsimp only
 rw[if_pos (by decide +kernel)]
 refine wpAny_bind (wpAny_typeOf hT2 ?_)
 refine wpAny_pure ?_
 rw[if_pos (by decide +kernel)]
 refine wpAny_bind (wpAny_rule ?_)
 unfold Builtin.List.listTouch
 have hL2:(s.heap.push oI).get? S=some (seqObj "list" #[] c₀):=Heap.get?_push_of_some _ hS
 refine wpAny_bind (wpAny_bind (listUpdate_at (f:=λx=>x.push Value.none) hL2 rfl ?_))
 have hL3:=get?_update_seq (c:= "list") (xs:=#[]) (n:=c₀) hL2 (λx=>x.push Value.none)
 refine listUpdate_at (f:=λx=>x.pop) hL3 rfl ?_
 have hL4:=get?_update_seq hL3 (λx=>x.pop)
 have hI2:(s.heap.push oI).get? s.heap.objs.size=some oI:=Heap.get?_push_size _ (by rw[<-hI];rfl)
 have keep:∀b o,b≠S->(s.heap.push oI).get? b=some o->(((s.heap.push oI).update S (Obj.mapSeq λx=>x.push Value.none)).update S (Obj.mapSeq λx=>x.pop)).get? b=some o:=λb o hb e=>by
  rw[Heap.get?_update_ne _ _ _ _ hb,Heap.get?_update_ne _ _ _ _ hb];exact e
 have hSI:D≠s.heap.objs.size:=Nat.ne_of_lt hDL
 have hSf:S∉[s.heap.objs.size,D]:=λhm=>by
  rcases List.mem_cons.mp hm with z|z
  . exact Nat.ne_of_lt hSL z
  . exact hSD (List.mem_singleton.mp z).symm
 refine wpAny_pure ⟨plainId_quiet F.plain_extend_loop _,codeAny_extend_loopS (aFy (A:=A.in1) hh s.heap.objs.size D hSI g3).toS (Nat.le_trans hz (by decide)) _ hSf _ es.size 0 _ #[] _ (Nat.sub_zero _) (Nat.zero_le _) ⟨⟨oI,keep _ _ (Ne.symm (Nat.ne_of_lt hSL)) hI2,by rw[<-hI],by rw[<-hI];rfl⟩,keep _ _ hSD ho2⟩ hL4 (ItemsOf.nil _) λs' acc' c' hm hS' hacc=>?_⟩
 have hal:acc'=es.map (·.key):=by
  have e:=nY (P:=λi v=>∃e,es[i]? = some e/\v=e.key) (od:=es.toList.map λe=>(e.hash,e.key)) (λi v ⟨e,he,hv⟩=>⟨_,by rw[List.getElem?_map,Array.getElem?_toList,he];rfl,hv⟩) hacc (by rw[lM,Array.length_toList])
  apply Array.toList_inj.mp
  rw[e,List.map_map,Array.toList_map];rfl
 obtain⟨h',g',d',tk',os'⟩:=s'
 have eg:g'=s.gens:=hm.gens
 have ed:d'=s.drawn:=hm.drawn
 have eo:os'=s.os:=hm.os
 subst eg;subst ed;subst eo
 refine hR h' tk' c' (λb o hb e=>?_) (by rw[<-hal];exact hS')
 have hb':b<s.heap.objs.size:=Heap.lt_size e
 refine hm.heap b o (λz=>?_) (keep b o hb (Heap.get?_push_of_some _ e))
 rcases List.mem_cons.mp z with z|z
 . exact hb z
 . exact Nat.ne_of_lt hb' (List.mem_singleton.mp z)
end
section
variable {prog:Program} {w:World} {A:Around} {E:Value->Shared->Prop} {s:Shared}
theorem yT{D:Addr}{o:Obj}{es:Array DictEntry}{ep:Nat}{Q:Value->Shared->Prop}(hh:A.handled=none)(hz:es.size<=5000)(hn:(D==sysModules)=false)(g1:s.heap.get? D=some o)(g2:o.ExactDict)(g3:o.data=.dict es ep)
 (hQ:∀h' tk c',(∀b o',s.heap.get? b=some o'->h'.get? b=some o')->h'.get? s.heap.objs.size=some (seqObj "list" (es.map (·.key)) c')->Q (.ref s.heap.objs.size) { s with heap:=h',toks:=tk }) :
 wpAny (model prog w) A (call (.type "list") [.ref D]) Q E s:=by
 have hne:D≠s.heap.objs.size:=λe=>Nat.lt_irrefl _ (e▸Heap.lt_size g1)
 refine callType_codes (Q₁:=λobj s₁=>obj=.ref s.heap.objs.size/\s₁={ s with heap:=s.heap.push { cls:=.type "list",data:=.seq #[] } }) F.called_list (F.typeCall_list_1 _) F.entry_list_init
  (code_list_new _ ⟨rfl,rfl⟩) λobj s₁ h₁=>?_
 obtain⟨rfl,rfl⟩:=h₁
 have hS:(s.heap.push { cls:=.type "list",data:=.seq #[] }).get? s.heap.objs.size=some { cls:=.type "list",data:=.seq #[] }:=Heap.get?_push_size _ rfl
 refine⟨⟨_,hS,rfl⟩,F.args_list_init_2 _ _,?_⟩
 refine wpAny_bind (listItems_at hS rfl ?_)
 refine wpAny_bind (listUpdate_at hS rfl ?_ (Nat.zero_le _) (Nat.zero_le _))
 refine wpAny_bind (wpAny_letGo ?_)
 have hS2:=get?_update_seq (c:= "list") (xs:=#[]) (n:=0) hS (λ_=>(#[]:Array Value))
 have kp:∀b o',b≠s.heap.objs.size->s.heap.get? b=some o'->((s.heap.push { cls:=.type "list",data:=.seq #[] }).update s.heap.objs.size (Obj.mapSeq λ_=>(#[]:Array Value))).get? b=some o':=λb o' hb e=>by
  rw[Heap.get?_update_ne _ _ _ _ hb];exact Heap.get?_push_of_some _ e
 refine aBg (A:=A.in1) (s:={ s with heap:=(s.heap.push { cls:=.type "list",data:=.seq #[] }).update s.heap.objs.size (Obj.mapSeq λ_=>(#[]:Array Value)) }) hh hz hn hne hS2 (kp D o hne g1) g2 g3 λh' tk c' k1 k2=>⟨rfl,hQ h' tk c' (λb o' e=>?_) k2⟩
 have hb:b≠s.heap.objs.size:=Nat.ne_of_lt (Heap.lt_size e)
 exact k1 b o' hb (kp b o' hb e)
theorem qH{l:Addr}{us:List KN}{n:Nat}{Q:Value->Shared->Prop}(hu:A.units+20<cLine)(ho:s.heap.get? l=some (seqObj "list" (rfs us).toArray n))(hK:∀x∈us,IsN prog w s.heap x.1 x.2)(hne:∀x∈us,x.1≠[])(nd:(us.map (·.1)).Nodup)(hz:us.length<=5000)
 (h:∀(h':Heap) (L:Addr) (xs:List KN) (n:Nat),s.heap.objs.size<=L->(∀b o,s.heap.get? b=some o->h'.get? b=some o)->h'.get? L=some (seqObj "list" (rfs xs).toArray n)->xs.Perm us->(xs.Pairwise λx y=>lexN x.1 y.1=true)->Q (.ref L) { s with heap:=h' }) :
 wpAny (model prog w) A (call (.builtin "sorted") [.ref l]) Q E s:=by
 refine Calls.call_function_entry kind_sorted plain_sorted entry_sorted (args_sorted1 _) ?_
 unfold Builtin.«sorted»
 refine wpAny_bind (m:=checkCount "sorted" 1 1 _) (wpAny_pure ?_)
 refine wpAny_bind (collect_list (vs:=rfs us) ⟨_,ho,rfl,n,rfl⟩ ?_)
 refine wpAny_bind (wpAny_newList ?_ (by rw[lM,sizeLine_eq];omega))
 generalize hh1:(s.heap.push (seqObj "list" #[] 0)).update s.heap.objs.size (Obj.mapSeq (·++(rfs us).toArray))=h1
 have hsz:h1.objs.size=s.heap.objs.size+1:=by
  rw[<-hh1,Heap.size_update,size_push']
 have hk:∀b o,s.heap.get? b=some o->h1.get? b=some o:=λb o e=>by
  rw[<-hh1,Heap.get?_update_ne _ _ _ _ (Nat.ne_of_lt (Heap.lt_size e))];exact Heap.get?_push_of_some _ e
 have hoL:(h1.push (seqObj "list" (rfs us).toArray 0)).get? h1.objs.size=some (seqObj "list" (rfs us).toArray 0):=Heap.get?_push_size _ rfl
 refine wpAny_bind (wpAny_holding (wpAny_call_entry (s:={ s with heap:=h1.push (seqObj "list" (rfs us).toArray 0) }) slot_list_sort ⟨_,hoL,rfl⟩ entry_list_sort (jP (by show A.units+1+1+10<cLine;omega) hoL (λx hx=>(cF prog w).keepT (hK x hx) λb o e=>Heap.get?_push_of_some _ (hk b o e)) hne nd (by omega) λzs z1 z2=>⟨_,rfl,?_⟩) (args_list_sort _)))
 obtain⟨n',hL⟩:=sortedHeap_at (out:=(rfs zs).toArray) hoL
 refine wpAny_pure ⟨_,rfl,h _ h1.objs.size zs n' (by omega) (λb o q=>?_) hL z1 z2⟩
 have hb:b<h1.objs.size:=Heap.lt_size (hk b o q)
 rw[sortedHeap_old (Nat.ne_of_lt hb) (by rw[size_push'];exact Nat.lt_succ_of_lt hb)]
 exact Heap.get?_push_of_some _ (hk b o q)
end
end L2
end
noncomputable section
set_option maxHeartbeats 4000000
namespace Hp
open PySem PySem.Spec PyProof.Rows L2
section
variable {X:Cx} {P:Pg} {Γ:Ct} {n:Nat} {RT Y old:Addr->Prop} {σ:Sg} {pos:Pos}
theorem aBh(hu:X.A.units+100<cLine):OpR X (compareOp .In) (λux uy H Q=>∃a b xs k,ux=.ref b/\uy=.ref a/\H a=some (bQ a xs)/\(∀x∈xs,aT X.K H x.1 x.2.1)/\aT X.K H k b/\Q (.bl (decide (k∈xs.map (·.1)))) H):=by
 intro pins s σ H ux uy v u Q I rx ry h
 obtain⟨a,b,xs,k,rfl,rfl,e,hk,kb,q⟩:=h
 cases rx
 cases ry
 obtain⟨h1,h2,vs,hp,h3⟩:=hC I e hk
 refine wpAny_in_heap (knd:=eZ (intKind X.prog X.w)) (show X.A.in1.units+8<cLine by show X.A.units+1+8<cLine;omega) (eH I kb) h1 h3 ?_
 rw[pL hp]
 exact⟨.bl _,H,I.tok _,rfl,q⟩
theorem aBi{a:E}{j:Nat}{σV:L2.St}{H:Hp}{α:Type}{mk:Bool->α}{p:α->Prop}{Q:V->Hp->Prop}(S:Sx X.K RT Y old σ σV H)(h:RE (ev P (call P n) σ a >>= λx=>(match σ[j]?,dE x.d with|some (.dct ks),some k=>R.ok (mk (decide (k∈ks.map (·.1))))|_,_=>.bad)) p)
 (f:∀b H',Tk X.K H'->aH H H'->p (mk b)->Q (.bl b) H'):tOp (λux uy H Q=>∃a b xs k,ux=.ref b/\uy=.ref a/\H a=some (bQ a xs)/\(∀x∈xs,aT X.K H x.1 x.2.1)/\aT X.K H k b/\Q (.bl (decide (k∈xs.map (·.1)))) H) (WE X P n RT Y old σ a) (aBU j) σV H Q:=by
 refine wE.one S (RE.bind' h) λx u H1 hx t1 S1 r1=>?_
 split at hx
 . rename_i ks k e1 e2
   obtain⟨b,rfl,hk⟩:=lG e2 (r1.rv S)
   obtain⟨ad,xs,g1,g2,g3,g4,g5,g6⟩:=S1.dx.at' j ks e1
   refine⟨.ref ad,g1,ad,b,xs,k,rfl,rfl,g2,g6,hk,?_⟩
   rw[vV g5]
   exact f _ H1 t1 r1.1 hx
 . exact hx.elim
theorem aHB(M:Mc X P Γ n){a:E}{j:Nat}{ea:Expr}{x:Str}{p:Pos}(hx:aW Γ j x=true)(ha:PE X ea (WE X P n RT Y old σ a)):PE X (.Compare ea [.In] [.Name x p] pos) (WE X P n RT Y old σ (.din a j)):=by
 unfold aW at hx
 simp only[bA] at hx
 obtain⟨⟨h1,h2⟩,h3⟩:=hx
 exact(vE (aBh (by have:=M.units;omega)) ha (gJ (by rw[M.N];exact eq_of_beq h1) (M.vis h2) (aN h3) (cI h3)) (iB rfl)).imp λσV H Q t ⟨S,h⟩=>aBi (mk:=λb=>Vl.cl (.bl b)) S h λb H' t s w=>λt'=>w _ _ t' (Ro.cl s rfl)
theorem aHC(M:Mc X P Γ n){a:E}{j:Nat}{ea:Expr}{x:Str}{p:Pos}(hx:aW Γ j x=true)(ha:PE X ea (WE X P n RT Y old σ a)):PT X (.Compare ea [.In] [.Name x p] pos) (WT X P n RT Y old σ (.din a j)):=by
 unfold aW at hx
 simp only[bA] at hx
 obtain⟨⟨h1,h2⟩,h3⟩:=hx
 exact(vF (aBh (by have:=M.units;omega)) ha (gJ (by rw[M.N];exact eq_of_beq h1) (M.vis h2) (aN h3) (cI h3)) (iB rfl)).imp λσV H Q t ⟨S,h⟩=>aBi (mk:=λb=>b) S h λb H' t s w=>⟨b,rfl,λt'=>w _ t' s⟩
noncomputable def aDY(K:PySem.W.Frag)(a:Addr)(xs:List NE)(vs:List V)(H:L2.Hp)(Q:VK):Prop:=∃(b:Addr) (k:NK) (v:V),vs=[.ref b,v]/\H a=some (bQ a xs)/\(∀x∈xs,aT K H x.1 x.2.1)/\aT K H k b/\(∀v',atN xs k=some v'->Q v' H)/\(atN xs k=none->Q v H)
theorem oD{k:NK}:∀{xs:List NE} {vs:List (NK×Addr×Value)},Paired gB xs vs->atKey vs k=none->atN xs k=none
 | _,_,.nil,_=>rfl
 | x::xs,e::vs,.cons h t,q=>by
  unfold atKey at q
  unfold atN
  rw[List.find?_cons] at q ⊢
  by_cases hk:x.1=k
  . rw[show decide (e.1=k)=true from decide_eq_true (h.1.trans hk)] at q;cases q
  . rw[show decide (e.1=k)=false from decide_eq_false (by rw[h.1];exact hk)] at q
    rw[show decide (x.1=k)=false from decide_eq_false hk]
    exact oD t q
theorem oE{k:NK}{p:Addr×Value}:∀{xs:List NE} {vs:List (NK×Addr×Value)},Paired gB xs vs->atKey vs k=some p->∃v,atN xs k=some v/\aR v p.2
 | _,_,.nil,q=>by cases q
 | x::xs,e::vs,.cons h t,q=>by
  unfold atKey at q
  unfold atN
  rw[List.find?_cons] at q ⊢
  by_cases hk:x.1=k
  . rw[show decide (e.1=k)=true from decide_eq_true (h.1.trans hk)] at q
    rw[show decide (x.1=k)=true from decide_eq_true hk]
    cases q
    exact⟨_,rfl,h.2.2⟩
  . rw[show decide (e.1=k)=false from decide_eq_false (by rw[h.1];exact hk)] at q
    rw[show decide (x.1=k)=false from decide_eq_false hk]
    exact oE t q
theorem yU{pins:List (Addr×Obj)}{σ:L2.St}{H:L2.Hp}{s:Shared}{a:Addr}{xs:List NE}{vs:List V}{us:List Value}{Q:VK}(hu:X.A.units+100<cLine)(I:L2.Inv X pins σ H s)(r:aI vs us)(h:aDY X.K a xs vs H Q) :
 wpAny (model X.prog X.w) X.A (PySem.call (.builtin "dict.get") (.ref a::us)) (EP X pins σ Q) X.xe s:=by
 obtain⟨b,k,v,rfl,e,hk,kb,h1,h2⟩:=h
 cases r with
 | cons r1 r2=>
  cases r2 with
  | cons r2 r3=>
   cases r3
   cases r1
   rename_i u
   obtain⟨g1,g2,ws,hp,g3⟩:=hC I e hk
   refine call_meetsIn PySem.F.slot_dict_get g3.typeIs PySem.F.entry_dict_get (PySem.F.args_dict_get_3 _ _ _) (meetsH_dict_get_default (eZ (intKind X.prog X.w)) a b g1 u) ⟨show X.A.in1.units+8<cLine by show X.A.units+1+8<cLine;omega,k,ws,eH I kb,g3,?_⟩
   cases q:atKey ws k with
   | none=>exact⟨v,H,I.tok _,r2,h2 (oD hp q)⟩
   | some p=>
    obtain⟨v',q1,rv⟩:=oE hp q
    exact⟨v',H,I.tok _,rv,h1 v' q1⟩
theorem aCV{o e:Expr}{es:List Expr}{to:TE}{t:TA}{apos cpos:Pos}(hu:X.A.units+100<cLine)(ho:PE X o to)(ha:PA X (e::es) t)
 (hbase:attributeBase o "get" X.env (eval o X.env)=eval o X.env)
 (hfew:((backTo cpos (starEach (e::es) X.env)).all (λx=>!x.1)&&(backToKw cpos (keywordEach [] X.env)).all (λx=>x.1.isSome)
  && decide ((e::es).length+([]:List Keyword).length+(if ([]:List Keyword).isEmpty then 0 else 1)<30))=true)
 (hline:(apos.endLine==cpos.line)=true) (hs:starEach (e::es) X.env=(false,eval e X.env)::starEach es X.env) (hplain:(backTo cpos (starEach es X.env)).any (·.1)=false) :
 PE X (.Call (.Attribute o "get" apos) (e::es) [] cpos) (λσ H Q=>to σ H λx H1=>∃a xs,x=.ref a/\H1 a=some (bQ a xs)/\(∀x∈xs,aT X.K H1 x.1 x.2.1)/\t σ H1 λvs H2=>aDY X.K a xs vs H2 Q):=by
 intro pins s σ H Q I h
 refine wpAny_Call_method_late hbase hfew hline rfl (thn (ho pins s σ H _ I h) λv s1 ⟨x,H1,I1,r1,a,xs,e1,e2,e3,q1⟩=>?_)
 subst e1
 obtain rfl:v=Value.ref a:=r1
 obtain⟨g1,g2,ws,hp,g3⟩:=hC I1 e2 e3
 refine⟨"dict", "dict.get",PySem.F.plainAttrs_dict,PySem.F.slot_dict_get,PySem.F.type_dict_get,g3.typeIs,λb q=>?_,?_⟩
 . cases q
   obtain⟨ob,_,_,h1,h2,_⟩:=g3
   exact⟨ob,h1,h2.2.1⟩
 have hA:=ha cpos pins s1 σ H1 _ I1 q1
 rw[hs] at hA ⊢
 refine Calls.callWith_builtin (by show(false||(backTo cpos (starEach es X.env)).any (·.1))=false;rw[hplain] <;> rfl) (Calls.evalArgs_plain ?_)
 exact thn hA λus s2 ⟨vs,H2,I2,r2,q2⟩=>yU hu I2 r2 q2
theorem jH{k:NK}:∀{xs:List NE} {ks:List (NK×D)},xs.map pj=ks.map kV->atN xs k=(bY ks k).map dV
 | [],[],_=>rfl
 | [],_::_,e=>by cases e
 | _::_,[],e=>by cases e
 | x::xs,y::ks,e=>by
  rw[mC,mC] at e
  have e1:pj x=kV y:=(List.cons.inj e).1
  have k1:x.1=y.1:=congrArg Prod.fst e1
  have k2:x.2.2=dV y.2:=congrArg Prod.snd e1
  unfold bY atN
  rw[List.find?_cons,List.find?_cons]
  by_cases hk:y.1=k
  . rw[show decide (y.1=k)=true from decide_eq_true hk,show decide (x.1=k)=true from decide_eq_true (k1.trans hk)]
    exact congrArg some k2
  . rw[show decide (y.1=k)=false from decide_eq_false hk,show decide (x.1=k)=false from decide_eq_false (by rw[k1];exact hk)]
    exact jH (List.cons.inj e).2
theorem aHD(M:Mc X P Γ n){a:E}{j:Nat}{d:D}{m x:Str}{p ap:Pos}{ea ed:Expr}(hm:m=("get" : Str))(hx:aW Γ j x=true)(hl:(ap.endLine==pos.line)=true)
 (ha:PE X ea (WE X P n RT Y old σ a)) (hd:PE X ed (WE X P n RT Y old σ (.c d))) (hp:aQ ea=true) (hp2:aQ ed=true:=by rfl):PE X (.Call (.Attribute (.Name x p) m ap) [ea,ed] [] pos) (WE X P n RT Y old σ (.dgd j a d)):=by
 subst hm
 unfold aW at hx
 simp only[bA] at hx
 obtain⟨⟨h1,h2⟩,h3⟩:=hx
 refine(aCV (by have:=M.units;omega) (gJ (by rw[M.N];exact eq_of_beq h1) (M.vis h2) (aN h3) (cI h3)) (eF ha (eF hd iT (aB hp2)) (aB hp)) rfl ?_ hl (aB hp) (cZ (by rw[List.all_cons,hp2];rfl))).imp λσV H Q t ⟨S,h⟩=>?_
 . rw[aB hp,aB hp2];rfl
 have h:=RE.bind' (show RE (ev P (call P n) σ a >>= λx=>(match σ[j]?,dE x.d with|some (.dct ks),some k=>R.iff (fA d) (match bY ks k with|some v=>R.iff (fA v) (.ok (Vl.cl v))|none=>.ok (Vl.cl d))|_,_=>.bad)) _ from h)
 obtain⟨kv,ek,h⟩:=h.eq
 split at h
 . rename_i ks k e1 e2
   obtain⟨hi,h⟩:=h.iff
   obtain⟨ad,xs,g1,g2,g3,g4,g5,g6⟩:=S.dx.at' j ks e1
   refine⟨.ref ad,g1,ad,xs,rfl,g2,g6,S,?_⟩
   rw[ek]
   intro uk H2 t2 r2
   have hs:=r2.1
   obtain⟨b,rfl,hb⟩:=lG e2 (r2.rv S)
   refine wE.one (p:=λx=>x=.cl d) (S.grow hs t2) rfl λw u H3 hw t3 S3 r3=>?_
   subst hw
   have hu:u=dV d:=by
    have z:=r3.rv (S.grow hs t2)
    cases d <;> first|exact z|cases hi
   subst hu
   have s3:=hs.trans r3.1
   refine⟨b,k,dV d,rfl,s3 _ _ g2,λx hx=>aT.imp (λ_ _ r=>aH.seqT s3 r) (g6 x hx),aT.imp (λ_ _ r=>aH.seqT r3.1 r) hb,λv' q=>?_,λq=>?_⟩
   . rw[jH g5] at q
     cases z:bY ks k with
     | none=>rw[z] at q;cases q
     | some v0=>
      rw[z] at q h
      cases q
      obtain⟨c,h⟩:=h.iff
      exact λt'=>h _ _ t' (Ro.cl s3 (vW c))
   . rw[jH g5] at q
     cases z:bY ks k with
     | some v0=>rw[z] at q;cases q
     | none=>
      rw[z] at h
      exact λt'=>h _ _ t' (Ro.cl s3 (vW hi))
 . exact h.elim
end
theorem gP{α:Type}{lt:α->α->Bool}(L:LO lt):∀{as bs:List α},as.Pairwise (lt · ·=true)->bs.Pairwise (lt · ·=true)->(∀x,x∈as↔x∈bs)->as=bs
 | [],[],_,_,_=>rfl
 | [],b::bs,_,_,h=>absurd ((h b).mpr List.mem_cons_self) (by simp)
 | a::as,[],_,_,h=>absurd ((h a).mp List.mem_cons_self) (by simp)
 | a::as,b::bs,ha,hb,h=>by
  have ha':=List.pairwise_cons.mp ha
  have hb':=List.pairwise_cons.mp hb
  have e:a=b:=by
   rcases List.mem_cons.mp ((h a).mp List.mem_cons_self) with q|q
   . exact q
   . rcases List.mem_cons.mp ((h b).mpr List.mem_cons_self) with r|r
     . exact r.symm
     . have h1:=hb'.1 a q
       rw[L.as (ha'.1 b r)] at h1
       cases h1
  subst e
  rw[gP L ha'.2 hb'.2 λx=>?_]
  constructor
  . intro q
    rcases List.mem_cons.mp ((h x).mp (List.mem_cons_of_mem _ q)) with rfl|r
    . have h1:=ha'.1 _ q
      rw[L.ir] at h1;cases h1
    . exact r
  . intro q
    rcases List.mem_cons.mp ((h x).mpr (List.mem_cons_of_mem _ q)) with rfl|r
    . have h1:=hb'.1 _ q
      rw[L.ir] at h1;cases h1
    . exact r
theorem insN_mem{k x:NK}:∀{ks:List NK},x∈nE k ks↔x=k\/x∈ks
 | []=>by simp[nE]
 | y::ys=>by
  unfold nE
  split
  . simp
  . split
    . rename_i e
      subst e
      simp
    . rw[List.mem_cons,insN_mem (ks:=ys),List.mem_cons]
      constructor
      . rintro (z|z|z)
        . exact .inr (.inl z)
        . exact .inl z
        . exact .inr (.inr z)
      . rintro (z|z|z)
        . exact .inr (.inl z)
        . exact .inl z
        . exact .inr (.inr z)
theorem oF{k:NK}:∀{ks:List NK},ks.Pairwise (lexN · ·=true)->(nE k ks).Pairwise (lexN · ·=true)
 | [],_=>List.pairwise_singleton _ _
 | y::ys,h=>by
  obtain⟨h1,h2⟩:=List.pairwise_cons.mp h
  unfold nE
  split
  . rename_i c
    exact List.pairwise_cons.mpr ⟨λz hz=>by
     rcases List.mem_cons.mp hz with rfl|hz
     . exact c
     . exact eN.tr c (h1 z hz),h⟩
  . rename_i c
    split
    . exact h
    . rename_i c2
      refine List.pairwise_cons.mpr ⟨λz hz=>?_,oF h2⟩
      rcases insN_mem.mp hz with rfl|hz
      . exact eN.tot c2 (by simpa using c)
      . exact h1 z hz
theorem dM{x:NK}:∀{ks:List NK},x∈ssN ks↔x∈ks
 | []=>by simp[ssN]
 | k::ks=>by
  show x∈nE k (ssN ks)↔_
  rw[insN_mem,dM (ks:=ks),List.mem_cons]
theorem fI:∀ks:List NK,(ssN ks).Pairwise (lexN · ·=true)
 | []=>.nil
 | k::ks=>oF (fI ks)
theorem qJ{ks js:List NK}(h1:js.Pairwise (lexN · ·=true))(h2:∀x,x∈js↔x∈ks):js=ssN ks:=gP eN h1 (fI ks) λx=>by rw[h2,dM]
theorem lY:∀us:List KN,aI (us.map λx=>V.ref x.2) (us.map λx=>Value.ref x.2)
 | []=>.nil
 | _::us=>.cons rfl (lY us)
theorem mB:∀{us:List KN} {vs:List Value},aI (us.map λx=>V.ref x.2) vs->vs=us.map λx=>Value.ref x.2
 | [],_,h=>by cases h;rfl
 | x::us,_,h=>by
  rw[mC] at h
  cases h with
  | cons r t=>cases r;rw[mC,mB t]
section
variable {K:Fg} {H:Hp} {ex:Addr->Prop}
theorem mD:∀{ds:List D} {ks:List NK} {xs:List V},dI ds=some ks->Reps K H ex ds xs->∃us:List KN,us.map (·.1)=ks/\xs=us.map (λx=>V.ref x.2)/\∀x∈us,aT K H x.1 x.2
 | [],ks,xs,h,r=>by cases h;exact⟨[],rfl,r,λx hx=>by cases hx⟩
 | d::ds,ks,xs,h,r=>by
  obtain⟨x,r',e,h1,h2⟩:=r
  subst e
  unfold dI at h
  split at h
  . rename_i k js e1 e2
    cases h
    obtain⟨us,u1,rfl,u3⟩:=mD e2 h2
    obtain⟨b,rfl,hb⟩:=lG e1 h1
    exact⟨(k,b)::us,by rw[mC,u1],rfl,λy hy=>by
     rcases List.mem_cons.mp hy with rfl|hy
     . exact hb
     . exact u3 y hy⟩
  . cases h
theorem oG:∀is:List Int,Reps K H ex (is.map D.int) (is.map V.int)
 | []=>.nil
 | _::is=>.cons rfl (oG is)
theorem oH:∀{k:NK} {bs:List Addr},Paired (λis c=>SqT K H c (is.map V.int)) k bs->Reps K H ex (k.map λt=>D.tup (t.map .int)) (bs.map V.ref)
 | _,_,.nil=>.nil
 | _,_,.cons h t=>.cons ⟨_,_,rfl,h,oG _⟩ (oH t)
theorem aCW{k:NK}{b:Addr}(h:aT K H k b):Rep K H ex (aA k) (.ref b):=by
 obtain⟨bs,q,p⟩:=h
 exact⟨b,_,rfl,q,oH p⟩
theorem mE:∀{us:List KN},(∀x∈us,aT K H x.1 x.2)->Reps K H ex ((us.map (·.1)).map aA) (us.map λx=>V.ref x.2)
 | [],_=>.nil
 | x::us,h=>.cons (aCW (h x List.mem_cons_self)) (mE λy hy=>h y (List.mem_cons_of_mem _ hy))
theorem oJ:∀{xs:List NE} {vs:List (NK×Addr×Value)},Paired gB xs vs->vs.map (λe=>Value.ref e.2.1)=xs.map λx=>Value.ref x.2.1
 | _,_,.nil=>rfl
 | _,_,.cons h t=>by rw[mC,mC,oJ t,h.2.1]
theorem uU{ks:List NK}(h:neN ks=true):∀k∈ks,k≠[]:=λk hk z=>by
 have:=List.all_eq_true.mp h k hk
 rw[z] at this
 cases this
end
section
variable {X:Cx} {P:Pg} {Γ:Ct} {n:Nat} {RT Y old:Addr->Prop} {σ:Sg} {pos:Pos}
theorem oK{pins:List (Addr×Obj)}{σV:L2.St}{H H1:Hp}{s:Shared}{h2:Heap}{tk2:Nat}{L:Addr}{ys:List KN}{m:Nat}{Q:VK}(I2:L2.Inv X pins σV H1 s)(sm:aH H H1)(hL:s.heap.objs.size<=L)(hk2:∀b o,s.heap.get? b=some o->h2.get? b=some o)(hoL:h2.get? L=some (seqObj "list" (rfs ys).toArray m))(hl:ys.length<=5000)(hK:∀y∈ys,aT X.K H1 y.1 y.2)
 (h:Wn X RT Y old σ σV H Q (⟨.lst ((ys.map (·.1)).map aA),true,false,[]⟩:Vl)):EP X pins σV Q (.ref L) { s with heap:=h2,toks:=tk2 }:=by
 have hn:H1 L=none:=I2.hok.fresh hL
 have I3:L2.Inv X pins σV (upd H1 L (.lst (ys.map λx=>V.ref x.2))) { s with heap:=h2,toks:=tk2 }:=I2.laid hk2 hL ⟨by rw[lM,sizeLine_eq];omega,rfs ys,m,lY ys,hoL⟩
 have s3:aH H1 (upd H1 L (.lst (ys.map λx=>V.ref x.2))):=aH.new hn
 refine⟨.ref L,_,I3,rfl,?_⟩
 exact h _ _ I3.tk ⟨sm.trans s3,by rw[if_pos rfl];exact⟨L,_,_,rfl,rfl,sm.free hn,bD,mE λy hy=>aT.imp (λ_ _ r=>aH.seqT s3 r) (hK y hy)⟩⟩
theorem aFz(M:Mc X P Γ n){j:Nat}{x f g:Str}{pf pg px p2:Pos}(hf:f=("sorted" : Str))(hg:cC Γ f=true)(hf2:g=("list" : Str))(hg2:cC Γ g=true)(hx:aW Γ j x=true) :
 PE X (.Call (.Name f pf) [.Call (.Name g pg) [.Name x px] [] p2] [] pos) (WE X P n RT Y old σ (.srtD j)):=by
 subst hf hf2
 have hu:=M.units
 unfold aW at hx
 simp only[bA] at hx
 obtain⟨⟨x1,x2⟩,x3⟩:=hx
 intro pins s σV H Q I hw
 obtain⟨S,h⟩:=hw
 have h:=(show RE (match σ[j]? with|some (.dct ks)=>R.iff (neN (ks.map (·.1))&&decide (ks.length<=700)) (R.ok (⟨.lst ((ssN (ks.map (·.1))).map aA),true,false,[]⟩:Vl))|_=>.bad) _ from h)
 split at h
 . rename_i ks e1
   obtain⟨hc,h⟩:=h.iff
   rw[bA,decide_eq_true_eq] at hc
   obtain⟨hne,h700⟩:=hc
   obtain⟨ad,xs,g1,g2,g3,g4,g5,g6⟩:=S.dx.at' j ks e1
   have hlen:xs.length=ks.length:=by have:=congrArg List.length g5;rwa [lM,lM] at this
   refine wpAny_Call_Name_kw (dP I (M.gl hg) (M.md.blt _ (by decide +kernel)) boot_sorted ?_ (by decide +kernel) (by decide +kernel))
   refine PyProof.Rows.callWith_builtin1 ?_ (aB (e:=.Call (.Name "list" pg) [.Name x px] [] p2) (es:=[]) rfl) rfl
   rw[aB (e:=.Call (.Name "list" pg) [.Name x px] [] p2) (es:=[]) rfl]
   show wpAny _ _ (spliced ((false,eval (.Call (.Name "list" pg) [.Name x px] [] p2) X.env)::backTo pos (starEach [] X.env))) _ _ s
   refine Calls.spliced_cons (wpAny_Call_Name_kw (dP I (M.gl hg2) (M.md.blt _ (by decide +kernel)) (show bootBuiltins "list" = some (.type "list") by kernel_rfl) ?_ (by decide +kernel) (by decide +kernel)))
   refine PyProof.Rows.callWith_type1 (thn (eF (es:=[]) (gJ (by rw[M.N];exact eq_of_beq x1) (M.vis x2) (aN x3) (cI x3)) iT rfl p2 pins s σV H (λus H1=>us=[.ref ad]/\H1=H) I ⟨.ref ad,g1,rfl,rfl⟩) λus s1 ⟨vs,H1,I1,r1,e2,e3⟩=>?_) rfl rfl
   subst e2 e3
   obtain⟨u',rfl,ru⟩:=r1.one
   cases ru
   obtain⟨d1,d2,vs,hp,o,es,ep,d3,d4,d5,d6,d7,d8⟩:=hC I1 g2 g6
   have hes:es.size=xs.length:=by rw[<-Array.length_toList,d6,lM,<-(Paired.length hp)]
   refine yT (I1.ok.hd M.calm) (by omega) d1 d3 d4 d5 λh' tk c' hk' hL'=>?_
   have I2:L2.Inv X pins σV H1 { s1 with heap:=h',toks:=tk }:=I1.kept hk'
   refine Calls.spliced_nil ?_
   obtain⟨us,u1,u2,u3⟩:∃us:List KN,us.map (·.1)=xs.map (·.1)/\(es.map (·.key))=(rfs us).toArray/\∀x∈us,aT X.K H1 x.1 x.2:=by
    refine⟨xs.map λx=>(x.1,x.2.1),by rw[List.map_map];rfl,?_,λx hx=>?_⟩
    . apply Array.toList_inj.mp
      rw[Array.toList_map,d6,List.map_map,List.toList_toArray]
      unfold rfs
      rw[List.map_map]
      exact oJ hp
    . obtain⟨y,hy,rfl⟩:=List.mem_map.mp hx
      exact g6 y hy
   rw[u2] at hL'
   have hks:us.map (·.1)=ks.map (·.1):=u1.trans (vV g5)
   have hul:us.length=ks.length:=by have:=congrArg List.length hks;rwa [lM,lM] at this
   have nd:(us.map (·.1)).Nodup:=by rw[u1];exact(fR hp)▸d8
   refine qH (s:={ s1 with heap:=h',toks:=tk }) (by omega) hL' (λx hx=>eH I2 (u3 x hx)) (λx hx=>uU hne x.1 (by rw[<-hks];exact List.mem_map.mpr ⟨x,hx,rfl⟩)) nd (by omega) λh2 L ys m hL hk2 hoL y1 y2=>?_
   have e4:ys.map (·.1)=ssN (ks.map (·.1)):=qJ (List.pairwise_map.mpr y2) λz=>by rw[<-hks];exact(y1.map _).mem_iff
   rw[<-e4] at h
   exact oK I2 (aH.refl H1) hL hk2 hoL (by rw[y1.length_eq];omega) (λy hy=>u3 y (y1.mem_iff.mp hy)) h
 . exact h.elim
theorem aBj(M:Mc X P Γ n){ea:Expr}{g:Str}{pg p2:Pos}(hf2:g=("set" : Str))(hg2:cC Γ g=true){a:E}(ha:PE X ea (WE X P n RT Y old σ a))(hp:aQ ea=true){pins:List (Addr×Obj)}{s:Shared}{σV:L2.St}{H:Hp}(I:L2.Inv X pins σV H s)(S:Sx X.K RT Y old σ σV H)
 {x:Vl} (ex:ev P (call P n) σ a=.ok x) {ds:List D} (hd:x.d=.lst ds) {ks:List NK} (hk:dI ds=some ks) (h7:(ssN ks).length<=700) {Q:Value->Shared->Prop}
 (h:∀s1 H1 us (h':Heap) (tk:Nat),L2.Inv X pins σV H1 s1->aH H H1->us.map (·.1)=ks->(∀x∈us,aT X.K H1 x.1 x.2)->bV (cF X.prog X.w) h' s1.heap.objs.size us->(∀b o,s1.heap.get? b=some o->h'.get? b=some o)->Tk X.K H1->Q (.ref s1.heap.objs.size) { s1 with heap:=h',toks:=tk }) :
 wpAny (model X.prog X.w) X.A (eval (.Call (.Name g pg) [ea] [] p2) X.env) Q X.xe s:=by
 subst hf2
 have hu:=M.units
 refine wpAny_Call_Name_kw (dP I (M.gl hg2) (M.md.blt _ (by decide +kernel)) (show bootBuiltins "set" = some (.type "set") by kernel_rfl) ?_ (by decide +kernel) (by decide +kernel))
 refine PyProof.Rows.callWith_type1 (thn (eF (es:=[]) ha iT (aB hp) p2 pins s σV H (λus H1=>∃u,us=[u]/\Tk X.K H1/\Ro X.K RT Y old σ σV H H1 x u) I ⟨S,?_⟩) λus s1 ⟨vs,H1,I1,r1,u,e1,t1,ro⟩=>?_) (aB hp) rfl
 . rw[ex]
   intro u H1 t1 ro
   exact⟨u,rfl,t1,ro⟩
 . subst e1
   obtain⟨u',rfl,ru⟩:=r1.one
   obtain⟨b,xs,rfl,hS,_,rr⟩:=(ro.rv S).lst hd
   cases ru
   obtain⟨its,r2,p,_⟩:=I1.list hS
   obtain⟨us,u1,rfl,u3⟩:=mD hk rr
   refine yR (knd:=cF X.prog X.w) (us:=us) (I1.ok.hd M.calm) (λA' hA=>show A'.units+8<cLine by omega) p.isList (by rw[List.toList_toArray];exact mB r2) (λx hx=>eH I1 (u3 x hx)) (ssN ks) h7 (λx hx=>dM.mpr (by rw[<-u1];exact List.mem_map.mpr ⟨x,hx,rfl⟩)) λh' tk hset hkeep=>?_
   exact h s1 H1 us h' tk I1 ro.1 u1 u3 hset (λb o e=>hkeep b o (Heap.lt_size e) e) t1
theorem aHE(M:Mc X P Γ n){o:Operator}{a b:E}{ea eb:Expr}{f g1 g2:Str}{pf p1 p2 p3 p4 p5:Pos}(hf:f=("sorted" : Str))(hg:cC Γ f=true)(hf1:g1=("set" : Str))(hg1:cC Γ g1=true)(hf2:g2=("set" : Str))(hg2:cC Γ g2=true)
 (ha:PE X ea (WE X P n RT Y old σ a)) (hb:PE X eb (WE X P n RT Y old σ b)) (hp:aQ ea=true) (hq:aQ eb=true) :
 PE X (.Call (.Name f pf) [.BinOp (.Call (.Name g1 p1) [ea] [] p2) o (.Call (.Name g2 p3) [eb] [] p4) p5] [] pos) (WE X P n RT Y old σ (.sop o a b)):=by
 subst hf
 have hu:=M.units
 intro pins s σV H Q I hw
 obtain⟨S,h⟩:=hw
 have h:=RE.bind' (show RE (ev P (call P n) σ a >>= λx=>ev P (call P n) σ b >>= λy=>(match x.d,y.d with
  | .lst as,.lst bs=>(match dI as,dI bs with
   | some ks,some js=>R.iff (neN ks&&neN js) (match opN o ks js with|some r=>R.ok (⟨.lst (r.map aA),true,false,[]⟩:Vl)|none=>.bad)
   | _,_=>.bad)
  | _,_=>.bad)) _ from h)
 obtain⟨x,ex,h⟩:=h.eq
 obtain⟨y,ey,h⟩:=(RE.bind' h).eq
 split at h
 . rename_i as bs ea' eb'
   split at h
   . rename_i ks js ka kb
     obtain⟨hne,h⟩:=h.iff
     rw[bA] at hne
     split at h
     . rename_i r hr
       have h7:(ssN ks).length<=700/\(ssN js).length<=700:=by
        unfold opN at hr
        split at hr
        . split at hr
          . constructor <;> omega
          . cases hr
        . split at hr
          . assumption
          . cases hr
        . cases hr
       refine wpAny_Call_Name_kw (dP I (M.gl hg) (M.md.blt _ (by decide +kernel)) boot_sorted ?_ (by decide +kernel) (by decide +kernel))
       refine PyProof.Rows.callWith_builtin1 ?_ (aB (e:=.BinOp (.Call (.Name g1 p1) [ea] [] p2) o (.Call (.Name g2 p3) [eb] [] p4) p5) (es:=[]) rfl) rfl
       rw[aB (e:=.BinOp (.Call (.Name g1 p1) [ea] [] p2) o (.Call (.Name g2 p3) [eb] [] p4) p5) (es:=[]) rfl]
       show wpAny _ _ (spliced ((false,eval (.BinOp (.Call (.Name g1 p1) [ea] [] p2) o (.Call (.Name g2 p3) [eb] [] p4) p5) X.env)::backTo pos (starEach [] X.env))) _ _ s
       refine Calls.spliced_cons (wpAny_BinOp (aBj M hf1 hg1 ha hp I S ex ea' ka h7.1 λs1 H1 us h1 tk1 I1 sm1 u1 u3 hset1 kp1 t1=>?_))
       have I1':L2.Inv X pins σV H1 { s1 with heap:=h1,toks:=tk1 }:=I1.kept kp1
       have hS1:H1 s1.heap.objs.size=none:=I1.hok.fresh (Nat.le_refl _)
       obtain⟨xs1,m1,ps1,mv1,ep1,T1,o1,c1,c2⟩:=hset1
       have I1p:L2.Inv X ((s1.heap.objs.size,L2.setT (cF X.prog X.w) xs1 ep1 m1 ps1 mv1)::pins) σV H1 { s1 with heap:=h1,toks:=tk1 }:=I1'.pins_of λp hp'=>by
        rcases List.mem_cons.mp hp' with rfl|hp'
        . exact⟨o1,hS1,λz=>Nat.lt_irrefl _ (z▸I1.lt),I1.nofs (Nat.le_refl _),λv z=>by cases z⟩
        . exact I1'.pin p (List.mem_append_right _ hp')
       refine aBj M hf2 hg2 hb hq I1p (S.grow sm1 t1) ey eb' kb h7.2 λs2 H2 vs h2 tk2 I2 sm2 v1 v3 hset2 kp2 t2=>?_
       obtain⟨q1,q2,q3,_⟩:=I2.pin _ (List.mem_append_right _ List.mem_cons_self)
       have I2':L2.Inv X pins σV H2 { s2 with heap:=h2,toks:=tk2 }:=(I2.pins_of λp hp'=>I2.pin p (List.mem_append_right _ (List.mem_cons_of_mem _ hp'))).kept kp2
       have set1:bV (cF X.prog X.w) h2 s1.heap.objs.size us:=⟨xs1,m1,ps1,mv1,ep1,T1,kp2 _ _ q1,c1,c2⟩
       have u3':∀x∈us,aT X.K H2 x.1 x.2:=λx hx=>aT.imp (λ_ _ r=>aH.seqT sm2 r) (u3 x hx)
       have ne12:s1.heap.objs.size≠s2.heap.objs.size:=Nat.ne_of_lt (Heap.lt_size q1)
       have kN:∀x,x∈us\/x∈vs->x.1≠[]:=λx hx=>hx.elim (λhx=>uU hne.1 x.1 (by rw[<-u1];exact List.mem_map.mpr ⟨x,hx,rfl⟩)) λhx=>uU hne.2 x.1 (by rw[<-v1];exact List.mem_map.mpr ⟨x,hx,rfl⟩)
       have kA:∀x,x∈us\/x∈vs->aT X.K H2 x.1 x.2:=λx hx=>hx.elim (u3' x) (v3 x)
       have inS:∀x∈us,x.1∈ssN ks:=λx hx=>dM.mpr (by rw[<-u1];exact List.mem_map.mpr ⟨x,hx,rfl⟩)
       have inT:∀x∈vs,x.1∈ssN js:=λx hx=>dM.mpr (by rw[<-v1];exact List.mem_map.mpr ⟨x,hx,rfl⟩)
       have fin:∀(h3:Heap) (zs:List KN),bV (cF X.prog X.w) h3 h2.objs.size zs->(∀z∈zs,z∈us\/z∈vs)->(∀k,k∈zs.map (·.1)↔k∈r)->(r.Pairwise (lexN · ·=true))->(∀b o,h2.get? b=some o->h3.get? b=some o)->wpAny (model X.prog X.w) X.A (spliced (backTo pos (starEach [] X.env))) (λus' s'=>wpAny (model X.prog X.w) X.A (PySem.call (.builtin "sorted") (.ref h2.objs.size::us')) (EP X pins σV Q) X.xe s') X.xe { s2 with heap:=h3,toks:=tk2 }:=by
        intro h3 zs hz z1 z2 z3 kp3
        have I3:L2.Inv X pins σV H2 { s2 with heap:=h3,toks:=tk2 }:=I2'.kept kp3
        refine Calls.spliced_nil ?_
        refine sQ (s:={ s2 with heap:=h3,toks:=tk2 }) (I3.ok.hd M.calm) (by omega) hz (λx hx=>eH I3 (kA x (z1 x hx))) (λx hx=>kN x (z1 x hx)) λh4 tk4 L ys m hL hk4 hoL y1 y2 y3=>?_
        have e4:ys.map (·.1)=r:=gP eN (List.pairwise_map.mpr y3) z3 λk=>by
         rw[<-z2]
         constructor
         . intro q
           obtain⟨w,hw,rfl⟩:=List.mem_map.mp q
           exact List.mem_map.mpr ⟨w,y1 w hw,rfl⟩
         . intro q
           obtain⟨w,hw,rfl⟩:=List.mem_map.mp q
           exact y2 w hw
        rw[<-e4] at h
        refine oK I3 (sm1.trans sm2) hL hk4 hoL ?_ (λw hw=>kA w (z1 w (y1 w hw))) h
        have pw:(ys.map (·.1)).Pairwise (lexN · ·=true):=List.pairwise_map.mpr y3
        have nd:(ys.map (·.1)).Nodup:=pw.imp λ{p q} c e=>by
         rw[e,eN.ir] at c;cases c
        have:=nd.length_le_of_subset (l₂:=ssN ks++ssN js) λk hk=>by
         obtain⟨w,hw,rfl⟩:=List.mem_map.mp hk
         rcases z1 w (y1 w hw) with q|q
         . exact List.mem_append_left _ (inS w q)
         . exact List.mem_append_right _ (inT w q)
        rw[lM,lA] at this
        omega
       have kiU:∀x∈us,(cF X.prog X.w).is h2 x.1 x.2:=λx hx=>eH I2' (u3' x hx)
       have kiV:∀x∈vs,(cF X.prog X.w).is h2 x.1 x.2:=λx hx=>eH I2' (v3 x hx)
       unfold opN at hr
       split at hr
       . split at hr
         . rename_i h70
           cases hr
           refine aJH (knd:=cF X.prog X.w) (s:={ s2 with heap:=h2,toks:=tk2 }) (λA' hA=>show A'.units+8<cLine by omega) set1 hset2 ne12 kiU kiV (ssN ks) (ssN js) h70 inS inT λh3 hz kp3=>fin h3 (us++vs) hz (λz hz=>List.mem_append.mp hz) (λk=>?_) (fI _) kp3
           rw[List.map_append,u1,v1,dM]
         . cases hr
       . rw[if_pos h7] at hr
         cases hr
         refine aHz (knd:=cF X.prog X.w) (s:={ s2 with heap:=h2,toks:=tk2 }) (λA' hA=>show A'.units+8<cLine by omega) set1 hset2 ne12 kiU kiV (ssN ks) (ssN js) h7.1 h7.2 inS inT λh3 zs hz z1 z2 kp3=>fin h3 zs hz z1 (λk=>?_) (fI _) kp3
         rw[z2,u1,v1,dM,List.mem_filter,decide_eq_true_iff]
       . cases hr
     . exact h.elim
   . exact h.elim
 . exact h.elim
end
end Hp
end
noncomputable section
set_option maxHeartbeats 8000000
namespace Hp
open PySem PySem.Spec PyProof.Rows L2
section
variable {P:Pg} {n:Nat}
theorem sR{X:Cx}{Γ:Ct}(M:Mc X P Γ n)(scope:Scope):(relabel scope X.env).names=kZ Γ.sc scope.names:=by
 unfold relabel kZ
 simp only
 refine List.map_congr_left λp hp=>?_
 obtain⟨m,k⟩:=p
 have e1:(X.env.scope.kind==ScopeKind.function)=true:=by rw[M.fk];rfl
 have e2:X.env.kindOf m=Γ.sc.lookup m:=by unfold Env.kindOf;rw[M.sc]
 simp only[e1,e2,Bool.and_true]
abbrev chN(Γ:Ct)(tg:Expr)(caps:List Nat):List Str:=dR tg++caps.filterMap λi=>Γ.N[i]?
abbrev uV(Γ:Ct)(tg:Expr)(caps:List Nat)(scope:Scope):Ct:={ Γ with N:=chN Γ tg caps,sc:=kZ Γ.sc scope.names,fn:=false }
structure aBk (Γ:Ct) (tg:Expr) (caps:List Nat) (scope:Scope) (k:Nat) (t:T):Prop where
 len:(dR tg).length=k
 lt:∀i∈caps,i<Γ.N.length
 ndc:caps.Nodup
 kind:scope.kind=.function
 nd:(chN Γ tg caps).Nodup
 cap:∀x∈caps.filterMap (λi=>Γ.N[i]?),scope.names.lookup x=some .free/\Γ.sc.lookup x=some .cell
 all:∀p∈scope.names,p.2≠.cell/\(p.2=.local->scope.names.lookup p.1=some .local)/\(p.2=.free->Γ.sc.lookup p.1=some .cell)
 tk:∀i∈tIx t,i<k
theorem qK{N:List Str}:∀{caps:List Nat},(∀i∈caps,i<N.length)->∀{j i:Nat},caps[j]? = some i->(caps.filterMap λi=>N[i]?)[j]? = N[i]?/\(caps.filterMap λi=>N[i]?).length=caps.length
 | [],_,_,_,h=>by simp at h
 | c::cs,hl,j,i,h=>by
  have hc:N[c]? = some N[c]! := by
   have:=hl c List.mem_cons_self
   simp[this]
  rw[List.filterMap_cons_some hc]
  have hl':∀i∈cs,i<N.length:=λi hi=>hl i (List.mem_cons_of_mem _ hi)
  have len:(cs.filterMap λi=>N[i]?).length=cs.length:=by
   cases cs with
   | nil=>rfl
   | cons c' cs'=>exact(qK hl' (j:=0) (i:=c') rfl).2
  refine⟨?_,by rw[lC,lC,len]⟩
  cases j with
  | zero=>
   have e:c=i:=by simpa using h
   subst e
   rw[gZ,hc]
  | succ j=>
   rw[gS]
   exact(qK hl' (j:=j) (i:=i) (by simpa using h)).1
theorem aFA{N:List Str}{caps:List Nat}(h:∀i∈caps,i<N.length):(caps.filterMap λi=>N[i]?).length=caps.length:=by
 cases caps with
 | nil=>rfl
 | cons c cs=>exact(qK h (j:=0) (i:=c) rfl).2
theorem aBk.scope{X:Cx}{Γ:Ct}{tg:Expr}{caps:List Nat}{scope:Scope}{k:Nat}{t:T}(O:aBk Γ tg caps scope k t)(M:Mc X P Γ n):bU X scope k caps (chN Γ tg caps) where
 kind:=O.kind
 nocell:=λy hy=>(O.all y hy).1
 loc:=λy hy e=>(O.all y hy).2.1 e
 free:=λm hm=>.inl (by
  have:=(O.all _ hm).2.2 rfl
  show X.env.scope.names.lookup m=_
  rw[M.sc];exact this)
 len:=by rw[lA,O.len,aFA O.lt]
 cap:=λj i e=>by
  have hi:=O.lt i (mG e)
  have hx:Γ.N[i]? = some Γ.N[i]:=List.getElem?_eq_getElem hi
  have hg:=(qK O.lt e).1
  rw[hx] at hg
  obtain⟨h1,h2⟩:=O.cap _ (mG hg)
  refine⟨Γ.N[i],?_,by rw[M.N];exact hx,h1,?_⟩
  . show(dR tg++_)[k+j]? = _
    rw[List.getElem?_append_right (by rw[O.len];omega),O.len,Nat.add_sub_cancel_left]
    exact hg
  . show X.env.scope.names.lookup _=_
    rw[M.sc];exact h2
 ndp:=M.nd
theorem aBk.mc{X:Cx}{Γ:Ct}{tg:Expr}{caps:List Nat}{scope:Scope}{k:Nat}{t:T}(O:aBk Γ tg caps scope k t)(M:Mc X P Γ n)(C:Addr)(s₀:Shared)(H₀:Hp)(ex:List Addr) :
 Mc (cD X scope (chN Γ tg caps) C s₀ H₀ ex) P (uV Γ tg caps scope) n where
 md:=⟨M.md.fn,M.md.blt,M.md.cns,M.md.tab⟩
 N:=rfl
 nd:=O.nd
 sc:=sR M scope
 calm:=M.calm
 room:=M.room
 xe:=rfl
 st:=λx h=>.inr (by
  show(relabel scope X.env).names.lookup x=_
  rw[sR M scope]
  unfold rT at h
  have h:(match (kZ Γ.sc scope.names).lookup x with|some .local=>true|some .cell=>false|_=>false)=true:=h
  split at h
  . rename_i e;exact e
  . cases h
  . cases h)
 fk:=O.kind
theorem sU{Γ:Ct}{tt:Bool}{a b:E}{e:Expr}:chkI Γ tt (.rng a b) e=oS (nF e) λp=>(p.1==("range" : Str))&&cC Γ p.1&&(match p.2 with
 | [x]=>uG a&&aK Γ b x
 | [x,y]=>aK Γ a x&&aK Γ b y
 | _=>false):=rfl
theorem gQ{Γ:Ct}{tt:Bool}{it:Hp.It}{e:Expr}(h:chkI Γ tt it e=true):aQ e=true:=by
 cases it with
 | seq c=>exact aL (c:=c) (by exact h)
 | rng a b=>rw[sU] at h;obtain⟨_,⟨_,_,rfl⟩,_⟩:=aD h;rfl
 | zip a b=>cases h
 | enum a=>cases h
 | rev a=>cases h
theorem aCX{X:Cx}{e:Expr}{c:E}{RT Y old:Addr->Prop}{σ:Sg}(h:tst P (call P n) σ c=.bad):PT X e (WT X P n RT Y old σ c):=λpins s σV H Q I ⟨S,hh⟩=>by
 rw[h] at hh
 exact hh.elim
theorem dU{a b c:Bool}(h:(a&&b&&c)=true):a=true/\b=true/\c=true:=by
 cases a <;> cases b <;> cases c <;> first|exact⟨rfl,rfl,rfl⟩|cases h
theorem cG{a b:Bool}(h:(a&&b)=true):a=true/\b=true:=by
 cases a <;> cases b <;> first|exact⟨rfl,rfl⟩|cases h
theorem aCY{a b c d:Bool}(h:(a&&b&&c&&d)=true):a=true/\b=true/\c=true/\d=true:=by
 obtain⟨h1,h2,h3⟩:=dU h
 obtain⟨h1,h4⟩:=cG h1
 exact⟨h1,h4,h2,h3⟩
theorem aCZ{a b c d e:Bool}(h:(a&&b&&c&&d&&e)=true):a=true/\b=true/\c=true/\d=true/\e=true:=by
 obtain⟨h1,h2,h3,h4⟩:=aCY h
 obtain⟨h1,h5⟩:=cG h1
 exact⟨h1,h5,h2,h3,h4⟩
theorem wX{Γ:Ct}{k:Nat}{caps:List Nat}{t:T}{it:Hp.It}{cond:Es}{elt:E}{e:Expr}(h:aK Γ (.comp k caps t it cond elt) e=true) :
 ∃el tg iter ifs scope pos,e=.ListComp el [⟨tg,iter,ifs,0⟩] scope pos/\aBk Γ tg caps scope k t/\ifs.length<=1/\jV (uV Γ tg caps scope) t tg=true/\chkI Γ (rU tg) it iter=true/\chkEs (uV Γ tg caps scope) cond ifs=true/\aK (uV Γ tg caps scope) elt el=true:=by
 obtain⟨⟨el,gens,scope⟩,h1,g⟩:=aD h
 clear h
 obtain⟨pos,rfl⟩:=h1
 have h:=g
 clear g
 rcases gens with _|⟨⟨tg,iter,ifs,as⟩,_|⟨_,_⟩⟩
 . cases h
 . have h:(as==0&&(dR tg).length==k&&(caps.all λi=>decide (i<Γ.N.length))&&decide caps.Nodup&&scope.kind==.function&&decide (dR tg++caps.filterMap λi=>Γ.N[i]?).Nodup &&
    ((caps.filterMap λi=>Γ.N[i]?).all λx=>scope.names.lookup x==some .free&&Γ.sc.lookup x==some .cell) &&
    (scope.names.all λp=>p.2 != .cell&&(p.2 != .local||scope.names.lookup p.1==some .local)&&(p.2 != .free||Γ.sc.lookup p.1==some .cell)) &&
    ((tIx t).all λi=>decide (i<k))&&decide (ifs.length<=1) &&
    jV (uV Γ tg caps scope) t tg&&chkI Γ (rU tg) it iter&&chkEs (uV Γ tg caps scope) cond ifs&&aK (uV Γ tg caps scope) elt el)=true:=by
    exact h
   simp only[bA,beq_iff_eq,List.all_eq_true,decide_eq_true_eq,Bool.or_eq_true,bne_iff_ne,ne_eq] at h
   obtain⟨⟨⟨⟨⟨⟨⟨⟨⟨⟨⟨⟨⟨h0,h1⟩,h2⟩,h3⟩,h4⟩,h5⟩,h6⟩,h7⟩,h8⟩,h9⟩,h10⟩,h11⟩,h12⟩,h13⟩:=h
   subst h0
   refine⟨el,tg,iter,ifs,scope,pos,rfl,⟨h1,h2,h3,h4,h5,h6,λp hp=>?_,h8⟩,h9,h10,h11,h12,h13⟩
   obtain⟨⟨q1,q2⟩,q3⟩:=h7 p hp
   exact⟨q1,λe=>q2.resolve_left λz=>z e,λe=>q3.resolve_left λz=>z e⟩
 . cases h
abbrev PEc(P:Pg)(n:Nat)(c:E):Prop:=∀{X:Cx} {Γ:Ct},Mc X P Γ n->∀{e:Expr},aK Γ c e=true->∀(RT Y old:Addr->Prop) (σ:Sg),PE X e (WE X P n RT Y old σ c)
abbrev PTc(P:Pg)(n:Nat)(c:E):Prop:=∀{X:Cx} {Γ:Ct},Mc X P Γ n->∀{e:Expr},aK Γ c e=true->∀(RT Y old:Addr->Prop) (σ:Sg),PT X e (WT X P n RT Y old σ c)
abbrev PWc(P:Pg)(n:Nat)(c:E):Prop:=∀{X:Cx} {Γ:Ct},Mc X P Γ n->∀{o:BoolOp} {xs:List Expr} {pos:Pos},aK Γ c (.BoolOp o xs pos)=true->∀(RT Y old:Addr->Prop) (σ:Sg),PW X (.BoolOp o xs pos) (WT X P n RT Y old σ c)
structure Q3 (P:Pg) (n:Nat) (c:E):Prop where
 e:PEc P n c
 t:PTc P n c
 w:PWc P n c
structure QA (P:Pg) (n:Nat) (cs:Es):Prop where
 a:∀{X:Cx} {Γ:Ct},Mc X P Γ n->∀{es:List Expr},chkEs Γ cs es=true->∀(RT Y old:Addr->Prop) (σ:Sg),PA X es (WA X P n RT Y old σ cs)
 o:∀{X:Cx} {Γ:Ct},Mc X P Γ n->∀{e:Option Expr},chkO Γ cs e=true->∀(RT Y old:Addr->Prop) (σ:Sg),PO X e (wO X P n RT Y old σ cs)
 ts:∀{X:Cx} {Γ:Ct},Mc X P Γ n->∀{es:List Expr},es.length<=1->chkEs Γ cs es=true->∀(RT Y old:Addr->Prop) (σ:Sg),PTs X es (wTs X P n RT Y old σ cs)
abbrev QI(P:Pg)(n:Nat)(it:Hp.It):Prop:=∀{X:Cx} {Γ:Ct},Mc X P Γ n->∀{tg e:Expr},chkI Γ (rU tg) it e=true->∀(RT Y old:Addr->Prop) (σ:Sg),PI X tg e (wI X P n RT Y old σ it)
theorem Q3.of{c:E}(h:PEc P n c)(hd:∀σ,tst P (call P n) σ c=.bad)(hw:∀{Γ:Ct} {o:BoolOp} {xs:List Expr} {pos:Pos},aK Γ c (.BoolOp o xs pos)=false):Q3 P n c:=
 ⟨h,λ{X Γ} M {e} z RT Y old σ=>aCX (hd σ),λ{X Γ} M {o xs pos} z RT Y old σ=>absurd (hw.symm.trans z) bN⟩
theorem n_c{d:D}:Q3 P n (.c d):=by
 have h0:∀{Γ:Ct} {e:Expr},aK Γ (.c d) e=true->(∃c k p,e=.Constant c k p/\eqC d c=true)\/∃x p,e=.Name x p/\cC Γ x=true/\bR x=true/\∃d',Γ.cns.lookup x=some d'/\eqK d d'=true:=λ{Γ e} h=>by
  rcases(Bool.or_eq_true _ _).mp (show(oS (asC e) (eqC d)||oS (asN e) λx=>cC Γ x&&bR x&&oB (Γ.cns.lookup x) (eqK d))=true from h) with h|h
  . obtain⟨c,h1,g⟩:=aD h
    clear h
    obtain⟨k,p,rfl⟩:=h1
    have h:=g
    clear g
    exact .inl ⟨c,k,p,rfl,h⟩
  . obtain⟨x,h1,g⟩:=aD h
    clear h
    obtain⟨p,rfl⟩:=h1
    have h:=g
    clear g
    obtain⟨h1,h2,h3⟩:=dU h
    obtain⟨d',q1,q2⟩:=aAD h3
    exact .inr ⟨x,p,rfl,h1,h2,d',q1,q2⟩
 have k:PEc P n (.c d):=λ{X Γ} M {e} h RT Y old σ=>by
  rcases h0 h with⟨c,j,p,rfl,g⟩|⟨x,p,rfl,h1,h2,d',q,h3⟩
  . exact s_c g
  . have e:=aEY h3
    subst e
    obtain⟨u,v,m,r,hr⟩:=M.md.cns x d q
    refine(aBV (M.gl h1) m r (aN h2)).imp λσV H Q t ⟨S,hh⟩ t'=>?_
    exact(show Wn _ RT Y old σ σV H Q (Vl.cl d) from hh) v H t' (Ro.val (aH.refl H) (hr H))
 refine⟨k,λ{X Γ} M {e} h RT Y old σ=>?_,λ{X Γ} M {o xs pos} h RT Y old σ=>absurd h bN⟩
 refine nS (k M h RT Y old σ) ?_ λp hp=>hp
 rcases h0 h with⟨c,j,p,rfl,h⟩|⟨x,p,rfl,_⟩ <;> (intro _;rfl)
theorem n_v{i:Nat}:Q3 P n (.v i):=by
 have k:PEc P n (.v i):=λ{X Γ} M {e} h RT Y old σ=>by
  obtain⟨x,h1,g⟩:=aD h
  clear h
  obtain⟨p,rfl⟩:=h1
  have h:=g
  clear g
  have h:aW _ i x=true:=h
  unfold aW at h
  obtain⟨h1,h2,h3⟩:=dU h
  exact s_v (by rw[M.N];exact eq_of_beq h1) (M.vis h2) (aN h3) (cI h3)
 refine⟨k,λ{X Γ} M {e} h RT Y old σ=>?_,λ{X Γ} M {o xs pos} h RT Y old σ=>absurd h bN⟩
 refine nS (k M h RT Y old σ) ?_ λp hp=>RE.bind' (show RE (bX σ i >>= λx=>dQ x) p from hp)
 obtain⟨x,⟨p,rfl⟩,_⟩:=aD h
 intro _;rfl
theorem aJJ{o:Operator}{a b:E}(ha:Q3 P n a)(hb:Q3 P n b):Q3 P n (.op o a b):=Q3.of (λ{X Γ} M {e} h RT Y old σ=>by
 obtain⟨⟨l,o',r⟩,h1,g⟩:=aD h
 clear h
 obtain⟨p,rfl⟩:=h1
 have h:=g
 clear g
 obtain⟨h1,h2,h3⟩:=dU h
 have e:o=o':=eq_of_beq h1
 subst e
 exact aJC (ha.e M h2 RT Y old σ) (hb.e M h3 RT Y old σ)) (λ_=>rfl) rfl
theorem aJK{a:E}(ha:Q3 P n a):Q3 P n (.nt a):=by
 have h0:∀{Γ:Ct} {e:Expr},aK Γ (.nt a) e=true->∃x p,e=.UnaryOp .Not x p/\aK Γ a x=true:=λ{Γ e} h=>by
  obtain⟨⟨o,x⟩,h1,g⟩:=aD h
  clear h
  obtain⟨p,rfl⟩:=h1
  have h:=g
  clear g
  obtain⟨h1,h2⟩:=cG h
  have e:o=.Not:=eq_of_beq h1
  subst e
  exact⟨x,p,rfl,h2⟩
 refine⟨λ{X Γ} M {e} h RT Y old σ=>?_,λ{X Γ} M {e} h RT Y old σ=>?_,λ{X Γ} M {o xs pos} h RT Y old σ=>absurd h bN⟩
 . obtain⟨x,p,rfl,g⟩:=h0 h
   exact aHe (ha.e M g RT Y old σ)
 . obtain⟨x,p,rfl,g⟩:=h0 h
   exact aJE (ha.t M g RT Y old σ)
theorem wY{Γ:Ct}{a b:E}{w:BoolOp}{xs:List Expr}{p:Pos}(h:(match xs with
 | [x,y]=>aK Γ a x&&aK Γ b y
 | x::y::z::r=>aK Γ a x&&aK Γ b (.BoolOp w (y::z::r) p)
 | _=>false)=true):∃x y r,xs=x::y::r/\aK Γ a x=true/\((r=[]/\aK Γ b y=true)\/aK Γ b (.BoolOp w (y::r) p)=true):=by
 rcases xs with _|⟨x,_|⟨y,_|⟨z,r⟩⟩⟩
 . cases h
 . cases h
 . obtain⟨h1,h2⟩:=cG h
   exact⟨x,y,[],rfl,h1,.inl ⟨rfl,h2⟩⟩
 . obtain⟨h1,h2⟩:=cG h
   exact⟨x,y,z::r,rfl,h1,.inr h2⟩
theorem aJL{a b:E}(ha:Q3 P n a)(hb:Q3 P n b):Q3 P n (.an a b):=by
 have kw:PWc P n (.an a b):=λ{X Γ} M {o xs pos} h RT Y old σ=>by
  obtain⟨h1,h2⟩:=cG h
  have e:o=.And:=eq_of_beq h1
  subst e
  obtain⟨x,y,r,rfl,g1,g2⟩:=wY h2
  rcases g2 with⟨rfl,g2⟩|g2
  . exact aHn (ha.t M g1 RT Y old σ) (aBW (hb.t M g2 RT Y old σ))
  . exact aHn (ha.t M g1 RT Y old σ) (hb.w M g2 RT Y old σ)
 refine⟨λ{X Γ} M {e} h RT Y old σ=>?_,λ{X Γ} M {e} h RT Y old σ=>?_,kw⟩
 . obtain⟨⟨o,xs,pos⟩,h1,g⟩:=aD h
   clear h
   obtain rfl:=h1
   have h:=g
   clear g
   obtain⟨h1,h2⟩:=cG h
   have e:o=.And:=eq_of_beq h1
   subst e
   obtain⟨x,y,r,e,g1,g2⟩:=wY h2
   have e:xs=x::y::r:=e
   subst e
   rcases g2 with⟨rfl,g2⟩|g2
   . exact aHf (ha.e M g1 RT Y old σ) (zJ (hb.e M g2 RT Y old σ))
   . exact aHf (ha.e M g1 RT Y old σ) (hb.e M g2 RT Y old σ)
 . obtain⟨⟨o,xs,pos⟩,rfl,_⟩:=aD h
   exact(kw M h RT Y old σ).pt
theorem aHF{a b:E}(ha:Q3 P n a)(hb:Q3 P n b):Q3 P n (.orr a b):=by
 have kw:PWc P n (.orr a b):=λ{X Γ} M {o xs pos} h RT Y old σ=>by
  obtain⟨h1,h2⟩:=cG h
  have e:o=.Or:=eq_of_beq h1
  subst e
  obtain⟨x,y,r,rfl,g1,g2⟩:=wY h2
  rcases g2 with⟨rfl,g2⟩|g2
  . exact aDQ (ha.t M g1 RT Y old σ) (aEl (hb.t M g2 RT Y old σ))
  . exact aDQ (ha.t M g1 RT Y old σ) (hb.w M g2 RT Y old σ)
 refine⟨λ{X Γ} M {e} h RT Y old σ=>?_,λ{X Γ} M {e} h RT Y old σ=>?_,kw⟩
 . obtain⟨⟨o,xs,pos⟩,h1,g⟩:=aD h
   clear h
   obtain rfl:=h1
   have h:=g
   clear g
   obtain⟨h1,h2⟩:=cG h
   have e:o=.Or:=eq_of_beq h1
   subst e
   obtain⟨x,y,r,e,g1,g2⟩:=wY h2
   have e:xs=x::y::r:=e
   subst e
   rcases g2 with⟨rfl,g2⟩|g2
   . exact aDP (ha.e M g1 RT Y old σ) (zJ (hb.e M g2 RT Y old σ))
   . exact aDP (ha.e M g1 RT Y old σ) (hb.e M g2 RT Y old σ)
 . obtain⟨⟨o,xs,pos⟩,rfl,_⟩:=aD h
   exact(kw M h RT Y old σ).pt
theorem aHG{t a b:E}(ht:Q3 P n t)(ha:Q3 P n a)(hb:Q3 P n b):Q3 P n (.ife t a b):=Q3.of (λ{X Γ} M {e} h RT Y old σ=>by
 obtain⟨⟨t',a',b'⟩,h1,g⟩:=aD h
 clear h
 obtain⟨p,rfl⟩:=h1
 have h:=g
 clear g
 obtain⟨h1,h2,h3⟩:=dU h
 exact aHg (ht.t M h1 RT Y old σ) (ha.e M h2 RT Y old σ) (hb.e M h3 RT Y old σ)) (λ_=>rfl) rfl
theorem aHH{o:CmpOp}{a b:E}(ha:Q3 P n a)(hb:Q3 P n b):Q3 P n (.cmp o a b):=by
 have h0:∀{Γ:Ct} {e:Expr},aK Γ (.cmp o a b) e=true->∃l r p,e=.Compare l [o] [r] p/\aK Γ a l=true/\aK Γ b r=true:=λ{Γ e} h=>by
  obtain⟨⟨l,os,rs⟩,h1,g⟩:=aD h
  clear h
  obtain⟨p,rfl⟩:=h1
  have h:=g
  clear g
  rcases os with _|⟨o',_|⟨_,_⟩⟩
  . cases h
  . rcases rs with _|⟨r,_|⟨_,_⟩⟩
    . cases h
    . obtain⟨h1,h2,h3⟩:=dU h
      have e:o=o':=eq_of_beq h1
      subst e
      exact⟨l,r,p,rfl,h2,h3⟩
    . cases h
  . cases h
 refine⟨λ{X Γ} M {e} h RT Y old σ=>?_,λ{X Γ} M {e} h RT Y old σ=>?_,λ{X Γ} M {o xs pos} h RT Y old σ=>absurd h bN⟩
 . obtain⟨l,r,p,rfl,h2,h3⟩:=h0 h
   exact aHh M (ha.e M h2 RT Y old σ) (hb.e M h3 RT Y old σ) (aL h3)
 . obtain⟨l,r,p,rfl,h2,h3⟩:=h0 h
   exact aHi M (ha.e M h2 RT Y old σ) (hb.e M h3 RT Y old σ) (aL h3)
theorem aHI{a:E}{j:Nat}(ha:Q3 P n a):Q3 P n (.din a j):=by
 have h0:∀{Γ:Ct} {e:Expr},aK Γ (.din a j) e=true->∃l x p q,e=.Compare l [.In] [.Name x q] p/\aK Γ a l=true/\aW Γ j x=true:=λ{Γ e} h=>by
  obtain⟨⟨l,os,rs⟩,h1,g⟩:=aD h
  clear h
  obtain⟨p,rfl⟩:=h1
  have h:=g
  clear g
  rcases os with _|⟨o',_|⟨_,_⟩⟩
  . cases h
  . rcases rs with _|⟨r,_|⟨_,_⟩⟩
    . cases h
    . obtain⟨h1,h2,h3⟩:=dU h
      have e:CmpOp.In=o':=eq_of_beq h1
      subst e
      obtain⟨x,⟨q,e2⟩,h4⟩:=aD h3
      have e2:r=.Name x q:=e2
      subst e2
      exact⟨l,x,p,q,rfl,h2,h4⟩
    . cases h
  . cases h
 refine⟨λ{X Γ} M {e} h RT Y old σ=>?_,λ{X Γ} M {e} h RT Y old σ=>?_,λ{X Γ} M {o xs pos} h RT Y old σ=>absurd h bN⟩
 . obtain⟨l,x,p,q,rfl,h2,h3⟩:=h0 h
   exact aHB M h3 (ha.e M h2 RT Y old σ)
 . obtain⟨l,x,p,q,rfl,h2,h3⟩:=h0 h
   exact aHC M h3 (ha.e M h2 RT Y old σ)
theorem aHJ{a:E}{j:Nat}{d:D}(ha:Q3 P n a):Q3 P n (.dgd j a d):=Q3.of (λ{X Γ} M {e} h RT Y old σ=>by
 obtain⟨⟨o,m,xs,l⟩,h1,g⟩:=aD h
 clear h
 obtain⟨ap,cp,rfl,hl⟩:=h1
 obtain⟨x,⟨p,e2⟩,g⟩:=aD g
 have e2:o=.Name x p:=e2
 subst e2
 obtain⟨h1,h2,h3,h4⟩:=aCY g
 rw[show l=true from h3] at hl
 rcases xs with _|⟨y,_|⟨z,_|⟨_,_⟩⟩⟩
 . cases h4
 . cases h4
 . obtain⟨h5,h6⟩:=cG h4
   obtain⟨c,⟨k,p3,e3⟩,h7⟩:=aD h6
   have e3:z=.Constant c k p3:=e3
   subst e3
   exact aHD M (eq_of_beq h1) h2 hl (ha.e M h5 RT Y old σ) (s_c h7) (aL h5)
 . cases h4) (λ_=>rfl) rfl
theorem aFB{j:Nat}:Q3 P n (.srtD j):=Q3.of (λ{X Γ} M {e} h RT Y old σ=>by
 obtain⟨⟨f,xs⟩,h1,g⟩:=aD h
 clear h
 obtain⟨p1,p2,rfl⟩:=h1
 rcases xs with _|⟨s,_|⟨_,_⟩⟩
 . cases g
 . obtain⟨⟨f2,ys⟩,⟨p3,p4,e2⟩,g⟩:=aD g
   have e2:s=.Call (.Name f2 p3) ys [] p4:=e2
   subst e2
   obtain⟨h1,h2,h3,h4,h5⟩:=aCZ g
   rcases ys with _|⟨x,_|⟨_,_⟩⟩
   . cases h5
   . obtain⟨y,⟨p5,e5⟩,h6⟩:=aD h5
     have e5:x=.Name y p5:=e5
     subst e5
     exact aFz M (eq_of_beq h1) h2 (eq_of_beq h3) h4 h6
   . cases h5
 . cases g) (λ_=>rfl) rfl
theorem aHK{o:Operator}{a b:E}(ha:Q3 P n a)(hb:Q3 P n b):Q3 P n (.sop o a b):=Q3.of (λ{X Γ} M {e} h RT Y old σ=>by
 obtain⟨⟨f,xs⟩,h1,g⟩:=aD h
 clear h
 obtain⟨p1,p2,rfl⟩:=h1
 rcases xs with _|⟨s,_|⟨_,_⟩⟩
 . cases g
 . obtain⟨⟨l,o',r⟩,⟨p3,e2⟩,g⟩:=aD g
   have e2:s=.BinOp l o' r p3:=e2
   subst e2
   obtain⟨⟨f1,ys⟩,⟨p4,p5,e3⟩,g⟩:=aD g
   have e3:l=.Call (.Name f1 p4) ys [] p5:=e3
   subst e3
   obtain⟨⟨f2,zs⟩,⟨p6,p7,e4⟩,g⟩:=aD g
   have e4:r=.Call (.Name f2 p6) zs [] p7:=e4
   subst e4
   obtain⟨g,h8⟩:=cG g
   obtain⟨g,h7⟩:=cG g
   obtain⟨g,h6⟩:=cG g
   obtain⟨h1,h2,h3,h4,h5⟩:=aCZ g
   have e5:o=o':=eq_of_beq h3
   subst e5
   rcases ys with _|⟨x,_|⟨_,_⟩⟩
   . cases h8
   . rcases zs with _|⟨y,_|⟨_,_⟩⟩
     . cases h8
     . obtain⟨h9,h10⟩:=cG h8
       exact aHE M (eq_of_beq h1) h2 (eq_of_beq h4) h5 (eq_of_beq h6) h7 (ha.e M h9 RT Y old σ) (hb.e M h10 RT Y old σ) (aL h9) (aL h10)
     . cases h8
   . cases h8
 . cases g) (λ_=>rfl) rfl
theorem aHL{a b:E}(ha:Q3 P n a)(hb:Q3 P n b):Q3 P n (.idx a b):=by
 have k:PEc P n (.idx a b):=λ{X Γ} M {e} h RT Y old σ=>by
  obtain⟨⟨x,i⟩,h1,g⟩:=aD h
  clear h
  obtain⟨p,rfl⟩:=h1
  have h:=g
  clear g
  obtain⟨h1,h2⟩:=cG h
  exact aHj (ha.e M h1 RT Y old σ) (hb.e M h2 RT Y old σ) (aL h2)
 refine⟨k,λ{X Γ} M {e} h RT Y old σ=>?_,λ{X Γ} M {o xs pos} h RT Y old σ=>absurd h bN⟩
 refine nS (k M h RT Y old σ) ?_ λp hp=>?_
 . obtain⟨⟨x,i⟩,⟨p,rfl⟩,_⟩:=aD h
   intro _;rfl
 . have hp:=RE.bind' (show RE (ev P (call P n) σ a >>= λx=>ev P (call P n) σ b >>= λy=>dW x y >>= λz=>dQ z) p from hp)
   show RE (ev P (call P n) σ a >>= λx=>ev P (call P n) σ b >>= λy=>dW x y) _
   rw[RE.bind]
   refine hp.mono λx hx=>?_
   rw[RE.bind]
   exact(RE.bind' hx).mono λy hy=>RE.bind' hy
theorem aHM{a:E}{lo hi:Es}(ha:Q3 P n a)(hl:QA P n lo)(hh:QA P n hi):Q3 P n (.sli a lo hi):=Q3.of (λ{X Γ} M {e} h RT Y old σ=>by
 obtain⟨⟨x,i⟩,h1,g⟩:=aD h
 clear h
 obtain⟨p,rfl⟩:=h1
 have h:=g
 clear g
 obtain⟨⟨l,u⟩,h1,g⟩:=aD h
 clear h
 obtain⟨p2,e2⟩:=h1
 have h:=g
 clear g
 have e2:i=.Slice l u none p2:=e2
 subst e2
 obtain⟨h1,h2,h3⟩:=dU h
 exact aHq (ha.e M h1 RT Y old σ) (hl.o M h2 RT Y old σ) (hh.o M h3 RT Y old σ)) (λ_=>rfl) rfl
theorem aHN{es:Es}(ha:QA P n es):Q3 P n (.tup es):=Q3.of (λ{X Γ} M {e} h RT Y old σ=>by
 obtain⟨xs,h1,g⟩:=aD h
 clear h
 obtain⟨k,p,rfl⟩:=h1
 have h:=g
 clear g
 obtain⟨h1,h2⟩:=cG h
 exact aHk (ha.a M h2 RT Y old σ) h2 (of_decide_eq_true h1)) (λ_=>rfl) rfl
theorem aHO{es:Es}(ha:QA P n es):Q3 P n (.lst es):=Q3.of (λ{X Γ} M {e} h RT Y old σ=>by
 obtain⟨xs,h1,g⟩:=aD h
 clear h
 obtain⟨p,rfl⟩:=h1
 have h:=g
 clear g
 obtain⟨h1,h2⟩:=cG h
 exact aHl (ha.a M h2 RT Y old σ) h2 (of_decide_eq_true h1)) (λ_=>rfl) rfl
theorem aFC{f:Nat}{es:Es}(ha:QA P n es):Q3 P n (.call f es):=by
 have k:PEc P n (.call f es):=λ{X Γ} M {e} h RT Y old σ=>by
  obtain⟨⟨x,xs⟩,h1,g⟩:=aD h
  clear h
  obtain⟨p1,p2,rfl⟩:=h1
  have h:=g
  clear g
  obtain⟨h1,h2,h3,h4⟩:=aCY h
  exact aEZ M (eq_of_beq h1) h2 h3 (ha.a M h4 RT Y old σ) (fE h4) h4
 refine⟨k,λ{X Γ} M {e} h RT Y old σ=>?_,λ{X Γ} M {o xs pos} h RT Y old σ=>absurd h bN⟩
 refine nS (k M h RT Y old σ) ?_ λp hp=>?_
 . obtain⟨⟨x,xs⟩,⟨p1,p2,rfl⟩,_⟩:=aD h
   intro _;rfl
 . have hp:=RE.bind' (show RE (evs P (call P n) σ es >>= λvs=>call P n f (vs.map (·.d)) >>= λr=>dQ (eW vs r)) p from hp)
   show RE (evs P (call P n) σ es >>= λvs=>call P n f (vs.map (·.d)) >>= λr=>R.ok (eW vs r)) _
   rw[RE.bind]
   refine hp.mono λx hx=>?_
   rw[RE.bind]
   exact(RE.bind' hx).mono λy hy=>hy
theorem aJM{b:Bi}{es:Es}(ha:QA P n es):Q3 P n (.bi b es):=by
 have k:PEc P n (.bi b es):=λ{X Γ} M {e} h RT Y old σ=>by
  obtain⟨⟨x,xs⟩,h1,g⟩:=aD h
  clear h
  obtain⟨p1,p2,rfl⟩:=h1
  have h:=g
  clear g
  obtain⟨h,h6⟩:=cG h
  obtain⟨h1,h2,h3,h4,h5⟩:=aCZ h
  cases xs with
  | nil=>cases h5
  | cons y ys=>exact aJD M h1 (eq_of_beq h2) h3 h4 (ha.a M h6 RT Y old σ) (fE h6)
 refine⟨k,λ{X Γ} M {e} h RT Y old σ=>?_,λ{X Γ} M {o xs pos} h RT Y old σ=>absurd h bN⟩
 refine nS (k M h RT Y old σ) ?_ λp hp=>?_
 . obtain⟨⟨x,xs⟩,⟨p1,p2,rfl⟩,_⟩:=aD h
   intro _;rfl
 . have hp:=RE.bind' (show RE (evs P (call P n) σ es >>= λvs=>biD b vs >>= λx=>dQ x) p from hp)
   show RE (evs P (call P n) σ es >>= λvs=>biD b vs) _
   rw[RE.bind]
   exact hp.mono λx hx=>RE.bind' hx
theorem aHP{a:E}{cs:List Cl}(ha:Q3 P n a):Q3 P n (.isi a cs):=by
 have k:PEc P n (.isi a cs):=λ{X Γ} M {e} h RT Y old σ=>by
  obtain⟨⟨f,xs⟩,h1,g⟩:=aD h
  clear h
  obtain⟨p1,p2,rfl⟩:=h1
  have h:=g
  clear g
  rcases cs with _|⟨c,_|⟨_,_⟩⟩
  . cases h
  . rcases xs with _|⟨x,_|⟨y,_|⟨_,_⟩⟩⟩
    . cases h
    . cases h
    . obtain⟨h1,h2,h3,h4,h5⟩:=aCZ h
      unfold aDL at h5
      split at h5
      . rename_i z p3
        obtain⟨q1,q2,q3⟩:=dU h5
        have hc:∃cv,rZ c=some cv:=by cases c <;> first|exact⟨_,rfl⟩|cases h3
        obtain⟨cv,hc⟩:=hc
        exact aHm M (eq_of_beq h1) h2 hc (eq_of_beq q1) q2 q3 (ha.e M h4 RT Y old σ) (aL h4)
      . cases h5
    . cases h
  . cases h
 refine⟨k,λ{X Γ} M {e} h RT Y old σ=>?_,λ{X Γ} M {o xs pos} h RT Y old σ=>absurd h bN⟩
 refine nS (k M h RT Y old σ) ?_ λp hp=>?_
 . obtain⟨⟨x,xs⟩,⟨p1,p2,rfl⟩,_⟩:=aD h
   intro _;rfl
 . have hp:=RE.bind' (show RE (ev P (call P n) σ a >>= λx=>(match isI cs P x.d with|some k=>R.ok k|none=>.bad)) p from hp)
   show RE (ev P (call P n) σ a >>= λx=>(match isI cs P x.d with|some k=>R.ok (Vl.cl (.bl k))|none=>.bad)) _
   rw[RE.bind]
   refine hp.mono λx hx=>?_
   cases q:isI cs P x.d with
   | none=>rw[q] at hx;exact hx.elim
   | some k=>rw[q] at hx;exact hx
theorem aFD{k:Nat}{caps:List Nat}{t:T}{it:Hp.It}{cond:Es}{elt:E}(hi:QI P n it)(hc:QA P n cond)(he:Q3 P n elt):Q3 P n (.comp k caps t it cond elt):=Q3.of (λ{X Γ} M {e} h RT Y old σ=>by
 obtain⟨el,tg,iter,ifs,scope,pos,rfl,O,h1,h2,h3,h4,h5⟩:=wX h
 refine aFj M (O.scope M) O.ndc O.tk (hi M h3 RT Y old σ) (λC s₀ H₀ ex=>?_) (iY (gQ h3))
 have M':=O.mc M C s₀ H₀ ex
 exact⟨aAP M' h2,λRT Y old σ1=>hc.ts M' h1 h4 RT Y old σ1,λRT Y old σ1=>he.e M' h5 RT Y old σ1⟩) (λ_=>rfl) rfl
theorem dC{c:E}(h:∀{Γ:Ct} {e:Expr},aK Γ c e=false):Q3 P n c:=
 ⟨λ{X Γ} M {e} z=>absurd (h.symm.trans z) bN,λ{X Γ} M {e} z=>absurd (h.symm.trans z) bN,λ{X Γ} M {o xs pos} z=>absurd (h.symm.trans z) bN⟩
theorem aHQ:QA P n .nil:=by
 refine⟨λ{X Γ} M {es} h RT Y old σ=>?_,λ{X Γ} M {e} h RT Y old σ=>?_,λ{X Γ} M {es} hl h RT Y old σ=>?_⟩
 . cases es with
   | nil=>exact aAF
   | cons _ _=>exact nf h
 . cases e with
   | none=>exact aHo
   | some _=>exact nf h
 . cases es with
   | nil=>exact aFh
   | cons _ _=>exact nf h
theorem aFE{c:E}{cs:Es}(hc:Q3 P n c)(hs:QA P n cs):QA P n (.cons c cs):=by
 refine⟨λ{X Γ} M {es} h RT Y old σ=>?_,λ{X Γ} M {e} h RT Y old σ=>?_,λ{X Γ} M {es} hl h RT Y old σ=>?_⟩
 . cases es with
   | nil=>exact nf h
   | cons e es=>
    obtain⟨h1,h2⟩:=cG h
    exact pR (hc.e M h1 RT Y old σ) (hs.a M h2 RT Y old σ) (aL h1)
 . cases cs with
   | nil=>cases e with
    | none=>exact nf h
    | some e=>exact aHp (hc.e M (by exact h) RT Y old σ)
   | cons _ _=>cases e <;> exact nf h
 . cases es with
   | nil=>exact nf h
   | cons e es=>
    obtain⟨h1,h2⟩:=cG h
    cases es with
    | nil=>cases cs with
     | nil=>exact aFi (hc.t M h1 RT Y old σ)
     | cons _ _=>exact absurd h2 bN
    | cons _ _=>simp at hl
theorem aHR{c:E}(hc:Q3 P n c):QI P n (.seq c):=λ{X Γ} M {tg e} h RT Y old σ=>aHs (hc.e M (by exact h) RT Y old σ)
theorem aHS{a b:E}(ha:Q3 P n a)(hb:Q3 P n b):QI P n (.rng a b):=λ{X Γ} M {tg e} h RT Y old σ=>by
 rw[sU] at h
 obtain⟨⟨f,xs⟩,h1,g⟩:=aD h
 clear h
 obtain⟨p1,p2,rfl⟩:=h1
 have h:=g
 clear g
 obtain⟨h1,h2,h3⟩:=dU h
 rcases xs with _|⟨x,_|⟨y,_|⟨_,_⟩⟩⟩
 . cases h3
 . obtain⟨h3,h4⟩:=cG h3
   have ez:a=.c (.int 0):=by
    unfold uG at h3
    split at h3
    . rw[eq_of_beq h3]
    . cases h3
   rw[ez]
   exact aFf M (eq_of_beq h1) h2 (hb.e M h4 RT Y old σ) (aL h4)
 . obtain⟨h3,h4⟩:=cG h3
   exact aFg M (eq_of_beq h1) h2 (ha.e M h3 RT Y old σ) (hb.e M h4 RT Y old σ) (aL h3) (aL h4)
 . cases h3
theorem aBl{it:Hp.It}(z:∀Γ tt e,chkI Γ tt it e=false):QI P n it:=by
 intro X Γ M tg e h RT Y old σ
 rw[z] at h
 cases h
mutual
theorem qE:(c:E)->Q3 P n c
 | .c _=>n_c
 | .v _=>n_v
 | .op _ a b=>aJJ (qE a) (qE b)
 | .neg _=>dC rfl
 | .nt a=>aJK (qE a)
 | .an a b=>aJL (qE a) (qE b)
 | .orr a b=>aHF (qE a) (qE b)
 | .ife t a b=>aHG (qE t) (qE a) (qE b)
 | .cmp _ a b=>aHH (qE a) (qE b)
 | .dnin _ _=>dC rfl
 | .dget _ _=>dC rfl
 | .dlen _=>dC rfl
 | .din a _=>aHI (qE a)
 | .dgd _ a _=>aHJ (qE a)
 | .srtD _=>aFB
 | .sop _ a b=>aHK (qE a) (qE b)
 | .cmp2 _ _ _ _ _=>dC rfl
 | .idx a b=>aHL (qE a) (qE b)
 | .sli a lo hi=>aHM (qE a) (qA lo) (qA hi)
 | .tup es=>aHN (qA es)
 | .lst es=>aHO (qA es)
 | .dic _ _=>dC rfl
 | .call _ es=>aFC (qA es)
 | .bi _ es=>aJM (qA es)
 | .mth _ _ _=>dC rfl
 | .isi a _=>aHP (qE a)
 | .attr _ _=>dC rfl
 | .comp _ _ _ it cond elt=>aFD (qI it) (qA cond) (qE elt)
 | .numset _=>dC rfl
 | .tget _ _=>dC rfl
 | .lzip _ _=>dC rfl
theorem qA:(cs:Es)->QA P n cs
 | .nil=>aHQ
 | .cons c cs=>aFE (qE c) (qA cs)
theorem qI:(it:Hp.It)->QI P n it
 | .seq c=>aHR (qE c)
 | .rng a b=>aHS (qE a) (qE b)
 | .zip _ _=>aBl λ_ _ _=>rfl
 | .enum _=>aBl λ_ _ _=>rfl
 | .rev _=>aBl λ_ _ _=>rfl
end
theorem sE(c:E):PEc P n c:=(qE c).e
theorem sT(c:E):PTc P n c:=(qE c).t
theorem sTs(cs:Es):∀{X:Cx} {Γ:Ct},Mc X P Γ n->∀{es:List Expr},es.length<=1->chkEs Γ cs es=true->∀(RT Y old:Addr->Prop) (σ:Sg),PTs X es (wTs X P n RT Y old σ cs):=(qA cs).ts
theorem sI(it:Hp.It):QI P n it:=qI it
end
end Hp
end
noncomputable section
set_option maxHeartbeats 4000000
namespace Hp
open PySem PySem.Spec PyProof.Rows L2
noncomputable def bW(K:Fg)(RT Y old:Addr->Prop)(H:Hp)(σ':Sg)(Q:L2.St->Hp->Prop):Prop:=
 ∀(RT':Addr->Prop) (σV':L2.St) (H':Hp),Kp RT H H'->(∀b,RT' b->RT b\/H b=none)->Sx K RT' Y old σ' σV' H'->Q σV' H'
noncomputable def Rtv(K:Fg)(Y old:Addr->Prop)(H':Hp)(v:Vl)(u:V):Prop:=
 if v.fr=true then ∃a xs ds,u=.ref a/\v.d=.lst ds/\¬ old a/\H' a=some (.lst xs)/\Reps K H' (λb=>b=a\/exB Y old v.pa b) ds xs
 else Rep K H' (exB Y old v.pa) v.d u
noncomputable def mF(K:Fg)(RT Y old:Addr->Prop)(H:Hp)(v:Vl)(Q:VK):Prop:=∀(u:V) (H':Hp),Kp RT H H'->Tk K H'->Rtv K Y old H' v u->Q u H'
noncomputable def OE(K:Fg)(RT Y old:Addr->Prop)(H:Hp)(o:O)(D:Ends):Prop:=match o with
 | .next σ'=>bW K RT Y old H σ' D.nx
 | .brk σ'=>bW K RT Y old H σ' D.bk
 | .cnt σ'=>bW K RT Y old H σ' D.ct
 | .ret v=>mF K RT Y old H v D.rt
 | .exc _ _=>False
 | .bad=>False
noncomputable def wS(X:Cx)(RT Y old:Addr->Prop)(σ:Sg)(o:O):TS:=λD σV H=>Sx X.K RT Y old σ σV H/\OE X.K RT Y old H o D
section
variable {K:Fg} {RT RT' RT'' Y old:Addr->Prop} {σ:Sg} {σV:L2.St} {H H1 H2:Hp} {o:O} {D D':Ends}
theorem Kp.chain(a:Kp RT H H1)(s:∀b,RT' b->RT b\/H b=none)(b:Kp RT' H1 H2):Kp RT H H2:=λc o e n=>b c o (a c o e n) λz=>(s c z).elim n λq=>by rw[q] at e;cases e
theorem jI(a:Kp RT H H1)(s1:∀b,RT' b->RT b\/H b=none)(s2:∀b,RT'' b->RT' b\/H1 b=none):∀b,RT'' b->RT b\/H b=none:=λb z=>by
 rcases s2 b z with q|q
 . exact s1 b q
 . by_cases hr:RT b
   . exact .inl hr
   . refine .inr ?_
     cases e:H b with
     | none=>rfl
     | some o=>rw[a b o e hr] at q;cases q
theorem bW.mono{σ':Sg}{Q:L2.St->Hp->Prop}(a:Kp RT H H1)(s:∀b,RT' b->RT b\/H b=none)(h:bW K RT Y old H σ' Q):bW K RT' Y old H1 σ' Q:=λRT2 σV2 H2 k n S=>h RT2 σV2 H2 (a.chain s k) (jI a s n) S
theorem OE.mono(a:Kp RT H H1)(s:∀b,RT' b->RT b\/H b=none)(h:OE K RT Y old H o D):OE K RT' Y old H1 o D:=by
 cases o with
 | next σ'=>exact bW.mono a s h
 | brk σ'=>exact bW.mono a s h
 | cnt σ'=>exact bW.mono a s h
 | ret v=>exact λu H2 k t r=>(show mF K RT Y old H v D.rt from h) u H2 (a.chain s k) t r
 | exc x σ'=>exact h
 | bad=>exact h
theorem aV:∀b,RT b->RT b\/H b=none:=λ_ z=>.inl z
noncomputable def tkE(K:Fg)(D:Ends):Ends:=⟨λσ H=>Tk K H->D.nx σ H,λv H=>Tk K H->D.rt v H,λσ H=>Tk K H->D.bk σ H,λσ H=>Tk K H->D.ct σ H⟩
theorem OE.from{α:Type}{x:R α}{f:α->O}(h:OE K RT Y old H (O.from σ x f) D):RE x λa=>OE K RT Y old H (f a) D:=by
 cases x with
 | ok a=>exact h
 | exc e=>exact h
 | bad=>exact h
end
section
variable {X:Cx} {st:Stmt} {t t':TS}
theorem aDZ{pins:List (Addr×Obj)}{D:Ends}{f:Flow}{s':Shared}(h:SP X pins (tkE X.K D) f s'):SP X pins D f s':=by
 cases f with
 | next=>obtain⟨σ',H',I,q⟩:=h;exact⟨σ',H',I,q I.tk⟩
 | brk=>obtain⟨σ',H',I,q⟩:=h;exact⟨σ',H',I,q I.tk⟩
 | cont=>obtain⟨σ',H',I,q⟩:=h;exact⟨σ',H',I,q I.tk⟩
 | ret u=>obtain⟨v,σ',H',I,r,q⟩:=h;exact⟨v,σ',H',I,r,q I.tk⟩
theorem bC(h:PS X st t)(f:∀D σV H,Tk X.K H->t' D σV H->t (tkE X.K D) σV H):PS X st t':=λpins s σV H D I hw=>thn (h pins s σV H _ I (f D σV H I.tk hw)) λfl s' q=>aDZ q
theorem qL{sts:List Stmt}(h:PSs X sts t)(f:∀D σV H,Tk X.K H->t' D σV H->t (tkE X.K D) σV H):PSs X sts t':=λpins s σV H D I hw=>thn (h pins s σV H _ I (f D σV H I.tk hw)) λfl s' q=>aDZ q
theorem wZ{Y old:Addr->Prop}{sts:List Stmt}{f:Sg->O}(h:∀RT σ,PSs X sts (wS X RT Y old σ (f σ))):PSs X sts (λD σV H=>∃RT σ,wS X RT Y old σ (f σ) D σV H):=λpins s σV H D I ⟨RT,σ,hw⟩=>h RT σ pins s σV H D I hw
end
section
variable {X:Cx} {P:Pg} {Γ:Ct} {n:Nat} {RT Y old:Addr->Prop} {σ:Sg} {pos:Pos}
theorem bW.tkE{σ':Sg}{Q:L2.St->Hp->Prop}{H:Hp}(h:bW X.K RT Y old H σ' Q):bW X.K RT Y old H σ' λσ H=>Tk X.K H->Q σ H:=λRT' σV' H' k n S _=>h RT' σV' H' k n S
theorem OE.tkE{o:O}{D:Ends}{H:Hp}(h:OE X.K RT Y old H o D):OE X.K RT Y old H o (tkE X.K D):=by
 cases o with
 | next σ'=>exact bW.tkE h
 | brk σ'=>exact bW.tkE h
 | cnt σ'=>exact bW.tkE h
 | ret v=>exact λu H2 k t r _=>(show mF X.K RT Y old H v D.rt from h) u H2 k t r
 | exc x σ'=>exact h
 | bad=>exact h
theorem aHT:PSs X [] (wS X RT Y old σ (exs P (call P n) σ .nil)):=qL aBX λD σV H t ⟨S,h⟩ _=>(show bW X.K RT Y old H σ D.nx from h) RT σV H (Kp.refl RT H) aV S
theorem aFF{s:S}{ss:Ss}{x:Stmt}{xs:List Stmt}(h1:∀RT σ,PS X x (wS X RT Y old σ (ex P (call P n) σ s)))(h2:∀RT σ,PSs X xs (wS X RT Y old σ (exs P (call P n) σ ss))) :
 PSs X (x::xs) (wS X RT Y old σ (exs P (call P n) σ (.cons s ss))):=by
 refine qL (zL (h1 RT σ) (wZ h2)) λD σV H t ⟨S,h⟩=>?_
 have h:OE X.K RT Y old H ((ex P (call P n) σ s).on λσ'=>exs P (call P n) σ' ss) D:=h
 refine⟨S,?_⟩
 cases q:ex P (call P n) σ s with
 | next σ'=>
  rw[q] at h
  exact λRT' σV' H' k nn S'=>⟨RT',σ',S',(OE.mono k nn (show OE X.K RT Y old H (exs P (call P n) σ' ss) D from h)).tkE⟩
 | brk σ'=>rw[q] at h;exact OE.tkE (D:=D) (o:=.brk σ') h
 | cnt σ'=>rw[q] at h;exact OE.tkE (D:=D) (o:=.cnt σ') h
 | ret v=>rw[q] at h;exact OE.tkE (D:=D) (o:=.ret v) h
 | exc e σ'=>rw[q] at h;exact h
 | bad=>rw[q] at h;exact h
theorem aFG:PS X (.Pass pos) (wS X RT Y old σ (ex P (call P n) σ .pass)):=bC aBY λD σV H t ⟨S,h⟩ _=>(show bW X.K RT Y old H σ D.nx from h) RT σV H (Kp.refl RT H) aV S
theorem aHU:PS X (.Break pos) (wS X RT Y old σ (ex P (call P n) σ .brk)):=bC zM λD σV H t ⟨S,h⟩ _=>(show bW X.K RT Y old H σ D.bk from h) RT σV H (Kp.refl RT H) aV S
theorem aHV:PS X (.Continue pos) (wS X RT Y old σ (ex P (call P n) σ .cnt)):=bC rB λD σV H t ⟨S,h⟩ _=>(show bW X.K RT Y old H σ D.ct from h) RT σV H (Kp.refl RT H) aV S
theorem aHW{st:Stmt}{c:Nat}{k:Bool}{es:Es}:PS X st (wS X RT Y old σ (ex P (call P n) σ (.rse c k es))):=bC zO λD σV H t ⟨S,h⟩=>by
 have h:OE X.K RT Y old H (O.from σ (evs P (call P n) σ es) λvs=>.exc (.err c (if k then vs.map (·.d) else [])) σ) D:=h
 obtain⟨vs,_,q⟩:=(OE.from h).eq
 exact q
theorem xA{pa:Bool}{al:List Nat}{σV:L2.St}{b:Addr}(h:exB Y old pa b):exV RT Y old σ σV pa al b:=.inr h
theorem Ro.rtv{H H':Hp}{σV:L2.St}{v:Vl}{u:V}(S:Sx X.K RT Y old σ σV H)(ro:Ro X.K RT Y old σ σV H H' v u):Rtv X.K Y old H' v u:=by
 unfold Rtv
 by_cases hf:v.fr=true
 . rw[if_pos hf]
   obtain⟨s,h⟩:=ro
   rw[if_pos hf] at h
   obtain⟨a,xs,ds,e1,e2,e3,e4,r⟩:=h
   exact⟨a,xs,ds,e1,e2,λz=>S.trk a (.inr (.inr z)) e3,e4,r.weak λb z=>z.elim .inl λz=>.inr (xA z)⟩
 . rw[if_neg hf]
   exact Rep.weak (ro.rv S) λb z=>xA z
theorem aHX{c:E}{e:Expr}(he:PE X e (WE X P n RT Y old σ c)):PS X (.Return (some e) pos) (wS X RT Y old σ (ex P (call P n) σ (.ret c))):=by
 refine bC (zN he) λD σV H t ⟨S,h⟩=>?_
 have h:=OE.from (show OE X.K RT Y old H (O.from σ (ev P (call P n) σ c) .ret) D from h)
 exact wE.one S h λx u H1 hx t1 S1 r1 _=>(show mF X.K RT Y old H x D.rt from hx) u H1 (Kp.same r1.1) t1 (r1.rtv S)
theorem aFH:PS X (.Return none pos) (wS X RT Y old σ (ex P (call P n) σ .retN)):=bC aBZ λD σV H t ⟨S,h⟩ _=>(show mF X.K RT Y old H (.cl .non) D.rt from h) .non H (Kp.refl RT H) t rfl
theorem aFI{i:Nat}{x:Str}{p:Pos}(M:Mc X P Γ n)(hx:aW Γ i x=true):PS X (.Return (some (.Name x p)) pos) (wS X RT Y old σ (ex P (call P n) σ (.retv i))):=by
 have hpe:PE X (.Name x p) (aBU i):=by
  unfold aW at hx
  obtain⟨h1,h2,h3⟩:=dU hx
  exact gJ (by rw[M.N];exact eq_of_beq h1) (M.vis h2) (aN h3) (cI h3)
 refine bC (zN hpe) λD σV H t ⟨S,h⟩=>?_
 have h:OE X.K RT Y old H (match σ[i]? with|some (.own pa ds)=>.ret ⟨.lst ds,true,pa,[]⟩|_=>O.from σ (bX σ i) .ret) D:=h
 unfold bX at h
 cases e:σ[i]? with
 | none=>rw[e] at h;exact h.elim
 | some sl=>
  rw[e] at h
  cases sl with
  | dead=>exact h.elim
  | dct _=>exact h.elim
  | own pa ds=>
   obtain⟨a,xs,h1,h2,h3,h4,h5⟩:=S.own i pa ds e
   refine⟨.ref a,h1,λ_=>(show mF X.K RT Y old H ⟨.lst ds,true,pa,[]⟩ D.rt from h) _ H (Kp.refl RT H) t ?_⟩
   unfold Rtv
   rw[if_pos rfl]
   exact⟨a,xs,ds,rfl,rfl,h4,h2,h5.weak λb z=>z.elim (λz=>.inl (by rw[z];exact h3)) .inr⟩
  | sh pa d=>
   obtain⟨v,h1,h2⟩:=S.sh i pa d e
   refine⟨v,h1,λ_=>(show mF X.K RT Y old H ⟨d,false,pa&&!noL d,[]⟩ D.rt from h) v H (Kp.refl RT H) t ?_⟩
   unfold Rtv
   rw[if_neg bN]
   show Rep X.K H (exB Y old (pa&&!noL d)) d v
   cases hn:noL d with
   | true=>exact Rep.free d v hn h2
   | false=>
    refine h2.weak λb z=>.inr ?_
    rw[Bool.not_false,Bool.and_true] at z
    exact z
theorem aJN{c:E}{e:Expr}(he:PE X e (WE X P n RT Y old σ c))(hs:fB e=false):PS X (.Expr e pos) (wS X RT Y old σ (ex P (call P n) σ (.ex c))):=by
 refine bC (gY he (by cases e <;> first|rfl|cases hs)) λD σV H t ⟨S,h⟩=>?_
 have h:=OE.from (show OE X.K RT Y old H (O.from σ (ev P (call P n) σ c) λ_=>.next σ) D from h)
 exact wE.one S h λx u H1 hx t1 S1 r1 _=>(show bW X.K RT Y old H σ D.nx from hx) RT σV H1 (Kp.same r1.1) aV S1
theorem aJO{c:E}{a b:Ss}{e:Expr}{xa xb:List Stmt}(hc:PT X e (WT X P n RT Y old σ c))(ha:∀RT σ,PSs X xa (wS X RT Y old σ (exs P (call P n) σ a)))(hb:∀RT σ,PSs X xb (wS X RT Y old σ (exs P (call P n) σ b))) :
 PS X (.If e xa xb pos) (wS X RT Y old σ (ex P (call P n) σ (.iff c a b))):=by
 refine bC (aGu hc (ha RT σ) (hb RT σ)) λD σV H t ⟨S,h⟩=>?_
 have h:=OE.from (show OE X.K RT Y old H (O.from σ (tst P (call P n) σ c) λk=>if k=true then exs P (call P n) σ a else exs P (call P n) σ b) D from h)
 refine⟨S,h.mono λk hk H1 t1 s1=>?_⟩
 cases k with
 | true=>rw[if_pos rfl] at hk ⊢;exact⟨S.grow s1 t1,(OE.mono (Kp.same s1) aV hk).tkE⟩
 | false=>rw[if_neg bN] at hk ⊢;exact⟨S.grow s1 t1,(OE.mono (Kp.same s1) aV hk).tkE⟩
theorem qM{σV:L2.St}{H H1:Hp}{v:Vl}{u:V}{t:T}{D:Ends}(S:Sx X.K RT Y old σ σV H)(t1:Tk X.K H1)(r1:Ro X.K RT Y old σ σV H H1 v u)(h:OE X.K RT Y old H (O.from σ (setT (freeze σ v.al) v t) .next) D):gT X.K t u σV H1 D.nx:=by
 obtain⟨σ2,e,hp⟩:=(OE.from h).eq
 have hp:bW X.K RT Y old H σ2 D.nx:=hp
 clear h
 cases t with
 | n i=>
  obtain⟨RT',S',hsub⟩:=S.store r1 t1 i
  rw[lL e] at hp
  exact hp RT' _ H1 (Kp.same r1.1) hsub S'
 | t is=>
  obtain⟨ds,hd,hl,e'⟩:=lK e
  have Sf:=(S.grow r1.1 t1).frz v.al
  have hr:Rep X.K H1 (λa=>rtF RT σ σV v.al a\/exB Y old v.pa a) v.d u:=r1.rv S
  have hf:v.fr=false\/v.fr=true:=by cases v.fr <;> simp
  rcases hf with hf|hf
  . exact vX Sf hf hr e λσ2V S2 _=>hp _ _ _ (Kp.same r1.1) (λb z=>.inl z.1) S2
  . have:=r1.2
    rw[if_pos hf] at this
    obtain⟨a,xs,ds',_,e2,_⟩:=this
    rw[hd] at e2;cases e2
theorem aFJ{c:E}{e:Expr}{i:Nat}{x:Str}{p:Pos}(M:Mc X P Γ n)(hx:aZ Γ i x=true)(he:PE X e (WE X P n RT Y old σ c))(hs:fB e=false):PS X (.Assign [.Name x p] e pos) (wS X RT Y old σ (ex P (call P n) σ (.set (.n i) c))):=by
 unfold aZ at hx
 obtain⟨h1,h2,h3⟩:=dU hx
 refine bC (pC (i:=i) M.nd (by rw[M.N];exact eq_of_beq h1) (M.loc h2) he (by cases e <;> first|rfl|cases hs) (M.st x h2)) λD σV H t ⟨S,h⟩=>?_
 have h:=OE.from (show OE X.K RT Y old H (O.from σ (ev P (call P n) σ c) λv=>O.from σ (setT (freeze σ v.al) v (.n i)) .next) D from h)
 exact wE.one S h λv u H1 hv t1 S1 r1=>qM (t:=.n i) S t1 r1 (OE.tkE hv)
theorem aFK{c:E}{e:Expr}{is:List Nat}{es:List Expr}{k:Nat}{p:Pos}(M:Mc X P Γ n)(hx:jV Γ (.t is) (.Tuple es k p)=true)(he:PE X e (WE X P n RT Y old σ c))(hs:iX e=false):PS X (.Assign [.Tuple es k p] e pos) (wS X RT Y old σ (ex P (call P n) σ (.set (.t is) c))):=by
 refine bC (pB he (aAP M hx) (by cases e <;> rfl) (by cases e <;> first|rfl|cases hs)) λD σV H t ⟨S,h⟩=>?_
 have h:=OE.from (show OE X.K RT Y old H (O.from σ (ev P (call P n) σ c) λv=>O.from σ (setT (freeze σ v.al) v (.t is)) .next) D from h)
 exact wE.one S h λv u H1 hv t1 S1 r1=>qM (t:=.t is) S t1 r1 (OE.tkE hv)
theorem yV{i:Nat}{x:Str}{p cpos:Pos}(M:Mc X P Γ n)(hx:aZ Γ i x=true){k:Nat}{caps:List Nat}{t:T}{it:Hp.It}{cond:Es}{elt:E}{e tg iter:Expr}{ifs:List Expr}{scope:Scope}{N':List Str}(CS:bU X scope k caps N')(hnd:caps.Nodup)(hk:∀i∈tIx t,i<k)
 (hi:PI X tg iter (wI X P n RT Y old σ it))
 (hch:∀C s₀ H₀ ex,PG (cD X scope N' C s₀ H₀ ex) tg (gT X.K t)/\(∀RT Y old σ1,PTs (cD X scope N' C s₀ H₀ ex) ifs (wTs X P n RT Y old σ1 cond))/\∀RT Y old σ1,PE (cD X scope N' C s₀ H₀ ex) e (WE X P n RT Y old σ1 elt))
 (hs:∀x,foldedSetIterable iter X.env x=pure x):PS X (.Assign [.Name x p] (.ListComp e [⟨tg,iter,ifs,0⟩] scope cpos) pos) (wS X RT Y old σ (ex P (call P n) σ (.set (.n i) (.comp k caps t it cond elt)))):=by
 unfold aZ at hx
 obtain⟨h1,h2,h3⟩:=dU hx
 refine bC (uJ (g:=gT X.K t) (tt:=λσV H Q=>∃RT Y old σ1,wTs X P n RT Y old σ1 cond σV H Q) (te:=λσV H Q=>∃RT Y old σ1,WE X P n RT Y old σ1 elt σV H Q) CS M.calm hi (λC s₀ H₀ ex=>?_) hs M.nd (by rw[M.N];exact eq_of_beq h1) (M.loc h2) (M.st x h2)) λD σV H t0 ⟨S,h⟩=>?_
 . obtain⟨h1,h2,h3⟩:=hch C s₀ H₀ ex
   exact⟨h1,λpins s σV H Q I ⟨RT,Y,old,σ1,hw⟩=>h2 RT Y old σ1 pins s σV H Q I hw,λpins s σV H Q I ⟨RT,Y,old,σ1,hw⟩=>h3 RT Y old σ1 pins s σV H Q I hw⟩
 . have h:=OE.from (show OE X.K RT Y old H (O.from σ (ev P (call P n) σ (.comp k caps t it cond elt)) λv=>O.from σ (setT (freeze σ v.al) v (.n i)) .next) D from h)
   exact aAR (Q:=λv H'=>nK i v σV H' D.nx) hnd hk ⟨S,h.mono λv hv u H1 t1 r1=>qM (t:=.n i) S t1 r1 hv⟩
theorem Sx.mut{K:Fg}{σV:L2.St}{H:Hp}(S:Sx K RT Y old σ σV H){i:Nat}{pa pa':Bool}{ds ds':List D}{a:Addr}{xs':List V}(e:σ[i]? = some (.own pa ds))(ha:σV[i]? = some (some (.ref a)))(r:Reps K H (λb=>RT b\/exB Y old pa' b) ds' xs') :
 Sx K RT Y old (σ.set i (.own pa' ds')) σV (upd H a (.lst xs')):=by
 obtain⟨a',xs,h1,h2,h3,h4,h5⟩:=S.own i pa ds e
 rw[ha] at h1
 cases h1
 have ks:∀{ex:Addr->Prop},∀b o,H b=some o->(∀ys,o=.lst ys->¬ (RT b\/ex b))->(∀φ,o≠.ext φ)->upd H a (.lst xs') b=some o:=λ{ex} b o q hl _=>by
  rw[aJ λz=>by subst z;rw[h2] at q;cases q;exact hl xs rfl (.inl h3)]
  exact q
 exact {
  sh:=λj pb d q=>by
   rcases set_some q with⟨_,z,_⟩|⟨_,q⟩
   . cases z
   . obtain⟨v,g1,g2⟩:=S.sh j pb d q
     exact⟨v,g1,g2.keep ks⟩
  own:=λj pb dd q=>by
   rcases set_some q with⟨rfl,z,_⟩|⟨hne,q⟩
   . cases z
     exact⟨a,xs',ha,bD,h3,h4,r.keep ks⟩
   . obtain⟨b,ys,g1,g2,g3,g4,g5⟩:=S.own j pb dd q
     have hb:b≠a:=λz=>by
      subst z
      exact hne (S.inj i j pa pb ds dd b e q ha g1)
     exact⟨b,ys,g1,by rw[aJ hb];exact g2,g3,g4,g5.keep ks⟩
  trk:=λb z q=>by
   by_cases hb:b=a
   . rw[hb,bD] at q;cases q
   . rw[aJ hb] at q;exact S.trk b z q
  yo:=S.yo
  tk:=λb z=>by
   by_cases hb:b=a
   . rw[hb];exact S.tk a (by rw[h2];simp)
   . rw[aJ hb] at z;exact S.tk b z
  rt:=λb z=>by
   by_cases hb:b=a
   . rw[hb];exact .inl ⟨xs',bD⟩
   . unfold RtO;rw[aJ hb];exact S.rt b z
  inj:=λj j' pb pb' dd dd' b q1 q2=>by
   have get:∀{j:Nat} {pb:Bool} {dd:List D},(σ.set i (.own pa' ds'))[j]? = some (.own pb dd)->∃p2 d2,σ[j]? = some (.own p2 d2):=λ{j pb dd} q=>by
    rcases set_some q with⟨rfl,_,_⟩|⟨_,q⟩
    . exact⟨pa,ds,e⟩
    . exact⟨pb,dd,q⟩
   obtain⟨_,_,z1⟩:=get q1
   obtain⟨_,_,z2⟩:=get q2
   exact S.inj j j' _ _ _ _ b z1 z2
  len:=by rw[List.length_set];exact S.len
  dx:=S.dx.imp id (λj dd q=>by
   rcases set_some q with⟨_,z,_⟩|⟨_,q⟩
   . cases z
   . exact⟨q,rfl⟩) (λ_ _ _ _ _ _ e=>e) (λb ys q z _=>⟨by rw[aJ λw=>by rw[w,h2] at q;cases q];exact q,z⟩) λb ks z=>Kp.seqT (R:=λb=>b=a) (λb o q n=>by rw[aJ n];exact q) (λb z=>.inl ⟨xs,by rw[z];exact h2⟩) z }
theorem Kp.upd{H H1:Hp}{a:Addr}{xs:List V}(s:aH H H1)(h:RT a):Kp RT H (upd H1 a (.lst xs)):=λb o e nn=>by
 rw[aJ λz=>nn (by rw[z];exact h)]
 exact s b o e
theorem mH{i:Nat}{pa:Bool}{ds:List D}(h:jN σ i=some (pa,ds)):σ[i]? = some (.own pa ds):=by
 unfold jN at h
 split at h
 . rename_i q;cases h;exact q
 . cases h
theorem uW{i:Nat}{v:Vl}{f:List D->Option (List D)}{H:Hp}{D:Ends}(h:OE X.K RT Y old H (put σ i v f) D):∃pa ds ds',σ[i]? = some (.own pa ds)/\i∉v.al/\f ds=some ds'/\ds'.length<=lim/\bW X.K RT Y old H ((freeze σ v.al).set i (.own (pa||v.pa) ds')) D.nx:=by
 unfold put at h
 split at h
 . rename_i pa ds q
   have q:=dB (mH q)
   split at h
   . rename_i ds' q2
     split at h
     . rename_i hl
       exact⟨pa,ds,ds',q.1,q.2,q2,hl,h⟩
     . exact h.elim
   . exact h.elim
 . exact h.elim
theorem qN{pa pb:Bool}{b:Addr}(h:exB Y old (pa||pb) b):exB Y old pa b:=h.imp_right λz=>⟨by cases pa <;> simp_all,z.2⟩
theorem xB{pa pb:Bool}{b:Addr}(h:exB Y old (pa||pb) b):exB Y old pb b:=h.imp_right λz=>⟨by cases pb <;> simp_all,z.2⟩
theorem iK{i:Nat}{m:Str}{c:Expr}{xs:List Expr}(h:gC Γ i m c=some xs):∃x p ap cp,c=.Call (.Attribute (.Name x p) m ap) xs [] cp/\aW Γ i x=true/\(ap.endLine==cp.line)=true:=by
 unfold gC at h
 split at h
 . rename_i x p a ap xs' cp
   split at h
   . rename_i q
     obtain⟨q1,q2,q3⟩:=dU q
     cases h
     have e:a=m:=eq_of_beq q1
     subst e
     exact⟨x,p,ap,cp,rfl,q2,q3⟩
   . cases h
 . cases h
theorem eO{i:Nat}{x:Str}{p:Pos}(M:Mc X P Γ n)(hx:aW Γ i x=true):PE X (.Name x p) (aBU i):=by
 unfold aW at hx
 obtain⟨h1,h2,h3⟩:=dU hx
 exact gJ (by rw[M.N];exact eq_of_beq h1) (M.vis h2) (aN h3) (cI h3)
theorem qO:lim<sizeLine:=by rw[sizeLine_eq];decide
theorem mI{i:Nat}{al:List Nat}{pa:Bool}{ds:List D}{σV:L2.St}{H H1:Hp}{b:Addr}{xs:List V}(S:Sx X.K RT Y old σ σV H)(s1:aH H H1)(q1:σ[i]? = some (.own pa ds))(h1:σV[i]? = some (some (.ref b)))(h2:H b=some (.lst xs)) :
 Reps X.K H1 (λc=>rtF RT σ σV al c\/exB Y old pa c) ds xs:=by
 obtain⟨b',xs',g1,g2,g3,g4,g5⟩:=S.own i pa ds q1
 rw[h1] at g1
 cases g1
 rw[h2] at g2
 cases g2
 exact(g5.grow s1).weak λc z=>z.elim (λz=>.inl z.1) .inr
theorem mJ{i:Nat}{v:Vl}{pa:Bool}{ds ds':List D}{σV:L2.St}{H H1:Hp}{b:Addr}{xs':List V}{Q:L2.St->Hp->Prop}(S:Sx X.K RT Y old σ σV H)(s1:aH H H1)(t1:Tk X.K H1)(q1:σ[i]? = some (.own pa ds))(q2:i∉v.al)(h1:σV[i]? = some (some (.ref b)))
 (r:Reps X.K H1 (λc=>rtF RT σ σV v.al c\/exB Y old (pa||v.pa) c) ds' xs') (hpost:bW X.K RT Y old H ((freeze σ v.al).set i (.own (pa||v.pa) ds')) Q):Q σV (upd H1 b (.lst xs')):=by
 obtain⟨b',xs,g1,g2,g3,g4,g5⟩:=S.own i pa ds q1
 rw[h1] at g1
 cases g1
 have e':(freeze σ v.al)[i]? = some (.own pa ds):=by
  rw[dA,q1]
  simp[q2]
 exact hpost _ σV _ (Kp.upd s1 g3) (λc z=>.inl z.1) (((S.grow s1 t1).frz v.al).mut e' h1 r)
theorem aFL{σV:L2.St}{H1:Hp}{v:Vl}{u:V}{pa:Bool}(h:Rv X.K RT Y old σ σV H1 v u):Rep X.K H1 (λc=>rtF RT σ σV v.al c\/exB Y old (pa||v.pa) c) v.d u:=Rep.weak h λc z=>z.imp id xB
theorem aHY{i:Nat}{c:E}{e a:Expr}(M:Mc X P Γ n)(hc:gC Γ i "append" e=some [a])(ha:PE X a (WE X P n RT Y old σ c))(hp:aQ a=true):PS X (.Expr e pos) (wS X RT Y old σ (ex P (call P n) σ (.app i c))):=by
 obtain⟨x,p,ap,cp,rfl,hx,hl⟩:=iK hc
 refine bC (gY (aDC PySem.F.plainAttrs_list PySem.F.slot_list_append PySem.F.type_list_append xZ (eO M hx) (eF ha iT (aB hp)) rfl (by rw[aB hp];rfl) hl (aB hp) rfl)) λD σV H t ⟨S,h⟩=>?_
 have h:=OE.from (show OE X.K RT Y old H (O.from σ (ev P (call P n) σ c) λv=>put σ i v λds=>some (ds++[v.d])) D from h)
 obtain⟨v,ee,h⟩:=h.eq
 obtain⟨pa,ds,ds',q1,q2,q3,q4,hpost⟩:=uW h
 cases q3
 obtain⟨b,xs,h1,h2,h3,h4,h5⟩:=S.own i pa ds q1
 refine⟨.ref b,h1,.inl ⟨rfl,xs,SqL.of h2⟩,S,?_⟩
 rw[ee]
 intro u H1 t1 r1
 have hlen:=h5.length
 refine⟨b,xs,u,rfl,rfl,r1.1 _ _ h2,?_,λ_=>?_⟩
 . rw[lA,List.length_singleton] at q4
   have:=qO
   omega
 . exact mJ S r1.1 t1 q1 q2 h1 (((mI S r1.1 q1 h1 h2).weak λc z=>z.imp id qN).append (.cons (aFL (r1.rv S)) .nil)) hpost
theorem aHZ{i:Nat}{c:E}{e a:Expr}(M:Mc X P Γ n)(hc:gC Γ i "extend" e=some [a])(ha:PE X a (WE X P n RT Y old σ c))(hp:aQ a=true):PS X (.Expr e pos) (wS X RT Y old σ (ex P (call P n) σ (.ext i c))):=by
 obtain⟨x,p,ap,cp,rfl,hx,hl⟩:=iK hc
 refine bC (gY (aDC PySem.F.plainAttrs_list PySem.F.slot_list_extend PySem.F.type_list_extend yA (eO M hx) (eF ha iT (aB hp)) rfl (by rw[aB hp];rfl) hl (aB hp) rfl)) λD σV H t ⟨S,h⟩=>?_
 have h:=OE.from (show OE X.K RT Y old H (O.from σ (ev P (call P n) σ c) λv=>(match kY v with|some (v',ds')=>put σ i v' λds=>some (ds++ds')|none=>.bad)) D from h)
 obtain⟨v,ee,h⟩:=h.eq
 unfold kY at h
 cases hf:v.fr with
 | false=>rw[hf] at h;exact h.elim
 | true=>
  rw[hf] at h
  cases hd:v.d with
  | lst es=>
   rw[hd] at h
   obtain⟨pa,ds,ds',q1,q2,q3,q4,hpost⟩:=uW h
   cases q3
   obtain⟨b,xs,h1,h2,h3,h4,h5⟩:=S.own i pa ds q1
   refine⟨.ref b,h1,.inl ⟨rfl,xs,SqL.of h2⟩,S,?_⟩
   rw[ee]
   intro u H1 t1 r1
   have hr:=r1.2
   rw[if_pos hf] at hr
   obtain⟨a',ys,es',e1,e2,e3,e4,r⟩:=hr
   rw[hd] at e2
   cases e2
   subst e1
   have hlen:=h5.length
   have hlen2:=r.length
   refine⟨b,a',xs,ys,rfl,rfl,r1.1 _ _ h2,e4,?_,λ_=>?_⟩
   . rw[lA] at q4
     have:=qO
     omega
   . refine mJ S r1.1 t1 q1 q2 h1 (((mI S r1.1 q1 h1 h2).weak λc z=>z.imp id qN).append ?_) hpost
     have rr:=eK (r.weak λb z=>.inr z)
     exact rr.weak λc z=>z.imp id xB
  | _=>rw[hd] at h;exact h.elim
theorem aIa{i:Nat}{e:Expr}(M:Mc X P Γ n)(hc:gC Γ i "reverse" e=some []):PS X (.Expr e pos) (wS X RT Y old σ (ex P (call P n) σ (.rev i))):=by
 obtain⟨x,p,ap,cp,rfl,hx,hl⟩:=iK hc
 refine bC (gY (aAd PySem.F.plainAttrs_list PySem.F.slot_list_reverse PySem.F.type_list_reverse tZ (eO M hx) rfl hl)) λD σV H t ⟨S,h⟩=>?_
 obtain⟨pa,ds,ds',q1,q2,q3,q4,hpost⟩:=uW (show OE X.K RT Y old H (put σ i (.cl .non) λds=>some ds.reverse) D from h)
 cases q3
 obtain⟨b,xs,h1,h2,h3,h4,h5⟩:=S.own i pa ds q1
 exact⟨.ref b,h1,.inl ⟨rfl,xs,SqL.of h2⟩,b,xs,rfl,rfl,h2,λ_=>mJ S (aH.refl H) t q1 q2 h1 (((mI S (aH.refl H) q1 h1 h2).weak λc z=>z.imp id qN).reverse) hpost⟩
theorem sV{i:Nat}{k:Option Int}{v:Vl}{σ':Sg}(h:hW σ i k=.ok (v,σ')):∃pa ds j d,σ[i]? = some (.own pa ds)/\ixN ds.length (k.getD (-1))=some j/\ds[j]? = some d/\v=Vl.sub ⟨.non,false,pa,[]⟩ d/\σ'=σ.set i (.own pa (ds.eraseIdx j)):=by
 unfold hW at h
 cases q:jN σ i with
 | none=>rw[q] at h;cases h
 | some pd=>
  obtain⟨pa,ds⟩:=pd
  rw[q] at h
  cases k with
  | none=>
   have h:(match ixN ds.length (-1) with|some j=>(match ds[j]? with|some d=>R.ok (Vl.sub ⟨.non,false,pa,[]⟩ d,σ.set i (.own pa (ds.eraseIdx j)))|none=>.bad)|none=>.bad)=R.ok (v,σ'):=h
   cases hj:ixN ds.length (-1) with
   | none=>rw[hj] at h;cases h
   | some j=>
    rw[hj] at h
    have h:(match ds[j]? with|some d=>R.ok (Vl.sub ⟨.non,false,pa,[]⟩ d,σ.set i (.own pa (ds.eraseIdx j)))|none=>.bad)=R.ok (v,σ'):=h
    cases hd:ds[j]? with
    | none=>rw[hd] at h;cases h
    | some d=>rw[hd] at h;cases h;exact⟨pa,ds,j,d,mH q,hj,hd,rfl,rfl⟩
  | some k=>
   have h:(match ixN ds.length k with|some j=>(match ds[j]? with|some d=>R.ok (Vl.sub ⟨.non,false,pa,[]⟩ d,σ.set i (.own pa (ds.eraseIdx j)))|none=>.bad)|none=>.bad)=R.ok (v,σ'):=h
   cases hj:ixN ds.length k with
   | none=>rw[hj] at h;cases h
   | some j=>
    rw[hj] at h
    have h:(match ds[j]? with|some d=>R.ok (Vl.sub ⟨.non,false,pa,[]⟩ d,σ.set i (.own pa (ds.eraseIdx j)))|none=>.bad)=R.ok (v,σ'):=h
    cases hd:ds[j]? with
    | none=>rw[hd] at h;cases h
    | some d=>rw[hd] at h;cases h;exact⟨pa,ds,j,d,mH q,hj,hd,rfl,rfl⟩
theorem aBm{i:Nat}{pa:Bool}{ds:List D}{j:Nat}{d:D}{σV:L2.St}{H H1:Hp}{b:Addr}{xs:List V}(S:Sx X.K RT Y old σ σV H)(s1:aH H H1)(t1:Tk X.K H1)(q1:σ[i]? = some (.own pa ds))(h1:σV[i]? = some (some (.ref b)))(h2:H b=some (.lst xs))(hd:ds[j]? = some d) :
 ∃y,xs[j]? = some y/\Kp RT H (upd H1 b (.lst (xs.eraseIdx j)))/\Sx X.K RT Y old (σ.set i (.own pa (ds.eraseIdx j))) σV (upd H1 b (.lst (xs.eraseIdx j))) /\
  Rep X.K (upd H1 b (.lst (xs.eraseIdx j))) (λa=>RT a\/exB Y old (Vl.sub ⟨.non,false,pa,[]⟩ d).pa a) (Vl.sub ⟨.non,false,pa,[]⟩ d).d y:=by
 have S1:=S.grow s1 t1
 obtain⟨b',xs',g1,g2,g3,g4,g5⟩:=S1.own i pa ds q1
 rw[h1] at g1
 cases g1
 rw[s1 _ _ h2] at g2
 cases g2
 obtain⟨y,hy,ry⟩:=g5.get hd
 refine⟨y,hy,Kp.upd s1 g3,S1.mut q1 h1 (g5.eraseIdx j),?_⟩
 have ry':Rep X.K (upd H1 b (.lst (xs.eraseIdx j))) (λa=>RT a\/exB Y old pa a) d y:=ry.keep λc o e hl _=>by
  rw[aJ λz=>by subst z;rw[s1 _ _ h2] at e;cases e;exact hl xs rfl (.inl g3)]
  exact e
 unfold Vl.sub
 by_cases hn:noL d=true
 . rw[if_pos hn];exact Rep.free d y hn ry'
 . rw[if_neg hn];exact ry'
noncomputable def aDa(X:Cx)(P:Pg)(n:Nat)(RT Y old:Addr->Prop)(σ:Sg)(i:Nat)(k:Option E):TE:=λσV H Q=>Sx X.K RT Y old σ σV H/\RE (vL (k.map λe=>ev P (call P n) σ e)) λk=>RE (hW σ i k) λr=>
 ∀u H',Kp RT H H'->Sx X.K RT Y old r.2 σV H'->Rep X.K H' (λa=>RT a\/exB Y old r.1.pa a) r.1.d u->Q u H'
theorem aBn{i:Nat}{e:Expr}(M:Mc X P Γ n)(hc:gC Γ i "pop" e=some []):PE X e (aDa X P n RT Y old σ i none):=by
 obtain⟨x,p,ap,cp,rfl,hx,hl⟩:=iK hc
 refine(aAd PySem.F.plainAttrs_list PySem.F.slot_list_pop PySem.F.type_list_pop aEJ (eO M hx) rfl hl).imp λσV H Q t ⟨S,h⟩=>?_
 obtain⟨⟨v,σ'⟩,ep,h⟩:=(show RE (hW σ i none) _ from h).eq
 obtain⟨pa,ds,j,d,q1,hj,hd,e1,e2⟩:=sV ep
 obtain⟨b,xs,h1,h2,h3,h4,h5⟩:=S.own i pa ds q1
 obtain⟨y,hy,kp,S2,ry⟩:=aBm S (aH.refl H) t q1 h1 h2 hd
 have hlen:=h5.length
 have hj':j=xs.length-1:=by
  unfold ixN at hj
  rw[Option.getD_none,if_neg (by decide)] at hj
  split at hj
  . have:=Option.some.inj hj
    omega
  . cases hj
 refine⟨.ref b,h1,.inl ⟨rfl,xs,SqL.of h2⟩,b,xs,y,rfl,rfl,h2,by rw[<-hj'];exact hy,λ_=>?_⟩
 rw[<-kP,<-hj']
 subst e1 e2
 exact h y _ kp S2 ry
theorem aFM{i:Nat}{k:Option E}{e:Expr}(he:PE X e (aDa X P n RT Y old σ i k))(hs:fB e=false):PS X (.Expr e pos) (wS X RT Y old σ (ex P (call P n) σ (.pop none i k))):=by
 refine bC (gY he (by cases e <;> first|rfl|cases hs)) λD σV H t ⟨S,h⟩=>?_
 have h:=OE.from (show OE X.K RT Y old H (O.from σ (vL (k.map λe=>ev P (call P n) σ e)) λk=>O.from σ (hW σ i k) λ(v,σ')=>.next σ') D from h)
 exact⟨S,h.mono λk hk=>(OE.from hk).mono λr hr u H' kp S2 ry _=>(show bW X.K RT Y old H r.2 D.nx from hr) RT σV H' kp aV S2⟩
theorem aFN{i:Nat}{k:Option E}{tt:T}{e tg:Expr}(M:Mc X P Γ n)(hx:jV Γ tt tg=true)(he:PE X e (aDa X P n RT Y old σ i k))(hs:fB e=false)(hs2:iX e=false):PS X (.Assign [tg] e pos) (wS X RT Y old σ (ex P (call P n) σ (.pop (some tt) i k))):=by
 have key:∀(D:Ends) (σV:L2.St) (H:Hp),wS X RT Y old σ (ex P (call P n) σ (.pop (some tt) i k)) D σV H->aCb (aDa X P n RT Y old σ i k) (gT X.K tt) D σV H:=λD σV H ⟨S,h⟩=>by
  have h:=OE.from (show OE X.K RT Y old H (O.from σ (vL (k.map λe=>ev P (call P n) σ e)) λk=>O.from σ (hW σ i k) λ(v,σ')=>O.from σ' (setT σ' v tt) .next) D from h)
  refine⟨S,h.mono λk hk=>?_⟩
  obtain⟨⟨v,σ'⟩,ep,hr⟩:=(OE.from hk).eq
  rw[ep]
  intro u H' kp S2 ry
  obtain⟨σ2,e2,hr⟩:=(OE.from (show OE X.K RT Y old H (O.from σ' (setT σ' v tt) .next) D from hr)).eq
  obtain⟨pa,ds,j,d,q1,hj,hd,e3,e4⟩:=sV ep
  exact vX S2 (by rw[e3];exact pU) ry e2 λσ2V S3 _=>(show bW X.K RT Y old H σ2 D.nx from hr) RT σ2V H' kp aV S3
 refine bC (pB he (aAP M hx) (by cases e <;> first|rfl|cases hs) (by
  cases tg with
  | Tuple es k p=>cases e <;> first|rfl|cases hs2
  | List es p=>cases tt <;> cases hx
  | _=>rfl) (by cases tg <;> first|rfl|(cases tt <;> cases hx))) λD σV H t hw=>key _ σV H ⟨hw.1,OE.tkE hw.2⟩
theorem Sx.move{K:Fg}{σV:L2.St}{H:Hp}(S:Sx K RT Y old σ σV H){i j:Nat}{pa:Bool}{ds:List D}{a:Addr}(e:σ[j]? = some (.own pa ds))(hij:i≠j)(ha:σV[j]? = some (some (.ref a))):Sx K RT Y old ((σ.set j .dead).set i (.own pa ds)) (σV.set i (some (.ref a))) H where
 sh:=λk pb d q=>by
  rcases set_some q with⟨_,z,_⟩|⟨n1,q⟩
  . cases z
  rcases set_some q with⟨_,z,_⟩|⟨n2,q⟩
  . cases z
  obtain⟨v,g1,g2⟩:=S.sh k pb d q
  exact⟨v,by rw[List.getElem?_set_ne n1];exact g1,g2⟩
 own:=λk pb dd q=>by
  rcases set_some q with⟨rfl,z,hl⟩|⟨n1,q⟩
  . cases z
    obtain⟨b,xs,g1,g2,g3⟩:=S.own j pa ds e
    rw[ha] at g1
    cases g1
    rw[List.length_set] at hl
    exact⟨a,xs,List.getElem?_set_self (by rw[<-S.len];exact hl),g2,g3⟩
  rcases set_some q with⟨_,z,_⟩|⟨n2,q⟩
  . cases z
  obtain⟨b,xs,g1,g2⟩:=S.own k pb dd q
  exact⟨b,xs,by rw[List.getElem?_set_ne n1];exact g1,g2⟩
 trk:=S.trk
 yo:=S.yo
 tk:=S.tk
 rt:=S.rt
 inj:=λk k' pb pb' dd dd' b q1 q2 v1 v2=>by
  have get:∀{k:Nat} {pb:Bool} {dd:List D},((σ.set j .dead).set i (.own pa ds))[k]? = some (.own pb dd)->(σV.set i (some (.ref a)))[k]? = some (some (.ref b))->(k=i/\b=a)\/(k≠i/\k≠j/\σ[k]? = some (.own pb dd)/\σV[k]? = some (some (.ref b))):=λ{k pb dd} q v=>by
   rcases set_some q with⟨rfl,z,hl⟩|⟨n1,q⟩
   . rw[List.length_set] at hl
     rw[List.getElem?_set_self (by rw[<-S.len];exact hl)] at v
     cases v
     exact .inl ⟨rfl,rfl⟩
   rcases set_some q with⟨_,z,_⟩|⟨n2,q⟩
   . cases z
   rw[List.getElem?_set_ne n1] at v
   exact .inr ⟨Ne.symm n1,Ne.symm n2,q,v⟩
  rcases get q1 v1 with⟨e1,b1⟩|⟨n1,m1,o1,w1⟩
  . rcases get q2 v2 with⟨e2,_⟩|⟨n2,m2,o2,w2⟩
    . rw[e1,e2]
    . subst b1
      exact absurd (S.inj k' j _ _ _ _ b o2 e w2 ha) m2
  . rcases get q2 v2 with⟨e2,b2⟩|⟨n2,m2,o2,w2⟩
    . subst b2
      exact absurd (S.inj k j _ _ _ _ b o1 e w1 ha) m1
    . exact S.inj k k' _ _ _ _ b o1 o2 w1 w2
 len:=by rw[List.length_set,List.length_set,List.length_set];exact S.len
 dx:=S.dx.imp id (λk dd q=>by
  rcases set_some q with⟨_,z,_⟩|⟨n1,q⟩
  . cases z
  rcases set_some q with⟨_,z,_⟩|⟨n2,q⟩
  . cases z
  exact⟨q,List.getElem?_set_ne n1⟩) (λ_ _ _ _ _ _ e=>e) (λ_ _ e z _=>⟨e,z⟩) λ_ _ r=>r
theorem aIb{i j:Nat}{x y:Str}{p p2:Pos}(M:Mc X P Γ n)(hx:aZ Γ i x=true)(hy:aW Γ j y=true):PS X (.Assign [.Name x p] (.Name y p2) pos) (wS X RT Y old σ (ex P (call P n) σ (.mov i j))):=by
 unfold aZ at hx
 obtain⟨h1,h2,h3⟩:=dU hx
 refine bC (pC (i:=i) M.nd (by rw[M.N];exact eq_of_beq h1) (M.loc h2) (eO M hy) rfl (M.st x h2)) λD σV H t ⟨S,h⟩=>?_
 have h:OE X.K RT Y old H (match σ[j]? with
  | some (.own pa ds)=>if i=j then .bad else .next ((σ.set j .dead).set i (.own pa ds))
  | some (.sh pa d)=>.next (σ.set i (.sh (pa&&!noL d) d))
  | _=>.bad) D:=h
 cases e:σ[j]? with
 | none=>rw[e] at h;exact h.elim
 | some sl=>
  rw[e] at h
  cases sl with
  | dead=>exact h.elim
  | dct _=>exact h.elim
  | own pa ds=>
   by_cases hij:i=j
   . have h:OE X.K RT Y old H (if i=j then .bad else .next ((σ.set j .dead).set i (.own pa ds))) D:=h
     rw[if_pos hij] at h;exact h.elim
   . have h:OE X.K RT Y old H (if i=j then .bad else .next ((σ.set j .dead).set i (.own pa ds))) D:=h
     rw[if_neg hij] at h
     obtain⟨a,xs,g1,g2⟩:=S.own j pa ds e
     exact⟨.ref a,g1,λ_=>(show bW X.K RT Y old H _ D.nx from h) RT _ H (Kp.refl RT H) aV (S.move e hij g1)⟩
  | sh pa d=>
   obtain⟨v,g1,g2⟩:=S.sh j pa d e
   refine⟨v,g1,λ_=>(show bW X.K RT Y old H (σ.set i (.sh (pa&&!noL d) d)) D.nx from h) RT _ H (Kp.refl RT H) aV (S.setSh ?_)⟩
   cases hn:noL d with
   | true=>exact Rep.free d v hn g2
   | false=>rw[Bool.not_false,Bool.and_true];exact g2
theorem aIc{t:T}{it:Hp.It}{b:Ss}{tg iter:Expr}{body:List Stmt}(M:Mc X P Γ n)(hx:jV Γ t tg=true)(hi:PI X tg iter (wI X P n RT Y old σ it))(hb:∀RT σ,PSs X body (wS X RT Y old σ (exs P (call P n) σ b)))(hs:∀x,foldedSetIterable iter X.env x=pure x) :
 PS X (.For tg iter body [] pos) (wS X RT Y old σ (ex P (call P n) σ (.for t it b))):=by
 have hp:PassesOwn (model X.prog X.w) X.A X.env X.xe:=by rw[M.xe];exact PassesOwn.never
 refine bC (aEt hp M.calm hi (aAP M hx) (wZ hb) hs) λD0 σV H t0 ⟨S,h⟩=>?_
 have h:=OE.tkE h
 revert h
 generalize tkE X.K D0=D
 intro h
 let f:Sg->Vl->O:=λσ x=>O.from σ (setT σ x t) λσ'=>exs P (call P n) σ' b
 have h:=OE.from (show OE X.K RT Y old H (O.from σ (walk P (call P n) σ it) λxs=>dX f xs.1 (freeze σ xs.2)) D from h)
 refine⟨S,h.mono λxs hx J H1 t1 s1 ok=>?_⟩
 have S1:=S.grow s1 t1
 have Sf:=S1.frz xs.2
 refine⟨λi m σ1V Hc=>m=xs.1.length-i/\i<=xs.1.length/\∃RT1 σ1,Kp (rtF RT σ σV xs.2) H1 Hc/\(∀b,RT1 b->rtF RT σ σV xs.2 b\/H1 b=none)/\Sx X.K RT1 Y old σ1 σ1V Hc/\OE X.K RT1 Y old Hc (dX f (xs.1.drop i) σ1) D,
  ⟨_,rfl,Nat.zero_le _,rtF RT σ σV xs.2,freeze σ xs.2,Kp.refl _ _,aV,Sf,OE.mono (Kp.same s1) (λb z=>.inl z.1) hx⟩,?_⟩
 rintro i m σ1V Hc ⟨hm,hi,RT1,σ1,kp,hsub,Sc,ho⟩
 have okc:=ok.ok (rtF RT σ σV xs.2) (λ_ z=>z) i Hc kp
 by_cases hlt:i<xs.1.length
 . refine .inr ⟨okc.1 hlt,λσ' H'=>xs.1.length-(i+1)=xs.1.length-(i+1)/\i+1<=xs.1.length/\∃RT1 σ1,Kp (rtF RT σ σV xs.2) H1 H'/\(∀b,RT1 b->rtF RT σ σV xs.2 b\/H1 b=none)/\Sx X.K RT1 Y old σ1 σ' H'/\OE X.K RT1 Y old H' (dX f (xs.1.drop (i+1)) σ1) D,
    λσ' H' hN=>⟨_,by omega,hN⟩,λx H' hy=>?_⟩
   have hxi:xs.1[i]? = some xs.1[i]:=List.getElem?_eq_getElem hlt
   obtain⟨sm,tkf,rv⟩:=okc.2.2 x H' hy xs.1[i] hxi
   have hmem:xs.1[i]∈xs.1:=List.getElem_mem hlt
   rw[List.drop_eq_getElem_cons hlt] at ho
   have Sc':=Sc.grow sm (tkf Sc.tk)
   have rep:Rep X.K H' (λa=>RT1 a\/exB Y old xs.1[i].pa a) xs.1[i].d x:=rv.weak λa z=>by
    rcases z with z|z
    . rcases hsub a z with q|q
      . exact .inl (.inl ⟨q.1,λw=>q.2 (w.mono (ok.sub _ hmem))⟩)
      . exact .inr ⟨q,Sc.tk a (Sc.trk a (.inl z))⟩
    . exact .inl (.inr z)
   have ho:OE X.K RT1 Y old Hc (match f σ1 xs.1[i] with
    | .next σ'=>dX f (xs.1.drop (i+1)) σ'
    | .cnt σ'=>dX f (xs.1.drop (i+1)) σ'
    | .brk σ'=>.next σ'
    | o=>o) D:=ho
   cases hset:setT σ1 xs.1[i] t with
   | exc e=>rw[show f σ1 xs.1[i]=.exc e σ1 by show O.from σ1 (setT σ1 xs.1[i] t) _=_;rw[hset];rfl] at ho;exact ho.elim
   | bad=>rw[show f σ1 xs.1[i]=.bad by show O.from σ1 (setT σ1 xs.1[i] t) _=_;rw[hset];rfl] at ho;exact ho.elim
   | ok σ2=>
    rw[show f σ1 xs.1[i]=exs P (call P n) σ2 b by show O.from σ1 (setT σ1 xs.1[i] t) _=_;rw[hset];rfl] at ho
    refine vX Sc' (ok.nofr _ hmem) rep hset λσ2V S2 _=>⟨RT1,σ2,S2,?_⟩
    have kS:Kp RT1 Hc H':=Kp.same sm
    have again:∀{σ':Sg} {RT':Addr->Prop} {σV':L2.St} {H'':Hp},Kp RT1 H' H''->(∀b,RT' b->RT1 b\/H' b=none)->Sx X.K RT' Y old σ' σV' H''->OE X.K RT1 Y old Hc (dX f (xs.1.drop (i+1)) σ') D ->
     (xs.1.length-(i+1)=xs.1.length-(i+1)/\i+1<=xs.1.length/\∃RT1 σ1,Kp (rtF RT σ σV xs.2) H1 H''/\(∀b,RT1 b->rtF RT σ σV xs.2 b\/H1 b=none)/\Sx X.K RT1 Y old σ1 σV' H''/\OE X.K RT1 Y old H'' (dX f (xs.1.drop (i+1)) σ1) D):=λ{σ' RT' σV' H''} k2 s2 S3 h3=>by
     have k3:Kp RT1 Hc H'':=kS.chain aV k2
     have s3:∀b,RT' b->RT1 b\/Hc b=none:=jI kS aV s2
     exact⟨rfl,hlt,RT',σ',kp.chain hsub k3,jI kp hsub s3,S3,OE.mono k3 s3 h3⟩
    cases q:exs P (call P n) σ2 b with
    | next σ'=>rw[q] at ho;exact λRT' σV' H'' k2 s2 S3=>again k2 s2 S3 ho
    | cnt σ'=>rw[q] at ho;exact λRT' σV' H'' k2 s2 S3=>again k2 s2 S3 ho
    | brk σ'=>rw[q] at ho;exact bW.mono kS aV (show bW X.K RT1 Y old Hc σ' D.nx from ho)
    | ret v=>rw[q] at ho;exact OE.mono (o:=.ret v) kS aV ho
    | exc e σ'=>rw[q] at ho;exact ho.elim
    | bad=>rw[q] at ho;exact ho.elim
 . have hie:i=xs.1.length:=by omega
   subst hie
   rw[List.drop_length] at ho
   exact .inl ⟨okc.2.1 (Nat.le_refl _),(show bW X.K RT1 Y old Hc σ1 D.nx from ho) RT1 σ1V Hc (Kp.refl _ _) aV Sc⟩
end
section
variable {X:Cx} {P:Pg} {Γ:Ct} {n:Nat} {RT Y old:Addr->Prop} {σ:Sg} {pos:Pos}
end
section
variable {X:Cx} {P:Pg} {Γ:Ct} {n:Nat} {RT Y old:Addr->Prop} {σ:Sg} {pos:Pos} {l:Nat} {K:Fg} {H:Hp} {σV:L2.St}
theorem Sx.putDct(S:Sx K RT Y old σ σV H){p:Addr}(hn:H p=none){xs0:List NE}{ks0:List (NK×D)}(t:Tk K (upd H p (bQ p xs0)))(hk0:xs0.map pj=ks0.map kV)(hx0:∀x∈xs0,aT K H x.1 x.2.1)(i:Nat):Sx K (λb=>RT b\/b=p) Y old (σ.set i (.dct ks0)) (σV.set i (some (.ref p))) (upd H p (bQ p xs0)):=by
 have s:aH H (upd H p (bQ p xs0)):=aH.new hn
 have ha:upd H p (bQ p xs0) p=some (bQ p xs0):=bD
 have hk:=t p (by rw[ha];simp)
 have w:∀{pa:Bool} b,(RT b\/b=p)\/exB Y old pa b->b=p\/RT b\/exB Y old pa b:=λ{pa} b z=>by
  rcases z with(z|z)|z
  . exact .inr (.inl z)
  . exact .inl z
  . exact .inr (.inr z)
 exact {
  sh:=λj pa d e=>by
   rcases set_some e with⟨_,z,_⟩|⟨hij,e⟩
   . cases z
   . obtain⟨v,h1,h2⟩:=S.sh j pa d e
     exact⟨v,by rw[List.getElem?_set_ne hij];exact h1,((h2.out hn hk).grow s).weak w⟩
  own:=λj pa ds e=>by
   rcases set_some e with⟨_,z,_⟩|⟨hij,e⟩
   . cases z
   . obtain⟨b,ys,h1,h2,h3,h4,h5⟩:=S.own j pa ds e
     exact⟨b,ys,by rw[List.getElem?_set_ne hij];exact h1,s _ _ h2,.inl h3,h4,((h5.out hn hk).grow s).weak w⟩
  trk:=λb z q=>by
   rcases z with(z|z)|z
   . exact S.trk b (.inl z) (s.free q)
   . rw[z,ha] at q;cases q
   . exact S.trk b (.inr z) (s.free q)
  yo:=S.yo
  tk:=t
  rt:=λb z=>by
   rcases z with z|z
   . exact(S.rt b z).grow s
   . rw[z];exact .inr ⟨xs0,ha⟩
  inj:=λj j' pa' pa'' ds ds' a e1 e2 e3 e4=>by
   rcases set_some e1 with⟨_,e,_⟩|⟨n1,e1⟩
   . cases e
   rcases set_some e2 with⟨_,e,_⟩|⟨n2,e2⟩
   . cases e
   rw[List.getElem?_set_ne n1] at e3
   rw[List.getElem?_set_ne n2] at e4
   exact S.inj j j' pa' pa'' ds ds' a e1 e2 e3 e4
  len:=by rw[List.length_set,List.length_set];exact S.len
  dx:={
   at':=λj ds e=>by
    rcases set_some e with⟨rfl,z,hl⟩|⟨hij,e⟩
    . cases z
      exact⟨p,xs0,List.getElem?_set_self (by rw[<-S.len];exact hl),ha,.inr rfl,λz=>S.trk p (.inr (.inr z)) hn,hk0,λx hx=>aT.imp (λ_ _ r=>aH.seqT s r) (hx0 x hx)⟩
    . obtain⟨a,xs,h1,h2,h3,h4,h5,h6⟩:=S.dx.at' j ds e
      exact⟨a,xs,by rw[List.getElem?_set_ne hij];exact h1,s _ _ h2,.inl h3,h4,h5,λx hx=>aT.imp (λ_ _ r=>aH.seqT s r) (h6 x hx)⟩
   inj:=λj j' ds ds' a e1 e2 e3 e4=>by
    have fr:∀{j:Nat} {ds:List (NK×D)},σ[j]? = some (.dct ds)->σV[j]? = some (some (.ref p))->False:=λ{j ds} e q=>by
     obtain⟨a',xs',h1,h2,_⟩:=S.dx.at' j ds e
     rw[q] at h1
     cases h1
     rw[hn] at h2;cases h2
    rcases set_some e1 with⟨rfl,e,hl⟩|⟨n1,e1⟩
    . rcases set_some e2 with⟨rfl,_,_⟩|⟨n2,e2⟩
      . rfl
      . rw[List.getElem?_set_self (by rw[<-S.len];exact hl)] at e3
        cases e3
        rw[List.getElem?_set_ne n2] at e4
        exact(fr e2 e4).elim
    . rw[List.getElem?_set_ne n1] at e3
      rcases set_some e2 with⟨rfl,e,hl⟩|⟨n2,e2⟩
      . rw[List.getElem?_set_self (by rw[<-S.len];exact hl)] at e4
        cases e4
        exact(fr e1 e3).elim
      . rw[List.getElem?_set_ne n2] at e4
        exact S.dx.inj j j' ds ds' a e1 e2 e3 e4 } }
theorem aFO{i:Nat}{x:Str}{p p2:Pos}(M:Mc X P Γ n)(hx:aZ Γ i x=true):PS X (.Assign [.Name x p] (.Dict [] [] p2) pos) (wS X RT Y old σ (ex P (call P n) σ (.dnew i))):=by
 unfold aZ at hx
 obtain⟨h1,h2,h3⟩:=dU hx
 refine bC (pC (i:=i) M.nd (by rw[M.N];exact eq_of_beq h1) (M.loc h2) aAj rfl (M.st x h2)) λD σV H t ⟨S,h⟩=>?_
 exact λq hq t'=>(show bW X.K RT Y old H (σ.set i (.dct [])) D.nx from h) (λb=>RT b\/b=q) _ _ (Kp.same (aH.new hq)) (λb z=>z.imp id λz=>by rw[z];exact hq) (S.putDct hq t' rfl (λx hx=>by cases hx) i)
theorem Sx.mutD(S:Sx K RT Y old σ σV H){i:Nat}{kvs kvs':List (NK×D)}{a:Addr}{xs xs':List NE}(e:σ[i]? = some (.dct kvs))(ha:σV[i]? = some (some (.ref a)))(hax:H a=some (bQ a xs))(haR:RT a)(hao:¬ old a)(r1:xs'.map pj=kvs'.map kV)(r:∀x∈xs',aT K H x.1 x.2.1) :
 Sx K RT Y old (σ.set i (.dct kvs')) σV (upd H a (bQ a xs')):=by
 have kp:Kp (λb=>b=a) H (upd H a (bQ a xs')):=λb o q n=>by rw[aJ n];exact q
 have hR:∀b,b=a->RtO H b:=λb z=>.inr ⟨xs,by rw[z];exact hax⟩
 have hl:∀{b:Addr} {ys:List V},H b=some (.lst ys)->b≠a:=λ{b ys} q z=>by rw[z,hax] at q;cases q
 exact {
  sh:=λj pb d q=>by
   rcases set_some q with⟨_,z,_⟩|⟨_,q⟩
   . cases z
   . obtain⟨v,g1,g2⟩:=S.sh j pb d q
     exact⟨v,g1,g2.kp kp hR λb z=>.inl (by rw[z];exact haR)⟩
  own:=λj pb dd q=>by
   rcases set_some q with⟨_,z,_⟩|⟨_,q⟩
   . cases z
   . obtain⟨b,ys,g1,g2,g3,g4,g5⟩:=S.own j pb dd q
     exact⟨b,ys,g1,kp b _ g2 (hl g2),g3,g4,g5.kp kp hR λb z=>.inl (by rw[z];exact haR)⟩
  trk:=λb z q=>by
   by_cases hb:b=a
   . rw[hb,bD] at q;cases q
   . rw[aJ hb] at q;exact S.trk b z q
  yo:=S.yo
  tk:=λb z=>by
   by_cases hb:b=a
   . rw[hb];exact S.tk a (by rw[hax];simp)
   . rw[aJ hb] at z;exact S.tk b z
  rt:=λb z=>by
   by_cases hb:b=a
   . rw[hb];exact .inr ⟨xs',bD⟩
   . unfold RtO;rw[aJ hb];exact S.rt b z
  inj:=λj j' pa' pa'' ds ds' b e1 e2 e3 e4=>by
   rcases set_some e1 with⟨_,e,_⟩|⟨n1,e1⟩
   . cases e
   rcases set_some e2 with⟨_,e,_⟩|⟨n2,e2⟩
   . cases e
   exact S.inj j j' pa' pa'' ds ds' b e1 e2 e3 e4
  len:=by rw[List.length_set];exact S.len
  dx:={
   at':=λj ds q=>by
    rcases set_some q with⟨rfl,z,_⟩|⟨hij,q⟩
    . cases z
      exact⟨a,xs',ha,bD,haR,hao,r1,λx hx=>aT.imp (λ_ _ z=>kp.seqT hR z) (r x hx)⟩
    . obtain⟨b,ys,h1,h2,h3,h4,h5,h6⟩:=S.dx.at' j ds q
      have hb:b≠a:=λz=>by
       subst z
       exact hij (S.dx.inj i j kvs ds b e q ha h1)
      exact⟨b,ys,h1,kp b _ h2 hb,h3,h4,h5,λx hx=>aT.imp (λ_ _ z=>kp.seqT hR z) (h6 x hx)⟩
   inj:=λj j' dd dd' b q1 q2=>by
    have get:∀{j:Nat} {dd:List (NK×D)},(σ.set i (.dct kvs'))[j]? = some (.dct dd)->∃d2,σ[j]? = some (.dct d2):=λ{j dd} q=>by
     rcases set_some q with⟨rfl,_,_⟩|⟨_,q⟩
     . exact⟨kvs,e⟩
     . exact⟨dd,q⟩
    obtain⟨_,z1⟩:=get q1
    obtain⟨_,z2⟩:=get q2
    exact S.dx.inj j j' _ _ b z1 z2 } }
theorem aBo(ks:List (NK×D))(k:NK×D):aCu (ks.map kV) (kV k)=(putK ks k).map kV:=by
 have e:(ks.map kV).map (·.1)=ks.map (·.1):=by rw[List.map_map];rfl
 unfold aCu putK
 rw[e]
 show(if k.1∈_ then _ else _)=_
 split
 . rw[List.map_map,List.map_map]
   refine List.map_congr_left λx _=>?_
   show(if x.1=k.1 then _ else _)=kV (if x.1=k.1 then _ else _)
   split <;> rfl
 . rw[List.map_append];rfl
theorem putN_mem{xs:List NE}{k:NK}{b:Addr}{v:V}{x:NE}(h:x∈jU xs k b v):(∃y∈xs,y.1=x.1/\y.2.1=x.2.1)\/x=(k,b,v):=by
 unfold jU at h
 split at h
 . obtain⟨y,hy,e⟩:=List.mem_map.mp h
   refine .inl ⟨y,hy,?_⟩
   rw[<-e]
   split <;> exact⟨rfl,rfl⟩
 . rcases List.mem_append.mp h with z|z
   . exact .inl ⟨x,z,rfl,rfl⟩
   . exact .inr (List.mem_singleton.mp z)
theorem aDb{ex:Addr->Prop}{d:D}{u:V}(h:fA d=true)(r:Rep K H ex d u):u=dV d:=by
 cases d <;> first|exact r|cases h
theorem aId{i:Nat}{c e:E}{x:Str}{p p2:Pos}{ix v:Expr}(M:Mc X P Γ n)(hx:aW Γ i x=true)(hk:PE X ix (WE X P n RT Y old σ c))(he:PE X v (WE X P n RT Y old σ e))(hpl:aQ ix=true) :
 PS X (.Assign [.Subscript (.Name x p) ix p2] v pos) (wS X RT Y old σ (ex P (call P n) σ (.dpv i c e))):=by
 refine bC (pB he (zQ (eO M hx) hk (aAi (by have:=M.units;omega)) (by intro _;cases ix <;> first|rfl|cases hpl)) (by cases v <;> rfl) (by cases v <;> rfl)) λD σV H t ⟨S,h⟩=>?_
 have h:=OE.from (show OE X.K RT Y old H (O.from σ (ev P (call P n) σ e) λw=>O.from σ (ev P (call P n) σ c) λv=>(match σ[i]?,dE v.d with
  | some (.dct ks),some k=>if ks.length<lim/\fA w.d=true then .next (σ.set i (.dct (putK ks (k,w.d)))) else .bad
  | _,_=>.bad)) D from h)
 obtain⟨wv,ew,h⟩:=h.eq
 obtain⟨kv,ek,h⟩:=(OE.from h).eq
 refine⟨S,?_⟩
 rw[ew]
 intro u H1 t1 r1
 have S1:=S.grow r1.1 t1
 split at h
 . rename_i ks k e1 e2
   split at h
   . rename_i hl
     obtain⟨ad,xs,g1,g2,g3,g4,g5,g6⟩:=S.dx.at' i ks e1
     have hu:u=dV wv.d:=aDb hl.2 (r1.rv S)
     subst hu
     refine⟨.ref ad,g1,S1,?_⟩
     rw[ek]
     intro uk H2 t2 r2
     have s2:=r1.1.trans r2.1
     have S2:=S.grow s2 t2
     obtain⟨b,rfl,hb⟩:=lG e2 (r2.rv S1)
     have g6':∀x∈xs,aT X.K H2 x.1 x.2.1:=λx hx=>aT.imp (λ_ _ r=>aH.seqT s2 r) (g6 x hx)
     have hlen:xs.length=ks.length:=by have:=congrArg List.length g5;rwa [lM,lM] at this
     refine⟨ad,b,xs,k,rfl,rfl,s2 _ _ g2,g6',hb,by have:=qO;omega,λt3=>?_⟩
     refine(show bW X.K RT Y old H (σ.set i (.dct (putK ks (k,wv.d)))) D.nx from h) RT _ _ (λb' o q nn=>by rw[aJ λz=>nn (by rw[z];exact g3)];exact s2 _ _ q) aV ?_
     refine S2.mutD e1 g1 (s2 _ _ g2) g3 g4 (by rw[rO,g5];exact aBo ks (k,wv.d)) λx hx=>?_
     rcases putN_mem hx with z|z
     . obtain⟨y,hy,e1,e2⟩:=z
       rw[<-e1,<-e2];exact g6' y hy
     . rw[z];exact hb
   . exact h.elim
 . exact h.elim
theorem aFP{i:Nat}{c:E}{x:Str}{p p2:Pos}{ix v:Expr}(M:Mc X P Γ n)(hx:aW Γ i x=true)(hk:PE X ix (WE X P n RT Y old σ c))(he:PE X v (WE X P n RT Y old σ (.c (.bl true))))(hpl:aQ ix=true) :
 PS X (.Assign [.Subscript (.Name x p) ix p2] v pos) (wS X RT Y old σ (ex P (call P n) σ (.dput i c))):=by
 refine bC (pB he (zQ (eO M hx) hk (aAi (by have:=M.units;omega)) (by intro _;cases ix <;> first|rfl|cases hpl)) (by cases v <;> rfl) (by cases v <;> rfl)) λD σV H t ⟨S,h⟩=>?_
 have h:=OE.from (show OE X.K RT Y old H (O.from σ (ev P (call P n) σ c) λv=>(match σ[i]?,dE v.d with
  | some (.dct ks),some k=>if ks.length<lim then .next (σ.set i (.dct (putK ks (k,.bl true)))) else .bad
  | _,_=>.bad)) D from h)
 obtain⟨kv,ek,h⟩:=h.eq
 refine wE.one (p:=λx=>x=.cl (.bl true)) S rfl λw u H1 hw t1 S1 r1=>?_
 subst hw
 have hu:u=.bl true:=(r1.rv S)
 subst hu
 split at h
 . rename_i ks k e1 e2
   split at h
   . rename_i hl
     obtain⟨ad,xs,g1,g2,g3,g4,g5,g6⟩:=S.dx.at' i ks e1
     refine⟨.ref ad,g1,S1,?_⟩
     rw[ek]
     intro uk H2 t2 r2
     have s2:=r1.1.trans r2.1
     have S2:=S.grow s2 t2
     obtain⟨b,rfl,hb⟩:=lG e2 (r2.rv S1)
     have g6':∀x∈xs,aT X.K H2 x.1 x.2.1:=λx hx=>aT.imp (λ_ _ r=>aH.seqT s2 r) (g6 x hx)
     have hlen:xs.length=ks.length:=by have:=congrArg List.length g5;rwa [lM,lM] at this
     refine⟨ad,b,xs,k,rfl,rfl,s2 _ _ g2,g6',hb,by have:=qO;omega,λt3=>?_⟩
     refine(show bW X.K RT Y old H (σ.set i (.dct (putK ks (k,.bl true)))) D.nx from h) RT _ _ (λb' o q nn=>by rw[aJ λz=>nn (by rw[z];exact g3)];exact s2 _ _ q) aV ?_
     refine S2.mutD e1 g1 (s2 _ _ g2) g3 g4 (by rw[rO,g5];exact aBo ks (k,.bl true)) λx hx=>?_
     rcases putN_mem hx with z|z
     . obtain⟨y,hy,e1,e2⟩:=z
       rw[<-e1,<-e2];exact g6' y hy
     . rw[z];exact hb
   . exact h.elim
 . exact h.elim
end
section
variable {P:Pg} {n:Nat} {Y old:Addr->Prop}
theorem aBp{Γ:Ct}{is:List Nat}{tg:Expr}(h:jV Γ (.t is) tg=true):∃es k p,tg=.Tuple es k p:=by
 cases tg with
 | Tuple es k p=>exact⟨es,k,p,rfl⟩
 | _=>cases h
theorem yW{Γ:Ct}{i:Nat}{tg:Expr}(h:jV Γ (.n i) tg=true):∃x p,tg=.Name x p/\aZ Γ i x=true:=by
 cases tg with
 | Name x p=>exact⟨x,p,rfl,h⟩
 | _=>cases h
theorem jJ{Γ:Ct}{i:Nat}{m:Str}{c:Expr}{xs:List Expr}(h:gC Γ i m c=some xs):fB c=false/\iX c=false:=by
 obtain⟨x,p,ap,cp,rfl,_⟩:=iK h
 exact⟨rfl,rfl⟩
theorem yX{Γ:Ct}{c:E}{e:Expr}(h:aK Γ c e=true)(hc:fB e=true):∃k caps t it cond elt,c=.comp k caps t it cond elt:=by
 cases c with
 | comp k caps t it cond elt=>exact⟨k,caps,t,it,cond,elt,rfl⟩
 | c d=>
  rcases(Bool.or_eq_true _ _).mp (show(oS (asC e) (eqC d)||oS (asN e) λx=>cC Γ x&&bR x&&oB (Γ.cns.lookup x) (eqK d))=true from h) with h|h
  . obtain⟨_,⟨_,_,rfl⟩,_⟩:=aD h;cases hc
  . obtain⟨_,⟨_,rfl⟩,_⟩:=aD h;cases hc
 | v i=>obtain⟨_,⟨_,rfl⟩,_⟩:=aD h;cases hc
 | op o a b=>obtain⟨_,⟨_,rfl⟩,_⟩:=aD h;cases hc
 | neg _=>cases h
 | nt a=>obtain⟨_,⟨_,rfl⟩,_⟩:=aD h;cases hc
 | an a b=>obtain⟨_,rfl,_⟩:=aD h;cases hc
 | orr a b=>obtain⟨_,rfl,_⟩:=aD h;cases hc
 | ife t a b=>obtain⟨_,⟨_,rfl⟩,_⟩:=aD h;cases hc
 | cmp o a b=>obtain⟨_,⟨_,rfl⟩,_⟩:=aD h;cases hc
 | dnin _ _=>cases h
 | dget _ _=>cases h
 | dlen _=>cases h
 | din a j=>obtain⟨_,⟨_,rfl⟩,_⟩:=aD h;cases hc
 | dgd j a d=>obtain⟨_,⟨_,_,rfl,_⟩,_⟩:=aD h;cases hc
 | srtD j=>obtain⟨_,⟨_,_,rfl⟩,_⟩:=aD h;cases hc
 | sop o a b=>obtain⟨_,⟨_,_,rfl⟩,_⟩:=aD h;cases hc
 | cmp2 _ _ _ _ _=>cases h
 | idx a b=>obtain⟨_,⟨_,rfl⟩,_⟩:=aD h;cases hc
 | sli a lo hi=>obtain⟨_,⟨_,rfl⟩,_⟩:=aD h;cases hc
 | tup es=>obtain⟨_,⟨_,_,rfl⟩,_⟩:=aD h;cases hc
 | lst es=>obtain⟨_,⟨_,rfl⟩,_⟩:=aD h;cases hc
 | call f es=>obtain⟨_,⟨_,_,rfl⟩,_⟩:=aD h;cases hc
 | bi b es=>obtain⟨_,⟨_,_,rfl⟩,_⟩:=aD h;cases hc
 | mth _ _ _=>cases h
 | isi a cs=>obtain⟨_,⟨_,_,rfl⟩,_⟩:=aD h;cases hc
 | numset _=>cases h
 | tget _ _=>cases h
 | lzip _ _=>cases h
 | dic ks vs=>cases h
 | attr _ _=>cases h
theorem m1{Γ:Ct}{i:Nat}{m:Str}{c:Expr}{f:Expr->Bool}(h:(match gC Γ i m c with|some [a]=>f a|_=>false)=true):∃a,gC Γ i m c=some [a]/\f a=true:=by
 split at h
 . rename_i a q;exact⟨a,q,h⟩
 . cases h
theorem m0{Γ:Ct}{i:Nat}{m:Str}{c:Expr}(h:(match gC Γ i m c with|some []=>true|_=>false)=true):gC Γ i m c=some []:=by
 split at h
 . rename_i q;exact q
 . cases h
abbrev QS(P:Pg)(n:Nat)(Y old:Addr->Prop)(c:S):Prop:=∀{X:Cx} {Γ:Ct},Mc X P Γ n->∀{st:Stmt},dF Γ c st=true->∀(RT:Addr->Prop) (σ:Sg),PS X st (wS X RT Y old σ (ex P (call P n) σ c))
abbrev QSs(P:Pg)(n:Nat)(Y old:Addr->Prop)(c:Ss):Prop:=∀{X:Cx} {Γ:Ct},Mc X P Γ n->∀{st:List Stmt},chkSs Γ c st=true->∀(RT:Addr->Prop) (σ:Sg),PSs X st (wS X RT Y old σ (exs P (call P n) σ c))
theorem aIe{t:T}{e:E}:QS P n Y old (.set t e):=λ{X Γ} M {st} h RT σ=>by
 unfold dF at h
 obtain⟨⟨tg,v⟩,⟨p,rfl⟩,g⟩:=aD h
 clear h
 obtain⟨h1,h2,h3⟩:=dU g
 clear g
 cases t with
 | n i=>
  obtain⟨x,p,e1,hx⟩:=yW h1
  have e1:tg=.Name x p:=e1
  subst e1
  cases hc:fB v with
  | false=>exact aFJ M hx (sE e M h2 RT Y old σ) hc
  | true=>
   obtain⟨k,caps,t,it,cond,elt,rfl⟩:=yX h2 hc
   obtain⟨el,tg,iter,ifs,scope,cpos,e2,O,g1,g2,g3,g4,g5⟩:=wX h2
   have e2:v=.ListComp el [⟨tg,iter,ifs,0⟩] scope cpos:=e2
   subst e2
   refine yV M hx (O.scope M) O.ndc O.tk (sI it M g3 RT Y old σ) (λC s₀ H₀ ex=>?_) (iY (gQ g3))
   have M':=O.mc M C s₀ H₀ ex
   exact⟨aAP M' g2,λRT Y old σ1=>sTs cond M' g1 g4 RT Y old σ1,λRT Y old σ1=>sE elt M' g5 RT Y old σ1⟩
 | t is=>
  obtain⟨es,k,p,e1⟩:=aBp h1
  have e1:tg=.Tuple es k p:=e1
  subst e1
  refine aFK M h1 (sE e M h2 RT Y old σ) ?_
  have:(false||!iX v)=true:=h3
  simpa using this
theorem aIf{i j:Nat}:QS P n Y old (.mov i j):=λ{X Γ} M {st} h RT σ=>by
 unfold dF at h
 obtain⟨⟨tg,v⟩,⟨p,rfl⟩,g⟩:=aD h
 clear h
 obtain⟨x,⟨p1,e1⟩,g⟩:=aD g
 obtain⟨y,⟨p2,e2⟩,g⟩:=aD g
 have e1:tg=.Name x p1:=e1
 have e2:v=.Name y p2:=e2
 subst e1 e2
 obtain⟨h1,h2⟩:=cG g
 exact aIb M h1 h2
theorem aFQ{i:Nat}:QS P n Y old (.dnew i):=λ{X Γ} M {st} h RT σ=>by
 unfold dF at h
 obtain⟨⟨tg,v⟩,⟨p,rfl⟩,g⟩:=aD h
 clear h
 obtain⟨x,⟨p1,e1⟩,g⟩:=aD g
 have e1:tg=.Name x p1:=e1
 subst e1
 obtain⟨h1,h2⟩:=cG g
 obtain⟨_,⟨p2,e2⟩,_⟩:=aD h2
 have e2:v=.Dict [] [] p2:=e2
 subst e2
 exact aFO M h1
theorem aFR{i:Nat}{e:E}:QS P n Y old (.dput i e):=λ{X Γ} M {st} h RT σ=>by
 unfold dF at h
 obtain⟨⟨tg,v⟩,⟨p,rfl⟩,g⟩:=aD h
 clear h
 obtain⟨⟨o,ix⟩,⟨p1,e1⟩,g⟩:=aD g
 obtain⟨x,⟨p2,e2⟩,g⟩:=aD g
 have e1:tg=.Subscript o ix p1:=e1
 have e2:o=.Name x p2:=e2
 subst e1 e2
 obtain⟨h1,h2,h3⟩:=dU g
 exact aFP M h1 (sE e M h2 RT Y old σ) (sE (.c (.bl true)) M h3 RT Y old σ) (aL h2)
theorem aIg{i:Nat}{k e:E}:QS P n Y old (.dpv i k e):=λ{X Γ} M {st} h RT σ=>by
 delta dF at h
 obtain⟨⟨tg,v⟩,⟨p,rfl⟩,g⟩:=aD h
 clear h
 obtain⟨⟨o,ix⟩,⟨p1,e1⟩,g⟩:=aD g
 obtain⟨x,⟨p2,e2⟩,g⟩:=aD g
 have e1:tg=.Subscript o ix p1:=e1
 have e2:o=.Name x p2:=e2
 subst e1 e2
 obtain⟨h1,h2,h3,h4⟩:=aCY g
 exact aId M h1 (sE k M h2 RT Y old σ) (sE e M h3 RT Y old σ) (aL h2)
theorem aIh{i:Nat}{e:E}:QS P n Y old (.app i e):=λ{X Γ} M {st} h RT σ=>by
 unfold dF at h
 obtain⟨c,⟨p,rfl⟩,g⟩:=aD h
 obtain⟨a,h1,h2⟩:=m1 (f:=λa=>aK Γ e a) g
 exact aHY M h1 (sE e M h2 RT Y old σ) (aL h2)
theorem aIi{i:Nat}{e:E}:QS P n Y old (.ext i e):=λ{X Γ} M {st} h RT σ=>by
 unfold dF at h
 obtain⟨c,⟨p,rfl⟩,g⟩:=aD h
 obtain⟨a,h1,h2⟩:=m1 (f:=λa=>aK Γ e a) g
 exact aHZ M h1 (sE e M h2 RT Y old σ) (aL h2)
theorem aDc{i:Nat}:QS P n Y old (.pop none i none):=λ{X Γ} M {st} h RT σ=>by
 unfold dF at h
 obtain⟨c,⟨p,rfl⟩,g⟩:=aD h
 have h1:=m0 (Γ:=Γ) (i:=i) (m:= "pop") (c:=c) g
 exact aFM (aBn M h1) (jJ h1).1
theorem aDd{i:Nat}{t:T}:QS P n Y old (.pop (some t) i none):=λ{X Γ} M {st} h RT σ=>by
 unfold dF at h
 obtain⟨⟨tg,c⟩,⟨p,rfl⟩,g⟩:=aD h
 obtain⟨h0,g⟩:=cG g
 have h1:=m0 g
 exact aFN M h0 (aBn M h1) (jJ h1).1 (jJ h1).2
theorem aIj{i:Nat}:QS P n Y old (.rev i):=λ{X Γ} M {st} h RT σ=>by
 unfold dF at h
 obtain⟨c,⟨p,rfl⟩,g⟩:=aD h
 exact aIa M (m0 g)
theorem aIk{e:E}:QS P n Y old (.ret e):=λ{X Γ} M {st} h RT σ=>by
 unfold dF at h
 obtain⟨r,⟨p,rfl⟩,g⟩:=aD h
 clear h
 obtain⟨v,e1,g⟩:=aAD g
 subst e1
 exact aHX (sE e M g RT Y old σ)
theorem aFS{i:Nat}:QS P n Y old (.retv i):=λ{X Γ} M {st} h RT σ=>by
 unfold dF at h
 obtain⟨r,⟨p,rfl⟩,g⟩:=aD h
 clear h
 obtain⟨v,e1,g⟩:=aAD g
 subst e1
 obtain⟨x,⟨p1,e2⟩,g⟩:=aD g
 have e2:v=.Name x p1:=e2
 subst e2
 exact aFI M g
theorem aFT:QS P n Y old .retN:=λ{X Γ} M {st} h RT σ=>by
 unfold dF at h
 obtain⟨r,⟨p,rfl⟩,g⟩:=aD h
 cases r with
 | none=>exact aFH
 | some _=>cases g
theorem aIl{c:E}{a b:Ss}(ha:QSs P n Y old a)(hb:QSs P n Y old b):QS P n Y old (.iff c a b):=λ{X Γ} M {st} h RT σ=>by
 unfold dF at h
 obtain⟨⟨t,x,y⟩,⟨p,rfl⟩,g⟩:=aD h
 obtain⟨h1,h2,h3⟩:=dU g
 exact aJO (sT c M h1 RT Y old σ) (ha M h2) (hb M h3)
theorem aIm{t:T}{it:Hp.It}{b:Ss}(hb:QSs P n Y old b):QS P n Y old (.for t it b):=λ{X Γ} M {st} h RT σ=>by
 unfold dF at h
 obtain⟨⟨tg,iter,body⟩,⟨p,rfl⟩,g⟩:=aD h
 obtain⟨h1,h2,h3⟩:=dU g
 exact aIc M h1 (sI it M h2 RT Y old σ) (hb M h3) (iY (gQ h2))
theorem aIn:QS P n Y old .brk:=λ{X Γ} M {st} h RT σ=>by
 unfold dF at h
 obtain⟨_,⟨p,rfl⟩,_⟩:=aD h
 exact aHU
theorem aIo:QS P n Y old .cnt:=λ{X Γ} M {st} h RT σ=>by
 unfold dF at h
 obtain⟨_,⟨p,rfl⟩,_⟩:=aD h
 exact aHV
theorem aFU:QS P n Y old .pass:=λ{X Γ} M {st} h RT σ=>by
 unfold dF at h
 obtain⟨_,⟨p,rfl⟩,_⟩:=aD h
 exact aFG
theorem aJP{e:E}:QS P n Y old (.ex e):=λ{X Γ} M {st} h RT σ=>by
 unfold dF at h
 obtain⟨v,⟨p,rfl⟩,g⟩:=aD h
 obtain⟨h1,h2⟩:=cG g
 exact aJN (sE e M h1 RT Y old σ) (by simpa using h2)
theorem aIp{c:Nat}{k:Bool}{es:Es}:QS P n Y old (.rse c k es):=by
 intro X Γ M st h RT σ
 exact aHW
theorem iL{c:S}(z:∀Γ st,dF Γ c st=false):QS P n Y old c:=by
 intro X Γ M st h RT σ
 rw[z] at h
 cases h
theorem aIq:QSs P n Y old .nil:=λ{X Γ} M {st} h RT σ=>by
 cases st with
 | nil=>exact aHT
 | cons _ _=>exact nf h
theorem aFV{c:S}{cs:Ss}(hc:QS P n Y old c)(hs:QSs P n Y old cs):QSs P n Y old (.cons c cs):=λ{X Γ} M {st} h RT σ=>by
 cases st with
 | nil=>exact nf h
 | cons x xs=>
  obtain⟨h1,h2⟩:=cG h
  exact aFF (hc M h1) (hs M h2)
mutual
theorem sS:(c:S)->QS P n Y old c
 | .set _ _=>aIe
 | .mov _ _=>aIf
 | .setIx _ _ _=>iL λ_ _=>rfl
 | .dnew _=>aFQ
 | .dput _ _=>aFR
 | .dpv _ _ _=>aIg
 | .dfrom _ _=>iL λ_ _=>rfl
 | .app _ _=>aIh
 | .ext _ _=>aIi
 | .pop none _ none=>aDc
 | .pop none _ (some _)=>iL λ_ _=>rfl
 | .pop (some _) _ none=>aDd
 | .pop (some _) _ (some _)=>iL λ_ _=>rfl
 | .clr _=>iL λ_ _=>rfl
 | .ins _ _ _=>iL λ_ _=>rfl
 | .rev _=>aIj
 | .appCall _ _ _=>iL λ_ _=>rfl
 | .ret _=>aIk
 | .retv _=>aFS
 | .retN=>aFT
 | .iff _ a b=>aIl (sSs a) (sSs b)
 | .for _ _ b=>aIm (sSs b)
 | .whl _ _=>iL λ_ _=>rfl
 | .brk=>aIn
 | .cnt=>aIo
 | .pass=>aFU
 | .ex _=>aJP
 | .rse _ _ _=>aIp
 | .try _ _=>iL λ_ _=>rfl
theorem sSs:(c:Ss)->QSs P n Y old c
 | .nil=>aIq
 | .cons c cs=>aFV (sS c) (sSs cs)
end
end
structure Tx where
 x:Str
 qual:Str
 st:Stmt
 N:List Str
noncomputable def oM(Γ:Ct)(F:Fn)(t:Tx):Bool:=
 t.N.length==F.ns&&decide (F.np<=F.ns)&&decide t.N.Nodup&&(aY t.st).kind==.function&&!(aY t.st).isCoroutine&&!(aY t.st).isGenerator &&
 ((t.N.take F.np).all λx=>(aY t.st).names.lookup x==some .local||(aY t.st).names.lookup x==some .cell)&&((aY t.st).names.all λp=>p.2 != .free) &&
 chkSs { Γ with N:=t.N,sc:=(aY t.st).names,fn:=true } F.body (fQ t.st)
noncomputable def fJ(Γ:Ct):List Fn->List Tx->Bool
 | [],[]=>true
 | F::Fs,t::ts=>oM Γ F t&&fJ Γ Fs ts
 | _,_=>false
theorem eP{Γ:Ct}:∀{Fs:List Fn} {ts:List Tx},fJ Γ Fs ts=true->∀{f:Nat} {t:Tx},ts[f]? = some t->∃F,Fs[f]? = some F/\oM Γ F t=true
 | [],[],_,_,_,e=>by simp at e
 | [],_::_,h,_,_,_=>by cases h
 | _::_,[],h,_,_,_=>by cases h
 | F::Fs,t::ts,h,0,t',e=>by
  obtain⟨h1,h2⟩:=cG (show(oM Γ F t&&fJ Γ Fs ts)=true from h)
  have e':t=t':=by simpa using e
  subst e'
  exact⟨F,rfl,h1⟩
 | F::Fs,t::ts,h,f+1,t',e=>by
  obtain⟨h1,h2⟩:=cG (show(oM Γ F t&&fJ Γ Fs ts)=true from h)
  obtain⟨F',q1,q2⟩:=eP h2 (f:=f) (t:=t') (by simpa using e)
  exact⟨F',by simpa using q1,q2⟩
section
variable {prog:Program} {w:World} {K:Fg} {mg:Str->Option Value} {base:Heap} {P:Pg} {Γ:Ct} {txs:List Tx}
structure Top (prog:Program) (w:World) (K:Fg) (mg:Str->Option Value) (P:Pg) (Γ:Ct) (txs:List Tx):Prop where
 fn:∀(f:Nat) (t:Tx),txs[f]? = some t->∃fa fd,mg t.x=some (.ref fa)/\Fun K t.x t.qual t.st fa fd/\∀F,P.fns[f]? = some F->gH K fd (t.N.take F.np) []
 fns:∀(f:Nat) (x:Str),Γ.fns[f]? = some x->∃t,txs[f]? = some t/\t.x=x
 blt:∀x∈bltNames,mg x=none
 cns:∀(x:Str) (d:D),Γ.cns.lookup x=some d->∃u v,mg x=some u/\aR v u/\∀H ex,Rep K H ex d v
 tab:∀(i:Nat) (x:Str),Γ.tbs[i]? = some x->∃a t,mg x=some (.ref a)/\P.tabs[i]? = some t/\aAv prog w K a t
 chk:fJ Γ P.fns txs=true
theorem xC{k f:Nat}{F:Fn}(hF:P.fns[f]? = some F){vs:List V}{H:Hp}{Q:VK}{E:XK}(h:spF K P (k+1) f vs H Q E):vs.length=F.np:=by
 obtain⟨ds,Y,_,r,hr⟩:=h
 obtain⟨x,e,_⟩:=hr.eq
 have e:uE P (call P k) f ds=.ok x:=e
 unfold uE at e
 rw[hF] at e
 have e:(if ds.length=F.np then _ else R.bad)=R.ok x:=e
 split at e
 . rename_i hl;rw[<-r.length];exact hl
 . cases e
theorem aBq{ds:List D}{vs:List V}{H:Hp}{Y:Addr->Prop}{m:Nat}(hY:∀a,Y a->H a≠none)(t:Tk K H)(r:Reps K H Y ds vs):Sx K (λ_=>False) Y (λb=>H b≠none) ((ds.map λd=>Sl.sh true d)++List.replicate m Sl.dead) (vs.map some++List.replicate m none) H:=by
 have len:=r.length
 have get:∀{i:Nat} {s:Sl},((ds.map λd=>Sl.sh true d)++List.replicate m Sl.dead)[i]? = some s->s=.dead\/∃d,s=.sh true d/\ds[i]? = some d:=λ{i s} e=>by
  by_cases hi:i<ds.length
  . rw[List.getElem?_append_left (by simpa using hi),List.getElem?_map,List.getElem?_eq_getElem hi] at e
    cases e
    exact .inr ⟨ds[i],rfl,List.getElem?_eq_getElem hi⟩
  . rw[List.getElem?_append_right (by simpa using hi),List.getElem?_replicate] at e
    split at e
    . cases e;exact .inl rfl
    . cases e
 exact {
  sh:=λi pa d e=>by
   rcases get e with z|⟨d',z,q⟩
   . cases z
   . cases z
     obtain⟨v,hv,rv⟩:=r.get q
     have hi:i<vs.length:=(List.getElem?_eq_some_iff.mp hv).1
     refine⟨v,?_,rv.weak λa z=>?_⟩
     . rw[List.getElem?_append_left (by simpa using hi),List.getElem?_map,hv];rfl
     . rcases z with z|z|⟨z,_⟩
       . exact z.elim
       . exact z
       . cases z
  own:=λi pa ds' e=>by
   rcases get e with z|⟨d',z,q⟩
   . cases z
   . cases z
  trk:=λa z=>by
   rcases z with z|z|z
   . exact z.elim
   . exact hY a z
   . exact z
  yo:=hY
  tk:=t
  rt:=λ_ z=>z.elim
  inj:=λi j pa pa' ds1 ds2 a e=>by
   rcases get e with z|⟨d',z,q⟩
   . cases z
   . cases z
  len:=by rw[lA,lA,lM,lM,List.length_replicate,List.length_replicate,len]
  dx:={
   at':=λi ds' e=>by
    rcases get e with z|⟨d',z,q⟩
    . cases z
    . cases z
   inj:=λi j ds1 ds2 a e=>by
    rcases get e with z|⟨d',z,q⟩
    . cases z
    . cases z } }
theorem xD{k f:Nat}{t:Tx}{F:Fn}{fa:Addr}{fd:FuncData}(hmd:∀(f:Nat) (x:Str),Γ.fns[f]? = some x->∃fa fd ps,mg x=some (.ref fa)/\PySem.W.keepIn K (.ref fa)=true/\gH K fd ps []/\jS prog w K mg base CX0 k fa fd ps (spF K P k f))
 (hblt:∀x∈bltNames,mg x=none) (hcns:∀(x:Str) (d:D),Γ.cns.lookup x=some d->∃u v,mg x=some u/\aR v u/\∀H ex,Rep K H ex d v) (htab:∀(i:Nat) (x:Str),Γ.tbs[i]? = some x->∃a t,mg x=some (.ref a)/\P.tabs[i]? = some t/\aAv prog w K a t) (h2:Fun K t.x t.qual t.st fa fd) (hF:P.fns[f]? = some F) (hc:oM Γ F t=true) :
 jS prog w K mg base CX0 (k+1) fa fd (t.N.take F.np) (spF K P (k+1) f):=by
 unfold oM at hc
 simp only[bA,beq_iff_eq,decide_eq_true_eq,Bool.not_eq_true',List.all_eq_true,Bool.or_eq_true,bne_iff_ne,ne_eq] at hc
 obtain⟨⟨⟨⟨⟨⟨⟨⟨c1,c2⟩,c3⟩,c4⟩,c5⟩,c6⟩,c7⟩,c8⟩,c9⟩:=hc
 have lt:(t.N.take F.np).length=F.np:=by rw[List.length_take];omega
 have sc:jZ t.N (t.N.take F.np) (aY t.st):=⟨c4,c5,c6,c3,by rw[lt],c7,c8⟩
 refine h2.ok sc (λvs H Q E h=>by rw[lt];exact xC hF h) λcdv A outer s H vs Q E hr h=>?_
 have hlen:=xC hF h
 obtain⟨ds,Y,hY,r,hq⟩:=h
 have M:Mc (tW CX0 prog w K mg base t.N t.qual (aY t.st) fa cdv A outer s H E).nox P { Γ with N:=t.N,sc:=(aY t.st).names,fn:=true } k:={
  md:=⟨hmd,hblt,hcns,htab⟩
  N:=rfl
  nd:=c3
  sc:=rfl
  calm:=rfl
  room:=hr
  xe:=rfl
  st:=λ_ _=>.inl rfl
  fk:=c4 }
 obtain⟨res,er,hq⟩:=hq.eq
 have er:uE P (call P k) f ds=.ok res:=er
 unfold uE at er
 rw[hF] at er
 have er:(if ds.length=F.np then (match exs P (call P k) ((ds.map λd=>Sl.sh true d)++List.replicate (F.ns-F.np) Sl.dead) F.body with
  | .ret v=>R.ok (v.d,v.fr,v.pa)
  | .next _=>R.ok (.non,false,false)
  | .exc x _=>R.exc x
  | _=>R.bad) else R.bad)=R.ok res:=er
 have hdl:ds.length=F.np:=by rw[r.length];exact hlen
 rw[if_pos hdl] at er
 refine⟨_,qL (t':=λD σV H'=>Tk K H'->wS _ (λ_=>False) Y (λb=>H b≠none) ((ds.map λd=>Sl.sh true d)++List.replicate (F.ns-F.np) Sl.dead) (exs P (call P k) ((ds.map λd=>Sl.sh true d)++List.replicate (F.ns-F.np) Sl.dead) F.body) D σV H') (sSs (Y:=Y) (old:=λb=>H b≠none) F.body M c9 (λ_=>False) ((ds.map λd=>Sl.sh true d)++List.replicate (F.ns-F.np) Sl.dead)) (λD σV H' tk hw=>⟨(hw tk).1,OE.tkE (hw tk).2⟩),λtk=>⟨?_,?_⟩⟩
 . have e:L2.start t.N vs=vs.map some++List.replicate (F.ns-F.np) none:=by unfold L2.start;rw[hlen,c1]
   rw[e]
   exact aBq hY tk r
 . have same:∀{H':Hp},Kp (λ_=>False) H H'->aH H H':=λk b o e=>k b o e id
   show OE K (λ_=>False) Y (λb=>H b≠none) H (exs P (call P k) ((ds.map λd=>Sl.sh true d)++List.replicate (F.ns-F.np) Sl.dead) F.body) _
   cases q:exs P (call P k) ((ds.map λd=>Sl.sh true d)++List.replicate (F.ns-F.np) Sl.dead) F.body with
   | next σ'=>
    rw[q] at er
    cases(show R.ok (D.non,false,false)=R.ok res from er)
    exact λRT' σV' H' kp sub S'=>hq .non H' S'.tk (same kp) (show(if false=true then _ else _) from aGQ rfl)
   | ret v=>
    rw[q] at er
    cases(show R.ok (v.d,v.fr,v.pa)=R.ok res from er)
    refine λu H' kp tk' rt=>hq u H' tk' (same kp) ?_
    unfold Rr
    unfold Rtv at rt
    cases hfr:v.fr with
    | true=>
     rw[hfr,if_pos rfl] at rt
     obtain⟨a,xs,ds',e1,e2,e3,e4,rr⟩:=rt
     exact aJn ⟨a,xs,ds',e1,e2,Classical.not_not.mp e3,e4,rr⟩
    | false=>
     rw[hfr,if_neg bN] at rt
     exact aGQ rt
   | brk σ'=>rw[q] at er;cases er
   | cnt σ'=>rw[q] at er;cases er
   | exc e σ'=>rw[q] at er;cases er
   | bad=>rw[q] at er;cases er
theorem aBr(T:Top prog w K mg P Γ txs):∀(k f:Nat) (x:Str),Γ.fns[f]? = some x->∃fa fd ps,mg x=some (.ref fa)/\PySem.W.keepIn K (.ref fa)=true/\gH K fd ps []/\jS prog w K mg base CX0 k fa fd ps (spF K P k f)
 | 0,f,x,hf=>by
  obtain⟨t,ht,rfl⟩:=T.fns f x hf
  obtain⟨fa,fd,h1,h2,h3⟩:=T.fn f t ht
  obtain⟨F,hF,_⟩:=eP T.chk ht
  have no:∀vs H Q E,¬ spF K P 0 f vs H Q E:=λvs H Q E h=>by
   obtain⟨ds,Y,_,r,hr⟩:=h
   exact hr
  exact⟨fa,fd,_,h1,h2.kp,h3 F hF,λvs H Q E h=>absurd h (no vs H Q E),λA outer s H args us vs Q E _ _ _ _ h=>absurd h (no vs H Q E)⟩
 | k+1,f,x,hf=>by
  obtain⟨t,ht,rfl⟩:=T.fns f x hf
  obtain⟨fa,fd,h1,h2,h3⟩:=T.fn f t ht
  obtain⟨F,hF,hc⟩:=eP T.chk ht
  exact⟨fa,fd,_,h1,h2.kp,h3 F hF,xD (λf x hf=>aBr T k f x hf) T.blt T.cns T.tab h2 hF hc⟩
theorem aFW(T:Top prog w K mg P Γ txs){f:Nat}{t:Tx}{F:Fn}{fa:Addr}{fd:FuncData}(ht:txs[f]? = some t)(hF:P.fns[f]? = some F)(h2:Fun K t.x t.qual t.st fa fd)(k:Nat):jS prog w K mg base CX0 (k+1) fa fd (t.N.take F.np) (spF K P (k+1) f):=by
 obtain⟨F',hF',hc⟩:=eP T.chk ht
 rw[hF] at hF'
 cases hF'
 exact xD (aBr T k) T.blt T.cns T.tab h2 hF hc
theorem aFX{k f:Nat}{K:Fg}{H:Hp}{a:Addr}{ns:List Int}(hO:aCr H)(hS:SqL K H a (ns.map V.int))(h:∃fr pa,call P k f [.lst (ns.map D.int)]=.ok (.bl true,fr,pa)) :
 spF K P k f [.ref a] H (λv _=>v=.bl true) λ_ _ _=>False:=by
 obtain⟨fr,pa,e⟩:=h
 have ri:∀(ns:List Int),Reps K H (λ_=>False) (ns.map D.int) (ns.map V.int):=by
  intro ns
  induction ns with
  | nil=>exact .nil
  | cons i ns ih=>exact .cons rfl ih
 refine⟨[.lst (ns.map D.int)],λ_=>False,λ_ z=>z.elim,.cons ⟨a,_,rfl,hS,id,ri ns⟩ .nil,?_⟩
 rw[e]
 intro u H' _ _ rr
 unfold Rr at rr
 cases fr with
 | true=>
  rw[if_pos rfl] at rr
  obtain⟨_,_,_,_,e2,_⟩:=rr
  cases e2
 | false=>
  rw[if_neg bN] at rr
  exact rr
end
end Hp
end
noncomputable section
namespace Hh
open PySem PySem.W PySem.Calls PyProof.Rows
noncomputable def go(st:SharedT->Thread->Option (SharedT×Thread))(ok:Thread->Bool)(n:Nat):SharedT->Thread->Option SharedT:=
 @Nat.rec (λ_=>SharedT->Thread->Option SharedT) (λ_ _=>none) (λ_ ih s t=>match through t with
  | true=>some s
  | false=>match ok t with
   | false=>none
   | true=>match st s t with
    | some (s',t')=>ih s' t'
    | none=>none) n
theorem kK{tb:String->Option Builtin}{p:Program}{w:World}{n₀:Nat}{ann:Option Value}:∀(n:Nat) (s s':SharedT) (t:Thread),go (stepT (denote tb) p w) (stepOk n₀ ann) n s t=some s'->topRun tb p w n₀ ann n s.abs t=some s'.abs
 | 0,_,_,_,h=>by cases h
 | n+1,s,s',t,h=>by
  have h:(match through t with
   | true=>some s
   | false=>match stepOk n₀ ann t with
    | false=>none
    | true=>match stepT (denote tb) p w s t with
     | some (s',t')=>go (stepT (denote tb) p w) (stepOk n₀ ann) n s' t'
     | none=>none)=some s':=h
  unfold topRun
  cases ht:through t with
  | true=>rw[ht] at h;cases h;rfl
  | false=>
   rw[ht] at h
   cases hk:stepOk n₀ ann t with
   | false=>rw[hk] at h;cases h
   | true=>
    rw[hk] at h
    cases hs:stepT (denote tb) p w s t with
    | none=>rw[hs] at h;cases h
    | some r=>obtain⟨s₂,t₂⟩:=r;rw[hs] at h;rw[stepT_spec hs];exact kK n _ _ _ h
noncomputable def bt(l:List Obj)(n:Nat):Nat->Nat->BT:=
 @Nat.rec (λ_=>Nat->Nat->BT) (λ_ _=>.nil) (λ_ ih a b=>match l[b]? with
  | some o=>.node o (ih (2*a) (a+b)) (ih (2*a) (2*a+b))
  | none=>.nil) n
end Hh
namespace Hh
open PySem PySem.W PySem.Calls PyProof.Rows
noncomputable def aBs{α:Type}(p q:Program)(loose:List Str)(Xt:Shared->Bool)(Yf:Shared->α)(h0:Heap)(s:Shared):=
 ((staticsOk (importedModules p.main.body) h0 s.heap&&namesBound p s.heap&&gensDone s&&laidKept h0 s.heap),openSeen q loose (importedModules p.main.body) Xt true s,Yf s)
theorem aDe{p q:Program}{loose:List Str}{Xt:Shared->Bool}{α:Type}{Yf:Shared->α}{Ya:World->α}{N m₀:Nat}{ann:Option Value}{T₀:Params->BT}{l₀:Life}(e:opening p=plainProg p.main.scope.names)(hN:Nat.ble 600 N=true)(f:∀s,fenceModules? p s=some s)
 (hb:∀P,absHeap (T₀ P) m₀ l₀=boot_heap P) (hz:∀P:Params,((boot_heap P).isNs mainGlobals,(boot_heap P).objs.size,(boot_heap P).nsMap mainGlobals "__annotations__")=(true,m₀,ann))
 (h:∀(w:World) (os:OsState),(go (stepT (denote treeTable) p w) (stepOk m₀ ann) N ⟨T₀ w.params,m₀,l₀,Array.mk [],boot_drawn,boot_toks,os⟩ (topStub p)).map (λs=>aBs p q loose Xt Yf (boot_heap w.params) s.abs)=some (true,openGood q loose,Ya w)):LeftO p q loose Xt Yf Ya N:=λw=>by
 obtain⟨⟨hh,gs,d,k,os⟩,e1,e2⟩:=Option.map_eq_some_iff.mp (boot_open e hN f w)
 simp only[Prod.mk.injEq] at e2
 obtain⟨rfl,rfl,rfl,rfl⟩:=e2
 obtain⟨s,g1,g2⟩:=Option.map_eq_some_iff.mp (h w os)
 have r:=kK N _ _ _ g1
 have r:topRun treeTable p w m₀ ann N ⟨boot_heap w.params,Array.mk [],boot_drawn,boot_toks,os⟩ (topStub p)=some s.abs:=by
  rw[<-hb];exact r
 have z:=hz w.params
 simp only[Prod.mk.injEq] at z
 obtain⟨z1,z2,z3⟩:=z
 unfold aBs at g2
 simp only[Prod.mk.injEq] at g2
 obtain⟨l1,l2,l3⟩:=g2
 have t:topFrom treeTable p w N ⟨boot_heap w.params,Array.mk [],boot_drawn,boot_toks,os⟩=some s.abs:=by
  unfold topFrom
  dsimp only
  rw[z1,z2,z3,r]
  show(match staticsOk (importedModules p.main.body) (boot_heap w.params) s.abs.heap&&namesBound p s.abs.heap&&gensDone s.abs&&laidKept (boot_heap w.params) s.abs.heap with|true=>_|false=>_)=_
  rw[l1]
 unfold openEnds
 rw[e1]
 show(topFrom treeTable p w N _).map _=_
 rw[t]
 exact congrArg some (Prod.ext l2 l3)
noncomputable def T0(P:Params):BT:=bt (boot_heap P).objs.toList 5 1 0
theorem aFY:∀P,absHeap (T0 P) 11 {}=boot_heap P:=λP=>by kernel_rfl
theorem aDf:∀P:Params,((boot_heap P).isNs mainGlobals,(boot_heap P).objs.size,(boot_heap P).nsMap mainGlobals "__annotations__")=(true,11,some (.ref 6)):=λP=>by kernel_rfl
abbrev aIr:=@PySem.W.Fast.tw10156331382660048174
abbrev qOk:=@PySem.W.Fast.tw6613529449190102663
abbrev aJQ:=@PySem.W.Fast.tw11892475500146522536
abbrev aJR:=@PySem.W.Fast.tw14364793385576792824
abbrev aIs:=@PySem.W.Fast.tw4187177175401517315
abbrev aIt:=@PySem.W.Fast.tw5923862056798008813
noncomputable def aJS{α:Type}(p q:Program)(loose:List Str)(Yf:Shared->α)(N:Nat)(w:World)(os:OsState):=
 (go (aIr (aJQ aJR) p w) (qOk 11 (some (.ref 6))) N ⟨T0 w.params,11,{},Array.mk [],boot_drawn,boot_toks,os⟩ (topStub p)).map λs=>
  ((staticsOk (aIt p.main.body) (boot_heap w.params) s.abs.heap&&namesBound p s.abs.heap&&gensDone s.abs&&laidKept (boot_heap w.params) s.abs.heap),aIs q loose (aIt p.main.body) (λ_=>true) true s.abs,Yf s.abs)
theorem aFZ{p q:Program}{loose:List Str}{α:Type}{Yf:Shared->α}{Ya:World->α}{N:Nat}(e:opening p=plainProg p.main.scope.names)(hN:Nat.ble 600 N=true)(f:∀s,fenceModules? p s=some s)
 (h:∀w os,aJS p q loose Yf N w os=some (true,openGood q loose,Ya w)):LeftO p q loose (λ_=>true) Yf Ya N:=by
 refine aDe e hN f aFY aDf λw os=>?_
 unfold aBs
 rw[PySem.W.Fast.te10156331382660048174,PySem.W.Fast.te6613529449190102663,PySem.W.Fast.te11892475500146522536,PySem.W.Fast.te14364793385576792824,PySem.W.Fast.te4187177175401517315,PySem.W.Fast.te5923862056798008813]
 exact h w os
end Hh
end
noncomputable section
namespace Hh
open PySem PySem.W PySem.Calls PyProof.Rows L2 Hp
noncomputable def mK(h:Heap):PySem.W.Frag:=(List.range h.objs.size).filterMap λa=>(h.get? a).map λo=>(a,o)
theorem mL{α:Type}(f:Nat->Option α)(a:Nat):∀n,((List.range n).filterMap λi=>(f i).map λo=>(i,o)).lookup a=if a<n then f a else none
 | 0=>rfl
 | n+1=>by
  rw[List.range_succ,List.filterMap_append,List.lookup_append,mL f a n]
  by_cases h:a<n
  . rw[if_pos h,if_pos (Nat.lt_succ_of_lt h)]
    cases q:f a with
    | some o=>rfl
    | none=>
     have hne:(a==n)=false:=beq_eq_false_iff_ne.mpr (Nat.ne_of_lt h)
     cases q2:f n with
     | none=>simp[q2]
     | some o=>simp[q2,List.lookup,hne]
  . rw[if_neg h]
    by_cases e:a=n
    . subst e
      rw[if_pos (Nat.lt_succ_self _)]
      cases q:f a with
      | none=>simp[q]
      | some o=>simp[q,List.lookup]
    . rw[if_neg (by omega)]
      have hne:(a==n)=false:=beq_eq_false_iff_ne.mpr e
      cases q2:f n with
      | none=>simp[q2]
      | some o=>simp[q2,List.lookup,hne]
theorem cR(h:Heap)(a:Addr):(mK h).lookup a=h.get? a:=by
 unfold mK
 rw[mL]
 by_cases q:a<h.objs.size
 . rw[if_pos q]
 . rw[if_neg q]
   cases e:h.get? a with
   | none=>rfl
   | some o=>exact absurd (Heap.lt_size e) q
theorem xE{h h':Heap}(k:∀b o,h.get? b=some o->h'.get? b=some o):(mK h).In h':=λa o e=>k a o (by rw[<-cR];exact e)
noncomputable def mM(h:Heap)(x:Str):Option (Option Value):=match h.get? mainGlobals with
 | some ⟨_,_,.dict es _,_⟩=>(match es.toList.find? (λe=>match e.key with|.str y _=>Fast.sEq y x|_=>false) with
  | some e=>some (some e.val)
  | none=>if es.toList.any (·.refKey) then none else some none)
 | _=>none
theorem aBt(v:Value)(x:Str):v.isStr x=(match v with|.str y _=>Fast.sEq y x|_=>false):=by
 cases v with
 | str y t=>
  show(y==x)=Fast.sEq y x
  rw[Bool.eq_iff_iff,beq_iff_eq,Fast.sEq_iff]
 | _=>rfl
theorem fW(h:Heap)(x:Str):nsIn (mK h) mainGlobals x=mM h x:=by
 unfold nsIn mM
 rw[cR]
 simp only[aBt]
 rfl
noncomputable def mO(h:Heap)(cd:Value):Option Str:=match cd with
 | .ref c=>(match h.get? c with
  | some ⟨_,_,.fields vs,_⟩=>(match vs.toList with|_::.str n _::_=>some n|_=>none)
  | _=>none)
 | _=>none
theorem yY{h:Heap}{cd:Value}{q:Str}(e:mO h cd=some q):codeIn (mK h) cd q=true:=by
 unfold mO at e
 unfold codeIn
 split at e
 . rename_i c
   simp only[cR]
   split at e
   . rename_i vs _ ho
     rw[ho]
     split at e
     . rename_i a n t r hv
       cases e
       simp only[hv,beq_self_eq_true]
     . cases e
   . cases e
 . cases e
abbrev Pin:=Str×Str×Arguments×FuncBody×Scope×Addr×List (Str×Addr)×Value×Addr×Option Str
noncomputable def uX(h:Heap)(x:Str):Option Pin:=match mM h x with
 | some (some (.ref a))=>(match h.get? a with
  | some ⟨_,_,.func fd,_⟩=>some (fd.name,fd.qualname,fd.params,fd.body,fd.scope,fd.globals,fd.closure,fd.defaults,fd.builtins,mO h fd.code)
  | _=>none)
 | _=>none
noncomputable def bO(s:Stmt):Str:=match s with
 | .FunctionDef x _ _ _ _ _ _ _ _ _=>x
 | _=>⟨#[]⟩
noncomputable def aBu(st:Stmt):Pin:=(bO st,bO st,fP st,.stmts (fQ st),aY st,mainGlobals,[],.none,builtinsNs,some (bO st))
theorem aDg{h:Heap}{st:Stmt}(e:uX h (bO st)=some (aBu st)):∃fa fd,nsIn (mK h) mainGlobals (bO st)=some (some (.ref fa))/\Fun (mK h) (bO st) (bO st) st fa fd:=by
 unfold uX at e
 split at e
 . rename_i a hn
   split at e
   . rename_i c d fd sl ho
     obtain⟨n,qn,ps,b,sc,g,cl,df,kd,doc,pm,an,cd,ct,bn⟩:=fd
     unfold aBu at e
     simp only[Option.some.injEq,Prod.mk.injEq] at e
     obtain⟨rfl,rfl,rfl,rfl,rfl,rfl,rfl,rfl,rfl,hc⟩:=e
     refine⟨a,_,by rw[fW];exact hn,⟨⟨c,d,kd,doc,pm,an,cd,ct,sl,rfl,by rw[cR];exact ho,yY hc⟩,?_⟩⟩
     unfold keepIn
     simp only[cR,ho]
   . cases e
 . cases e
theorem sW{α:Type}{x:Str}{u:α}:∀{ps:List Str} {us:List α},ps.Nodup->ps.length=us.length->(x,u)∈ps.zip us->(ps.zip us).lookup x=some u
 | [],_,_,_,h=>by simp at h
 | p::ps,[],_,h,_=>by simp at h
 | p::ps,v::us,hn,hl,h=>by
  rw[List.zip_cons_cons] at h ⊢
  obtain⟨h1,h2⟩:=List.nodup_cons.mp hn
  rcases List.mem_cons.mp h with h|h
  . cases h;simp[List.lookup]
  . have hx:x∈ps:=(List.of_mem_zip h).1
    have:(x==p)=false:=beq_eq_false_iff_ne.mpr λz=>h1 (z▸hx)
    simp only[List.lookup,this]
    exact sW h2 (by simpa using hl) h
theorem aBv{α:Type}(L:List (Str×α)):∀{ps:List Str} {us:List α},ps.length=us.length->(∀p∈ps.zip us,L.lookup p.1=some p.2)->(ps.filterMap λn=>(L.lookup n).map (n,·))=ps.zip us
 | [],_,_,_=>by simp
 | p::ps,[],h,_=>by simp at h
 | p::ps,v::us,hl,h=>by
  rw[List.zip_cons_cons,List.filterMap_cons,h (p,v) (by simp),aBv L (ps:=ps) (us:=us) (by simpa using hl) λq hq=>h q (by rw[List.zip_cons_cons];exact List.mem_cons_of_mem _ hq)]
  rfl
theorem aBw{α:Type}(L:List (Str×α)):∀{ps:List Str} {us:List α},ps.length=us.length->(∀p∈ps.zip us,L.lookup p.1=some p.2)->(ps.filter λn=>(L.lookup n).isNone)=[]
 | [],_,_,_=>by simp
 | p::ps,[],h,_=>by simp at h
 | p::ps,v::us,hl,h=>by
  rw[List.filter_cons,h (p,v) (by simp),aBw L (ps:=ps) (us:=us) (by simpa using hl) λq hq=>h q (by rw[List.zip_cons_cons];exact List.mem_cons_of_mem _ hq)]
  rfl
noncomputable def fX(a:Arguments)(ps:List Str):Bool:=match a with
 | ⟨[],as,none,[],[],none,[]⟩=>decide (as.map (·.arg)=ps)&&decide ps.Nodup
 | _=>false
theorem mP{x q:Str}{a:Arguments}{b:List Stmt}{sc:Scope}{kV doc pm:Value}{an:Option Addr}{cdv ct:Value}{ps:List Str}{us:List Value}(h:fX a ps=true)(hl:us.length=ps.length) :
 bindArgs (fnOf x q a b sc .none kV doc pm an cdv ct) ⟨us,[]⟩=pure (ps.zip us):=by
 unfold fX at h
 split at h
 . rename_i as
   obtain⟨h1,h2⟩:=Bool.and_eq_true_iff.mp h
   have h1:=of_decide_eq_true h1
   have h2:=of_decide_eq_true h2
   have z:∀p∈ps.zip us,(ps.zip us).lookup p.1=some p.2:=λp hp=>sW h2 hl.symm hp
   have e1:=aBw (ps.zip us) hl.symm z
   have e2:=aBv (ps.zip us) hl.symm z
   unfold bindArgs
   have e3:∀s:Value,s=.none->(seqItems? s)=pure none:=λs e=>by subst e;rfl
   simp only[mN,List.nil_append,h1,e3,List.forIn_nil,pure_bind,hl,gt_iff_lt,Nat.lt_irrefl,decide_false,Bool.false_and,Option.getD_none,lN,Nat.zero_sub,List.drop_nil,Nat.sub_zero,List.take_length,e1,List.isEmpty_nil,Bool.not_true,List.drop_length,List.zip_nil_right,List.append_nil,e2,if_false,bF]
 . cases h
noncomputable def sX(s:Stmt):Bool:=match s with
 | .FunctionDef _ _ _ _ _ _ _ _ _ _=>true
 | _=>false
noncomputable def aBx:D->Value->Bool
 | .int i,.int j _=>decide (i=j)
 | .str a,.str b _=>Fast.sEq a b
 | .non,.none=>true
 | .bl a,.bool b=>a==b
 | _,_=>false
noncomputable def uY(h:Heap)(c:Str×D):Bool:=match mM h c.1 with
 | some (some u)=>aBx c.2 u
 | _=>false
noncomputable def iM(p:Program)(cns:List (Str×D))(h:Heap):List (Option Pin)×List (Option (Option Value))×Bool:=
 ((p.main.body.filter sX).map (λst=>uX h (bO st)),bltNames.map (mM h),cns.all (uY h))
noncomputable def mQ(p:Program):List (Option Pin)×List (Option (Option Value))×Bool:=
 ((p.main.body.filter sX).map (λst=>some (aBu st)),bltNames.map (λ_=>some none),true)
noncomputable def sY(p:Program)(i:Nat):Stmt:=p.main.body.getD i (.Pass ⟨0,0,0,0⟩)
noncomputable def jY(p:Program)(c:Nat×List Str):Tx:=⟨bO (sY p c.1),bO (sY p c.1),sY p c.1,c.2⟩
theorem aGa{p:Program}{i:Nat}(h:sX (sY p i)=true):sY p i∈p.main.body:=by
 unfold sY at h ⊢
 rw[List.getD_eq_getElem?_getD] at h ⊢
 cases e:p.main.body[i]? with
 | none=>rw[e] at h;cases h
 | some s=>exact mG e
theorem aDh{h:Heap}{c:Str×D}(e:uY h c=true):∃u v,nsIn (mK h) mainGlobals c.1=some (some u)/\aR v u/\∀H ex,Rep (mK h) H ex c.2 v:=by
 unfold uY at e
 split at e
 . rename_i u hn
   obtain⟨x,d⟩:=c
   have e:aBx d u=true:=e
   unfold aBx at e
   split at e
   . cases of_decide_eq_true e;exact⟨_,.int _,(fW _ _).trans hn,⟨_,rfl⟩,λ_ _=>rfl⟩
   . cases Fast.sEq_iff.mp e;exact⟨_,.str _,(fW _ _).trans hn,⟨_,rfl⟩,λ_ _=>rfl⟩
   . exact⟨_,.non,(fW _ _).trans hn,rfl,λ_ _=>rfl⟩
   . cases eq_of_beq e;exact⟨_,.bl _,(fW _ _).trans hn,rfl,λ_ _=>rfl⟩
   . cases e
 . cases e
theorem aGb{prog p:Program}{w:World}{h0 h:Heap}{mg:Str->Option Value}{P:Pg}{Γ:Ct}{ix:List (Nat×List Str)}{cns:List (Str×D)}(S:iM p cns h0=mQ p)(k:∀b o,h0.get? b=some o->h.get? b=some o)(G:h.Ns mainGlobals mg)
 (hi:(ix.all λc=>sX (sY p c.1))=true) (h1:Γ.fns=(ix.map (jY p)).map (·.x)) (h2:Γ.cns=cns) (h3:Γ.tbs=[]) (hb:((P.fns.zip (ix.map (jY p))).all λq=>fX (fP q.2.st) (q.2.N.take q.1.np))=true) (chk:fJ Γ P.fns (ix.map (jY p))=true) :
 Top prog w (mK h0) mg P Γ (ix.map (jY p)):=by
 unfold iM mQ at S
 simp only[Prod.mk.injEq] at S
 obtain⟨s1,s2,s3⟩:=S
 have X:=xE k
 exact {
  fn:=λf t ht=>by
   rw[List.getElem?_map] at ht
   obtain⟨c,hc,rfl⟩:=Option.map_eq_some_iff.mp ht
   have hd:=List.all_eq_true.mp hi c (mG hc)
   obtain⟨fa,fd,g1,g2⟩:=aDg (List.map_inj_left.mp s1 _ (List.mem_filter.mpr ⟨aGa hd,hd⟩))
   refine⟨fa,fd,mg_of X G g1,g2,λF hF=>g2.binds λkV doc pm an cdv ct us hl=>mP (List.all_eq_true.mp hb (F,jY p c) (mG (i:=f) ?_)) hl⟩
   rw[List.getElem?_zip_eq_some]
   exact⟨hF,by rw[List.getElem?_map,hc];rfl⟩
  fns:=λf x hx=>by
   rw[h1,List.getElem?_map] at hx
   obtain⟨t,ht,rfl⟩:=Option.map_eq_some_iff.mp hx
   exact⟨t,ht,rfl⟩
  blt:=λx hx=>mg_none_of X G ((fW h0 x).trans (List.map_inj_left.mp s2 x hx))
  cns:=λx d hx=>by
   rw[h2] at hx
   obtain⟨u,v,g1,g2⟩:=aDh (List.all_eq_true.mp s3 _ (PySem.mem_of_lookup hx))
   exact⟨u,v,mg_of X G g1,g2⟩
  tab:=λi x hx=>by rw[h3] at hx;simp at hx
  chk:=chk }
theorem aBy{l:PySem.W.OpenLaw}{n k:Nat}{q:Program}{loose:List Str}{XP:(Str->Option Value)->Heap->Prop}{YP:World->Heap->Prop}{d:DefRec}{sp:PySem.W.Frag->Sp}{x:Str}(hn:l.most=some n)(hn2:n<=sizeLine)(hdf:d.params.defaults=[])(hr:gK k callerA)
 (F:∀(w:World) (mg:Str->Option Value) (fa:Addr) (h:Heap),YP w h->h.Ns mainGlobals mg->mg d.name=some (.ref fa)->∃K:PySem.W.Frag,K.In h/\∃fd:FuncData,(∀(s:Shared) (u:Value),BindsTo s fd ⟨[u],[]⟩ [(x,u)])/\∀base:Heap,K.In base->base.Ns mainGlobals mg->jS l.prog w K mg base CX0 k fa fd [x] (sp K))
 (hsp:∀(K:PySem.W.Frag) (H:Hp) (a:Addr) (ns:List Int),ns.length<=n->aCr H->SqL K H a (ns.map V.int)->sp K [.ref a] H (λv _=>v=.bl true) λ_ _ _=>False):PySem.W.WalkO q loose XP YP l.row.toRowW d [] (λf vs=>PySem.call f vs):=by
 refine Att.attach_call hn hdf λw s₀ s₁ mg mb fa o pm cd doc a vs ns G Y ho hd hcd hmg hobj hints hlen hg=>?_
 obtain⟨K,KX,fd,hb,hF⟩:=F w mg fa _ Y G.T.g hmg
 exact aAf KX G.T.g G.T.b G.T.builtins G.T.nolimit hg hobj hints (Nat.le_trans hlen hn2) hr hF hb (λH hO hS=>hsp K H a ns hlen hO hS) λ_ _ _ z=>z
noncomputable def lst(p:Program):Stmt:=p.main.body.getLastD (.Pass ⟨0,0,0,0⟩)
noncomputable def xF(p:Program):Program:={ p with main:={ p.main with body:=[lst p] } }
noncomputable def aBz(p:Program):List Str:=(p.main.scope.names.map (·.1)).filter λx=>!(Fast.sEq x (bO (lst p)))
noncomputable def aGc(s:Stmt):Pos:=match s with
 | .FunctionDef _ _ _ _ _ _ _ _ _ p=>p
 | _=>⟨0,0,0,0⟩
noncomputable def gR(p:Program):DefRec:=⟨bO (lst p),fP (lst p),fQ (lst p),aY (lst p),aGc (lst p)⟩
theorem aGd{l:PySem.W.OpenLaw}{P:Pg}{cns:List (Str×D)}{ix:List (Nat×List Str)}{k f N:Nat}{x:Str}{sl:List Str}(said:l.row.wellSaid=true)(left:LeftO l.prog (xF l.prog) (aBz l.prog) (λ_=>true) (λs=>iM l.prog cns s.heap) (λ_=>mQ l.prog) N)
 (hdef:defOf (xF l.prog) l.name=some (gR l.prog,[])) (hp:l.prog.theDef l.name=some ((gR l.prog).params,(gR l.prog).body,(gR l.prog).scope)) (hk:kwWritten? (gR l.prog).params.kwonlyargs (gR l.prog).params.kw_defaults=some []) (hwr:(!l.writes||([]:WRecords).isEmpty)=true)
 (ok:(chainsOk (xF l.prog)&&opensWell l.prog&&(frees l.row.toRowW&&l.row.within.isEmpty))=true) (hb:l.prog.bare) (hw:l.row.toRowW.promised) (hn:l.most=some 63) (hdf:(gR l.prog).params.defaults=[])
 (hi:(ix.all λc=>sX (sY l.prog c.1))=true) (hbd:((P.fns.zip (ix.map (jY l.prog))).all λq=>fX (fP q.2.st) (q.2.N.take q.1.np))=true) (chk:fJ ⟨[],[],(ix.map (jY l.prog)).map (·.x),cns,[],true,[]⟩ P.fns (ix.map (jY l.prog))=true)
 (hr:gK (k+1) callerA) (hx:(ix.map (jY l.prog))[f]? = some ⟨bO (lst l.prog),bO (lst l.prog),lst l.prog,x::sl⟩) (hnp:(P.fns[f]?).map (·.np)=some 1)
 (pure:∀ns:List Int,ns.length<=63->∃fr pa,Hp.call P (k+1) f [.lst (ns.map D.int)]=.ok (.bl true,fr,pa)):l.row.Holds:=by
 refine holds_open (XP:=λ_ _=>True) (YP:=λ_ h=>∃h0,iM l.prog cns h0=mQ l.prog/\∀b o,h0.get? b=some o->h.get? b=some o) left (λw s e=>⟨s.heap,e,λ_ _ z=>z⟩) (λw h h' ⟨h0,e,k⟩ k'=>⟨h0,e,λb o z=>k' b o (k b o z)⟩) (λ_ _=>trivial) (λ_ _ _ _ _=>trivial) hdef hp hk (λ_ _=>recFacts_nil rfl) hwr said ok hb hw ?_
 obtain⟨F,hF,hFn⟩:=Option.map_eq_some_iff.mp hnp
 refine aBy (sp:=λK=>spF K P (k+1) f) (x:=x) hn (by decide) hdf hr (λw mg fa h ⟨h0,e,kk⟩ G hmg=>?_) λK H a ns hl hO hS=>aFX hO hS (pure ns hl)
 have T:=aGb (prog:=l.prog) (w:=w) (P:=P) (Γ:=⟨[],[],(ix.map (jY l.prog)).map (·.x),cns,[],true,[]⟩) e kk G hi rfl rfl rfl hbd chk
 obtain⟨fa',fd,g1,g2,g3⟩:=T.fn f _ hx
 have e:=hmg.symm.trans g1
 cases e
 have b:=g3 F hF
 refine⟨mK h0,xE kk,fd,λs u=>?_,λbase _ _=>?_⟩
 . obtain⟨oc,od,kV,doc,pm,an,cdv,ct,osl,rfl,lk,hcd⟩:=g2.ex
   refine .of_eq ((mP (ps:=[x]) ?_ rfl).trans rfl)
   have:=List.all_eq_true.mp hbd (F,_) (mG (i:=f) (List.getElem?_zip_eq_some.mpr ⟨hF,hx⟩))
   rw[hFn] at this
   exact this
 . have:=aFW (base:=base) T hx hF g2 k
   rw[hFn] at this
   exact this
end Hh
end
noncomputable section
namespace Hp
open PySem (Str Operator CmpOp)
section
variable {P:Pg} {cl:Caller} {σ:Sg}
@[simp] theorem aC {α β:Type} (a:α) (f:α->R β):((R.ok a:R α) >>= f)=f a:=id rfl
@[simp] theorem xG {α:Type} (x:R α):R.iff true x=x:=id rfl
@[simp] theorem aKr {α:Type} (x:α):R.of (some x)=.ok x:=id rfl
@[simp] theorem bG {α:Type} (a:α) (f:α->O):O.from σ (.ok a) f=f a:=id rfl
@[simp] theorem aIu (f:Sg->O):(O.next σ).on f=f σ:=id rfl
@[simp] theorem aKj (v:Vl) (f:Sg->O):(O.ret v).on f=.ret v:=id rfl
@[simp] theorem cV (d:D):ev P cl σ (.c d)=.ok (.cl d):=id rfl
@[simp] theorem iN (i:Nat):ev P cl σ (.v i)=bX σ i:=id rfl
@[simp] theorem eA (o:Operator) (a b:E):ev P cl σ (.op o a b)=(ev P cl σ a >>= λx=>ev P cl σ b >>= λy=>opD o x y):=id rfl
@[simp] theorem aJT (a:E):ev P cl σ (.neg a)=(ev P cl σ a >>= λx=>match x.d with|.int i=>.ok (.cl (.int (-i)))|_=>.bad):=id rfl
@[simp] theorem aKk (a:E):ev P cl σ (.nt a)=(ev P cl σ a >>= λx=>dQ x >>= λk=>.ok (.cl (.bl (!k)))):=id rfl
@[simp] theorem aEa (a b:E):ev P cl σ (.an a b)=(ev P cl σ a >>= λx=>match x.d with|.bl true=>ev P cl σ b|.bl false=>.ok (.cl (.bl false))|_=>.bad):=id rfl
@[simp] theorem aJU (a b:E):ev P cl σ (.orr a b)=(ev P cl σ a >>= λx=>match x.d with|.bl true=>.ok (.cl (.bl true))|.bl false=>ev P cl σ b|_=>.bad):=id rfl
@[simp] theorem aJV (t a b:E):ev P cl σ (.ife t a b)=(tst P cl σ t >>= λx=>if x then ev P cl σ a else ev P cl σ b):=id rfl
@[simp] theorem aBA (o:CmpOp) (a b:E):ev P cl σ (.cmp o a b)=(ev P cl σ a >>= λx=>ev P cl σ b >>= λy=>match bZ o x.d y.d with|some k=>.ok (.cl (.bl k))|none=>.bad):=id rfl
@[simp] theorem aID (o o':CmpOp) (a b c:E):ev P cl σ (.cmp2 o o' a b c)=(ev P cl σ a >>= λx=>ev P cl σ b >>= λy=>match bZ o x.d y.d with
 | some true=>ev P cl σ c >>= λz=>(match bZ o' y.d z.d with|some k=>.ok (.cl (.bl k))|none=>.bad)
 | some false=>.ok (.cl (.bl false))
 | none=>.bad):=id rfl
@[simp] theorem fK (a b:E):ev P cl σ (.idx a b)=(ev P cl σ a >>= λx=>ev P cl σ b >>= λy=>dW x y):=id rfl
@[simp] theorem aGe (es:Es):ev P cl σ (.tup es)=(evs P cl σ es >>= λvs=>.ok (kW vs)):=id rfl
@[simp] theorem fL (es:Es):ev P cl σ (.lst es)=(evs P cl σ es >>= λvs=>.ok (cB vs)):=id rfl
@[simp] theorem cW (f:Nat) (es:Es):ev P cl σ (.call f es)=(evs P cl σ es >>= λvs=>cl f (vs.map (·.d)) >>= λr=>.ok (eW vs r)):=id rfl
@[simp] theorem sZ (b:Bi) (es:Es):ev P cl σ (.bi b es)=(evs P cl σ es >>= λvs=>biD b vs):=id rfl
@[simp] theorem aJW (m:Mt) (o:E) (es:Es):ev P cl σ (.mth m o es)=(ev P cl σ o >>= λx=>evs P cl σ es >>= λys=>mtD m x ys):=id rfl
@[simp] theorem aJX (a:E) (cs:List Cl):ev P cl σ (.isi a cs)=(ev P cl σ a >>= λx=>match isI cs P x.d with|some k=>.ok (.cl (.bl k))|none=>.bad):=id rfl
@[simp] theorem aDi (a:E) (h:E):ev P cl σ (.sli a .nil (.cons h .nil))=(ev P cl σ a >>= λx=>ev P cl σ h >>= λh=>match h.d with|.int h=>.iff (aF h) (dD x none (some h))|_=>.bad):=by
 show(ev P cl σ a >>= λx=>evs P cl σ .nil >>= λl=>evs P cl σ (.cons h .nil) >>= λh=>_)=_
 cases ev P cl σ a with
 | ok x=>
  show(evs P cl σ (.cons h .nil) >>= λh=>_)=(ev P cl σ h >>= λh=>_)
  show((ev P cl σ h >>= λx=>evs P cl σ .nil >>= λxs=>R.ok (x::xs)) >>= λh=>_)=_
  cases ev P cl σ h <;> rfl
 | exc e=>rfl
 | bad=>rfl
theorem qP(k:Nat)(caps:List Nat)(t:T)(it:It)(cond:Es)(elt:E):ev P cl σ (.comp k caps t it cond elt)=(walk P cl σ it >>= λxs=>
 cE (λx=>setT (List.replicate k .dead++caps.map λi=>((freeze σ xs.2)[i]?).getD .dead) x t >>= λσ1=>tsts P cl σ1 cond >>= λk=>if k then (ev P cl σ1 elt >>= λy=>.ok (some y)) else .ok none) xs.1 >>= λvs=>
 .iff (decide (vs.length<=lim)) (.ok (hU k caps xs.2 vs))):=rfl
@[simp] theorem aGl (a:E):ev P cl σ (.numset a)=(ev P cl σ a >>= λx=>match x.d with
 | .lst ds=>(match pP ds with|some ks=>.iff (decide (ds.length<=1000)) (.ok (.cl (.int (aAk ks).length)))|none=>.bad)
 | _=>.bad):=id rfl
@[simp] theorem aX:evs P cl σ .nil=.ok []:=id rfl
@[simp] theorem aO (e:E) (es:Es):evs P cl σ (.cons e es)=(ev P cl σ e >>= λx=>evs P cl σ es >>= λxs=>.ok (x::xs)):=id rfl
@[simp] theorem jK (a:E):tst P cl σ (.nt a)=(tst P cl σ a >>= λx=>.ok (!x)):=id rfl
@[simp] theorem aBB (a b:E):tst P cl σ (.an a b)=(tst P cl σ a >>= λx=>if x then tst P cl σ b else .ok false):=id rfl
@[simp] theorem xH (a b:E):tst P cl σ (.orr a b)=(tst P cl σ a >>= λx=>if x then .ok true else tst P cl σ b):=id rfl
@[simp] theorem aKl (d:D):tst P cl σ (.c d)=dQ (.cl d):=id rfl
@[simp] theorem aKm (i:Nat):tst P cl σ (.v i)=(bX σ i >>= λx=>dQ x):=id rfl
@[simp] theorem cM (o:CmpOp) (a b:E):tst P cl σ (.cmp o a b)=(ev P cl σ a >>= λx=>ev P cl σ b >>= λy=>match bZ o x.d y.d with|some k=>.ok k|none=>.bad):=id rfl
@[simp] theorem aIv (o o':CmpOp) (a b c:E):tst P cl σ (.cmp2 o o' a b c)=(ev P cl σ a >>= λx=>ev P cl σ b >>= λy=>match bZ o x.d y.d with
 | some true=>ev P cl σ c >>= λz=>(match bZ o' y.d z.d with|some k=>.ok k|none=>.bad)
 | some false=>.ok false
 | none=>.bad):=id rfl
@[simp] theorem tB (f:Nat) (es:Es):tst P cl σ (.call f es)=(evs P cl σ es >>= λvs=>cl f (vs.map (·.d)) >>= λr=>dQ (eW vs r)):=id rfl
@[simp] theorem kH (a:E) (cs:List Cl):tst P cl σ (.isi a cs)=(ev P cl σ a >>= λx=>match isI cs P x.d with|some k=>.ok k|none=>.bad):=id rfl
@[simp] theorem aIE (a b:E):tst P cl σ (.idx a b)=(ev P cl σ a >>= λx=>ev P cl σ b >>= λy=>dW x y >>= λz=>dQ z):=id rfl
@[simp] theorem aBC:tsts P cl σ .nil=.ok true:=id rfl
@[simp] theorem yZ (e:E) (es:Es):tsts P cl σ (.cons e es)=(tst P cl σ e >>= λx=>if x then tsts P cl σ es else .ok false):=id rfl
@[simp] theorem aBD (a b:E):walk P cl σ (.rng a b)=(ev P cl σ a >>= λx=>ev P cl σ b >>= λy=>match x.d,y.d with|.int i,.int j=>.iff (aF i&&aF j) (.ok ((eJ i j).map .cl,[]))|_,_=>.bad):=id rfl
@[simp] theorem aIw (e:E):walk P cl σ (.seq e)=(ev P cl σ e >>= λx=>match x.d with
 | .lst ds=>.ok (items x ds,x.al)
 | .tup ds=>.ok (items x ds,x.al)
 | .str a=>.iff (decide (a.length<=lim)) (.ok (a.cps.toList.map λn=>.cl (.str ⟨#[n]⟩),[]))
 | _=>.bad):=id rfl
@[simp] theorem aIx (a b:E):walk P cl σ (.zip a b)=(ev P cl σ a >>= λx=>ev P cl σ b >>= λy=>match nD x.d,nD y.d with
 | some as,some bs=>.ok (items ⟨.non,false,x.pa||y.pa,x.al++y.al⟩ (aAn as bs),x.al++y.al)
 | _,_=>.bad):=id rfl
@[simp] theorem cH (t:T) (e:E):ex P cl σ (.set t e)=O.from σ (ev P cl σ e) λv=>O.from σ (setT (freeze σ v.al) v t) .next:=id rfl
@[simp] theorem aJY (i:Nat) (e:E):ex P cl σ (.app i e)=O.from σ (ev P cl σ e) λv=>put σ i v λds=>some (ds++[v.d]):=id rfl
@[simp] theorem aBE (i:Nat) (e:E):ex P cl σ (.ext i e)=O.from σ (ev P cl σ e) λv=>match kY v with|some (v',ds')=>put σ i v' λds=>some (ds++ds')|none=>.bad:=id rfl
@[simp] theorem aJZ (i:Nat):ex P cl σ (.clr i)=put σ i (.cl .non) λ_=>some []:=id rfl
@[simp] theorem aIy (i:Nat) (k e:E):ex P cl σ (.setIx i k e)=O.from σ (ev P cl σ e) λv=>O.from σ (ev P cl σ k) λkv=>match kv.d with
 | .int k=>put σ i v λds=>(match ixN ds.length k with|some j=>some (ds.set j v.d)|none=>none)
 | _=>.bad:=id rfl
@[simp] theorem mR (e:E):ex P cl σ (.ret e)=O.from σ (ev P cl σ e) .ret:=id rfl
@[simp] theorem cL (c:E) (a b:Ss):ex P cl σ (.iff c a b)=O.from σ (tst P cl σ c) λk=>if k then exs P cl σ a else exs P cl σ b:=id rfl
theorem aGf(t:T)(it:It)(b:Ss):ex P cl σ (.for t it b)=O.from σ (walk P cl σ it) λxs=>dX (λσ x=>O.from σ (setT σ x t) λσ'=>exs P cl σ' b) xs.1 (freeze σ xs.2):=rfl
@[simp] theorem aKa (i j:Nat):ex P cl σ (.mov i j)=(match σ[j]? with
 | some (.own pa ds)=>if i=j then .bad else .next ((σ.set j .dead).set i (.own pa ds))
 | some (.sh pa d)=>.next (σ.set i (.sh (pa&&!noL d) d))
 | _=>.bad):=id rfl
@[simp] theorem aIF (i:Nat):ex P cl σ (.retv i)=(match σ[i]? with|some (.own pa ds)=>.ret ⟨.lst ds,true,pa,[]⟩|_=>O.from σ (bX σ i) .ret):=id rfl
@[simp] theorem aIz (i:Nat) (k:E):ex P cl σ (.pop none i (some k))=O.from σ (ev P cl σ k >>= λv=>match v.d with|.int k=>.iff (aF k) (.ok (some k))|_=>.bad) λk=>O.from σ (hW σ i k) λr=>.next r.2:=id rfl
@[simp] theorem eQ:exs P cl σ .nil=.next σ:=id rfl
@[simp] theorem bS (s:S) (ss:Ss):exs P cl σ (.cons s ss)=(ex P cl σ s).on λσ'=>exs P cl σ' ss:=id rfl
end
theorem cN{P:Pg}{cl:Caller}{f:Nat}{F:Fn}{ds:List D}(hF:P.fns[f]? = some F)(hl:ds.length=F.np){v:Vl}
 (h:exs P cl ((ds.map λd=>Sl.sh true d)++List.replicate (F.ns-F.np) Sl.dead) F.body=.ret v):uE P cl f ds=.ok (v.d,v.fr,v.pa):=by
 unfold uE
 rw[hF]
 simp only[hl,if_true,h]
theorem tD{f:Sg->Vl->O}:∀(xs:List Vl) (I:Nat->Sg->Prop) (σ:Sg),I 0 σ->(∀(i:Nat) (h:i<xs.length) (σ:Sg),I i σ->∃σ',f σ xs[i]=.next σ'/\I (i+1) σ')->∃σ',dX f xs σ=.next σ'/\I xs.length σ'
 | [],I,σ,h0,_=>⟨σ,rfl,h0⟩
 | x::xs,I,σ,h0,hs=>by
  obtain⟨σ1,e1,h1⟩:=hs 0 (by simp) σ h0
  obtain⟨σ2,e2,h2⟩:=tD xs (λi=>I (i+1)) σ1 h1 λi h σ hI=>by
   have:=hs (i+1) (by simpa using h) σ hI
   simpa using this
  refine⟨σ2,?_,by simpa using h2⟩
  have e1:f σ x=.next σ1:=by simpa using e1
  unfold dX
  rw[e1]
  exact e2
theorem mS{f:Vl->R (Option Vl)}{g:Vl->Vl}:∀{xs:List Vl},(∀x∈xs,f x=.ok (some (g x)))->cE f xs=.ok (xs.map g)
 | [],_=>rfl
 | x::xs,h=>by
  have h1:=h x List.mem_cons_self
  have h2:=mS (f:=f) (g:=g) (xs:=xs) λy hy=>h y (List.mem_cons_of_mem _ hy)
  show(f x >>= λy=>cE f xs >>= λys=>(match y with|some y=>R.ok (y::ys)|none=>R.ok ys))=_
  rw[h1,h2]
  rfl
theorem aGg(n:Nat):(eJ 0 (n:Int)).map Vl.cl=(List.range n).map λ(k:Nat)=>Vl.cl (.int (k:Int)):=by
 unfold eJ
 rw[List.map_map]
 simp
theorem aDj{P:Pg}{cl:Caller}{σ:Sg}{k:Nat}{caps:List Nat}{t:T}{it:It}{elt:E}{xs:List Vl}{al:List Nat}(g:Vl->Vl)(hw:walk P cl σ it=.ok (xs,al))(hl:xs.length<=lim)
 (hb:∀x∈xs,∃σ1,setT (List.replicate k .dead++caps.map λi=>((freeze σ al)[i]?).getD .dead) x t=.ok σ1/\ev P cl σ1 elt=.ok (g x)):ev P cl σ (.comp k caps t it .nil elt)=.ok (hU k caps al (xs.map g)):=by
 rw[qP,hw,aC,mS (g:=g) λx hx=>by
  obtain⟨σ1,e1,e2⟩:=hb x hx
  show(setT _ x t >>= λσ1=>_)=_
  rw[e1]
  show(ev P cl σ1 elt >>= λy=>R.ok (some y))=_
  rw[e2]
  rfl]
 have hl2:decide ((xs.map g).length<=lim)=true:=decide_eq_true (by rw[lM];exact hl)
 rw[aC,hl2,xG]
theorem fM{P:Pg}{cl:Caller}{σ:Sg}{t:T}{it:It}{b:Ss}{xs:List Vl}{al:List Nat}(I:Nat->Sg->Prop)(hw:walk P cl σ it=.ok (xs,al))(h0:I 0 (freeze σ al))
 (hs:∀(i:Nat) (h:i<xs.length) (σ:Sg),I i σ->∃σ1 σ',setT σ xs[i] t=.ok σ1/\exs P cl σ1 b=.next σ'/\I (i+1) σ'):∃σ',ex P cl σ (.for t it b)=.next σ'/\I xs.length σ':=by
 rw[aGf,hw]
 refine tD xs I _ h0 λi h σ hI=>?_
 obtain⟨σ1,σ',e1,e2,h'⟩:=hs i h σ hI
 refine⟨σ',?_,h'⟩
 show O.from σ (setT σ xs[i] t) _=_
 rw[e1]
 exact e2
theorem aDk:aF 0=true:=by decide
theorem xI{n:Nat}(hn:n<=1000000):aF (n:Int)=true:=by
 unfold aF
 rw[bA,decide_eq_true_eq,decide_eq_true_eq]
 exact⟨Int.le_trans (b:=0) (by decide) (Int.natCast_nonneg n),Int.lt_of_le_of_lt (b:=1000000) (by omega) (by decide)⟩
theorem aDl{n:Int}(h0:0<=n)(hn:n<=1000000):aF n=true:=by
 have:=xI (n:=n.toNat) (by omega)
 rwa [Int.toNat_of_nonneg h0] at this
theorem gU{P:Pg}{cl:Caller}{σ:Sg}{a:E}{v:Vl}{n:Nat}(h:ev P cl σ a=.ok v)(hd:v.d=.int n)(hn:n<=1000000):walk P cl σ (.rng (.c (.int 0)) a)=.ok ((List.range n).map λ(k:Nat)=>Vl.cl (.int (k:Int)),[]):=by
 rw[aBD,h,cV,aC,aC,hd,<-aGg]
 show R.iff (aF 0&&aF (n:Int)) _=_
 rw[aDk,xI hn]
 rfl
theorem oN{k:Nat}{caps al:List Nat}{vs:List Vl}(h:noLs (vs.map (·.d))=true):hU k caps al vs=⟨.lst (vs.map (·.d)),true,false,[]⟩:=by
 unfold hU
 rw[if_pos h]
end Hp
end
noncomputable section
namespace HpS
open Hp PySem
noncomputable def box(b:Str×Int):D:=.tup [.str b.1,.int b.2]
noncomputable def bT(bs:List (Str×Int)):List D:=bs.map box
noncomputable def aS(is:List Int):D:=.tup (is.map D.int)
structure zA (bs:List (Str×Int)):Prop where
 few:bs.length<=5
 one:∀b∈bs,1<=b.2/\b.2<=7
 room:(bs.map λb=>b.2+1).foldl (·*·) 1<=24
noncomputable def iO(bs:List (Str×Int)):Int:=(bs.map λb=>b.2+1).foldl (·*·) 1
theorem mT:∀is:List Int,noLs (is.map D.int)=true
 | []=>rfl
 | i::is=>by simp[noLs,noL,mT is]
@[simp] theorem mU (is:List Int):noL (aS is)=true:=by simp[aS,noL,mT]
@[simp] theorem aDm (b:Str×Int):noL (box b)=true:=by simp[box,noL,noLs]
theorem fN:∀ss:List (List Int),noLs (ss.map aS)=true
 | []=>rfl
 | s::ss=>by simp[noLs,fN ss]
theorem tE{v:Vl}(bs:List (Str×Int)):items v (bT bs)=bs.map λb=>Vl.cl (box b):=by
 simp[items,bT,Vl.sub,Function.comp_def]
theorem kI:∀(xs:List Int) (a:Int),1<=a->(∀x∈xs,1<=x)->a<=xs.foldl (·*·) a
 | [],a,_,_=>Int.le_refl _
 | x::xs,a,ha,h=>by
  have hx:=h x List.mem_cons_self
  have h1:a<=a*x:=by
   have:=Int.mul_le_mul_of_nonneg_left hx (show 0<=a by omega)
   omega
  exact Int.le_trans h1 (kI xs (a*x) (by omega) λy hy=>h y (List.mem_cons_of_mem _ hy))
theorem qQ(bs:List (Str×Int))(h:∀b∈bs,1<=b.2)(i:Nat):1<=iO (bs.take i)/\iO (bs.take i)<=iO bs:=by
 have pos:∀(l:List (Str×Int)),(∀b∈l,1<=b.2)->∀x∈l.map (λb=>b.2+1),1<=x:=λl hl x hx=>by
  obtain⟨b,hb,rfl⟩:=List.mem_map.mp hx
  have:=hl b hb
  omega
 have e:bs=bs.take i++bs.drop i:=(List.take_append_drop i bs).symm
 have h1:1<=iO (bs.take i):=kI _ 1 (by omega) (pos _ λb hb=>h b (List.mem_of_mem_take hb))
 refine⟨h1,?_⟩
 have:iO bs=((bs.drop i).map λb=>b.2+1).foldl (·*·) (iO (bs.take i)):=by
  unfold iO
  conv=>lhs;rw[e,List.map_append,List.foldl_append]
 rw[this]
 exact kI _ _ h1 (pos _ λb hb=>h b (List.mem_of_mem_drop hb))
theorem zB{bs:List (Str×Int)}{i:Nat}(h:i<bs.length):iO (bs.take (i+1))=iO (bs.take i)*(bs[i].2+1):=by
 rw[List.take_succ_eq_append_getElem h]
 unfold iO
 rw[List.map_append,List.foldl_append]
 rfl
noncomputable def qR:Fn:=⟨1,6,
 (.cons (.set (.n 1) (.lst (.cons (.tup .nil) .nil)))
 (.cons (.for (.t [2,3]) (.seq (.v 0))
  (.cons (.set (.n 4) (.lst .nil))
  (.cons (.for (.n 5) (.seq (.v 1))
   (.cons (.ext 4 (.comp 1 [5] (.n 0) (.rng (.c (.int 0)) (.op .Add (.v 3) (.c (.int 1)))) .nil (.op .Add (.v 1) (.tup (.cons (.v 0) .nil)))))
   .nil))
  (.cons (.mov 1 4)
  .nil))))
 (.cons (.retv 1)
 .nil)))⟩
noncomputable def bL(b:List Int)(top:Int):List (List Int):=(List.range (top+1).toNat).map λ(h:Nat)=>b++[(h:Int)]
noncomputable def extend(found:List (List Int))(top:Int):List (List Int):=found.flatMap λb=>bL b top
noncomputable def aG(bs:List (Str×Int)):List (List Int):=bs.foldl (λfound b=>extend found b.2) [[]]
theorem eR{bs:List (Str×Int)}{i:Nat}(h:i<bs.length):aG (bs.take (i+1))=extend (aG (bs.take i)) bs[i].2:=by
 rw[List.take_succ_eq_append_getElem h]
 unfold aG
 rw[List.foldl_append]
 rfl
theorem uZ(found:List (List Int))(top:Int):(extend found top).length=found.length*(top+1).toNat:=by
 induction found with
 | nil=>simp[extend]
 | cons b r ih=>
  unfold extend at ih ⊢
  rw[List.flatMap_cons,lA,ih,lC,Nat.succ_mul]
  simp[bL]
  omega
theorem qS{bs:List (Str×Int)}(h:zA bs):∀i,i<=bs.length->((aG (bs.take i)).length:Int)=iO (bs.take i)/\∀s∈aG (bs.take i),s.length=i
 | 0,_=>by simp[aG,iO]
 | i+1,hi=>by
  have hi':i<bs.length:=by omega
  obtain⟨h1,h2⟩:=qS h i (by omega)
  obtain⟨g2,g3⟩:=h.one bs[i] (List.getElem_mem hi')
  rw[eR hi',zB hi',uZ]
  refine⟨?_,λs hs=>?_⟩
  . rw[Int.natCast_mul,h1,Int.toNat_of_nonneg (by omega)]
  . obtain⟨b,hb,hs⟩:=List.mem_flatMap.mp hs
    obtain⟨k,_,rfl⟩:=List.mem_map.mp hs
    rw[lA,h2 b hb];rfl
theorem aEb{bs:List (Str×Int)}(h:zA bs)(i:Nat)(hi:i<=bs.length):(aG (bs.take i)).length<=24:=by
 have h1:=(qS h i hi).1
 have h2:=(qQ bs (λb hb=>(h.one b hb).1) i).2
 have h3:iO bs<=24:=h.room
 omega
theorem jQ{found:List (List Int)}{top:Int}{j:Nat}(h:j<found.length):(found.take (j+1)).flatMap (λb=>bL b top)=(found.take j).flatMap (λb=>bL b top)++bL found[j] top:=by
 rw[List.take_succ_eq_append_getElem h,List.flatMap_append]
 simp
theorem aDn{found:List (List Int)}{top:Int}(j:Nat):((found.take j).flatMap λb=>bL b top).length<=(extend found top).length:=by
 have e:found=found.take j++found.drop j:=(List.take_append_drop j found).symm
 unfold extend
 conv=>rhs;rw[e,List.flatMap_append,lA]
 omega
theorem iP{v:Vl}(ss:List (List Int)):items v (ss.map aS)=ss.map λs=>Vl.cl (aS s):=by
 simp[items,Vl.sub,Function.comp_def]
theorem aBF{P:Pg}(n:Nat){s0 s1 s2 s4:Sl}{b:List Int}{top:Int}(ht:1<=top)(ht7:top<=7)(hb:b.length<=10) :
 ev P (call P n) [s0,s1,s2,.sh false (.int top),s4,.sh false (aS b)] (.comp 1 [5] (.n 0) (.rng (.c (.int 0)) (.op .Add (.v 3) (.c (.int 1)))) .nil (.op .Add (.v 1) (.tup (.cons (.v 0) .nil))))=.ok ⟨.lst ((bL b top).map aS),true,false,[]⟩:=by
 have hw:walk P (call P n) [s0,s1,s2,.sh false (.int top),s4,.sh false (aS b)] (.rng (.c (.int 0)) (.op .Add (.v 3) (.c (.int 1))))=.ok ((List.range (top+1).toNat).map λ(k:Nat)=>Vl.cl (.int (k:Int)),[]):=by
  refine gU (v:=.cl (.int (top+1))) ?_ ?_ (by omega)
  . simp[bX,Sl.val,opD,Vl.cl,noL]
  . show D.int (top+1)=D.int ((top+1).toNat:Int)
    rw[Int.toNat_of_nonneg (by omega)]
 rw[aDj (λv=>match v.d with|.int k=>.cl (aS (b++[k]))|_=>.cl .non) hw]
 . have e:(((List.range (top+1).toNat).map λ(k:Nat)=>Vl.cl (.int (k:Int))).map λv=>(match v.d with|.int k=>Vl.cl (aS (b++[k]))|_=>Vl.cl .non)).map (·.d)=(bL b top).map aS:=by
    simp[bL,Vl.cl,Function.comp_def]
   rw[oN (by rw[e];exact fN _),e]
 . simp only[lM,List.length_range];unfold lim;omega
 . intro y hy
   obtain⟨k,hk,rfl⟩:=List.mem_map.mp hy
   have hl:b.length+1<=lim:=by unfold lim;omega
   refine⟨[.sh false (.int k),.sh false (aS b)],?_,?_⟩
   . simp[setT,Vl.cl,Vl.slot,freeze]
   . simp[bX,Sl.val,Vl.cl,opD,kW,dH,bK,aS,noL,hl,mT]
theorem zC{P:Pg}{f:Nat}(hF:P.fns[f]? = some qR)(n:Nat){bs:List (Str×Int)}(h:zA bs):call P (n+1) f [.lst (bT bs)]=.ok (.lst ((aG bs).map aS),true,false):=by
 obtain⟨σ',e,hI⟩:=fM (P:=P) (cl:=call P n) (σ:=[.sh true (.lst (bT bs)),.own false [.tup []],.dead,.dead,.dead,.dead]) (t:=.t [2,3]) (it:=.seq (.v 0))
  (b:=.cons (.set (.n 4) (.lst .nil)) (.cons (.for (.n 5) (.seq (.v 1)) (.cons (.ext 4 (.comp 1 [5] (.n 0) (.rng (.c (.int 0)) (.op .Add (.v 3) (.c (.int 1)))) .nil (.op .Add (.v 1) (.tup (.cons (.v 0) .nil))))) .nil)) (.cons (.mov 1 4) .nil)))
  (xs:=bs.map λb=>Vl.cl (box b)) (al:=[])
  (λi σ=>∃s2 s3 s4 s5,σ=[.sh true (.lst (bT bs)),.own false ((aG (bs.take i)).map aS),s2,s3,s4,s5])
  (by simp[bX,Sl.val,tE]) ⟨_,_,_,_,rfl⟩ (λi hi σ hσ=>by
   obtain⟨s2,s3,s4,s5,rfl⟩:=hσ
   have hi':i<bs.length:=by simpa using hi
   obtain⟨g2,g3⟩:=h.one bs[i] (List.getElem_mem hi')
   have hl24:=aEb h (i+1) hi'
   rw[eR hi'] at hl24
   obtain⟨_,hlen⟩:=qS h i (by omega)
   have hfew:=h.few
   obtain⟨σ2,e2,hJ⟩:=fM (P:=P) (cl:=call P n) (σ:=[.sh true (.lst (bT bs)),.own false ((aG (bs.take i)).map aS),.sh false (.str bs[i].1),.sh false (.int bs[i].2),.own false [],s5]) (t:=.n 5) (it:=.seq (.v 1))
    (b:=.cons (.ext 4 (.comp 1 [5] (.n 0) (.rng (.c (.int 0)) (.op .Add (.v 3) (.c (.int 1)))) .nil (.op .Add (.v 1) (.tup (.cons (.v 0) .nil))))) .nil)
    (xs:=(aG (bs.take i)).map λs=>Vl.cl (aS s)) (al:=[1])
    (λj σ=>∃s5,σ=[.sh true (.lst (bT bs)),.sh false (.lst ((aG (bs.take i)).map aS)),.sh false (.str bs[i].1),.sh false (.int bs[i].2),.own false ((((aG (bs.take i)).take j).flatMap λb=>bL b bs[i].2).map aS),s5])
    (by simp[bX,Sl.val,iP]) ⟨_,by simp[freeze,Sl.freeze];rfl⟩ (λj hj σ hσ=>by
     obtain⟨s5,rfl⟩:=hσ
     have hj':j<(aG (bs.take i)).length:=by simpa using hj
     have hb:(aG (bs.take i))[j].length<=10:=by rw[hlen _ (List.getElem_mem hj')];omega
     have hc:=aBF (P:=P) n (s0:=.sh true (.lst (bT bs))) (s1:=.sh false (.lst ((aG (bs.take i)).map aS))) (s2:=.sh false (.str bs[i].1)) (s4:=.own false ((((aG (bs.take i)).take j).flatMap λb=>bL b bs[i].2).map aS)) (b:=(aG (bs.take i))[j]) g2 g3 hb
     have hle:=aDn (found:=aG (bs.take i)) (top:=bs[i].2) (j+1)
     rw[jQ hj',lA] at hle
     have hlim:((((aG (bs.take i)).take j).flatMap λb=>bL b bs[i].2).map aS++(bL (aG (bs.take i))[j] bs[i].2).map aS).length<=lim:=by
      rw[lA,lM,lM];unfold lim;omega
     refine⟨[.sh true (.lst (bT bs)),.sh false (.lst ((aG (bs.take i)).map aS)),.sh false (.str bs[i].1),.sh false (.int bs[i].2),.own false ((((aG (bs.take i)).take j).flatMap λb=>bL b bs[i].2).map aS),.sh false (aS (aG (bs.take i))[j])],
      [.sh true (.lst (bT bs)),.sh false (.lst ((aG (bs.take i)).map aS)),.sh false (.str bs[i].1),.sh false (.int bs[i].2),.own false ((((aG (bs.take i)).take (j+1)).flatMap λb=>bL b bs[i].2).map aS),.sh false (aS (aG (bs.take i))[j])],?_,?_,⟨_,rfl⟩⟩
     . simp[setT,Vl.cl,Vl.slot]
     . rw[bS,aBE,hc,bG]
       show(match kY ⟨.lst ((bL (aG (bs.take i))[j] bs[i].2).map aS),true,false,[]⟩ with|some (v',ds')=>put _ 4 v' λds=>some (ds++ds')|none=>.bad).on _=_
       simp only[kY,fN,if_true]
       unfold put
       simp only[freeze,jN,gS,gZ]
       rw[if_pos hlim]
       simp[jQ hj'])
   obtain⟨s5',rfl⟩:=hJ
   refine⟨[.sh true (.lst (bT bs)),.own false ((aG (bs.take i)).map aS),.sh false (.str bs[i].1),.sh false (.int bs[i].2),s4,s5],[.sh true (.lst (bT bs)),.own false ((aG (bs.take (i+1))).map aS),.sh false (.str bs[i].1),.sh false (.int bs[i].2),.dead,s5'],?_,?_,⟨_,_,_,_,rfl⟩⟩
   . simp[setT,box,Vl.cl,Vl.sub,noL,Vl.slot]
   . have et:(aG (bs.take i)).take ((aG (bs.take i)).map λs=>Vl.cl (aS s)).length=aG (bs.take i):=by simp
     rw[et] at e2
     simp[cB,dH,bK,setT,freeze,Vl.slot,e2,eR hi',extend])
 obtain⟨s2,s3,s4,s5,rfl⟩:=hI
 have et:bs.take (bs.map λb=>Vl.cl (box b)).length=bs:=by simp
 rw[et] at e
 refine cN (F:=qR) hF rfl (v:=⟨.lst ((aG bs).map aS),true,false,[]⟩) ?_
 simp[qR,cB,kW,dH,bK,setT,freeze,Vl.slot,e]
end HpS
end
noncomputable section
namespace Hp
open PySem (Str)
@[simp] theorem aIG (d:D):(⟨d,false,false,[]⟩:Vl)=.cl d:=id rfl
@[simp] theorem zD (d:D):(Vl.cl d).d=d:=id rfl
@[simp] theorem aKn (d:D):(Vl.cl d).fr=false:=id rfl
@[simp] theorem aKo (d:D):(Vl.cl d).pa=false:=id rfl
@[simp] theorem aKp (d:D):(Vl.cl d).al=[]:=id rfl
@[simp] theorem aIH (d:D):(Vl.cl d).slot=.sh false d:=by cases d <;> rfl
@[simp] theorem fY (ds:List D) (pa:Bool) (al:List Nat):(⟨.lst ds,true,pa,al⟩:Vl).slot=.own pa ds:=id rfl
@[simp] theorem xJ (i:Nat) (d:D):Sl.val i (.sh false d)=.ok (.cl d):=id rfl
@[simp] theorem aII (i:Nat) (pa:Bool) (k:Int):Sl.val i (.sh pa (.int k))=.ok (.cl (.int k)):=by cases pa <;> rfl
@[simp] theorem aIJ (i:Nat) (pa:Bool) (k:Str):Sl.val i (.sh pa (.str k))=.ok (.cl (.str k)):=by cases pa <;> rfl
@[simp] theorem aKb (i:Nat) (pa:Bool) (k:Bool):Sl.val i (.sh pa (.bl k))=.ok (.cl (.bl k)):=by cases pa <;> rfl
@[simp] theorem aIK (i:Nat) (pa:Bool):Sl.val i (.sh pa .non)=.ok (.cl .non):=by cases pa <;> rfl
@[simp] theorem qT (i:Nat) (ds:List D):Sl.val i (.sh true (.lst ds))=.ok ⟨.lst ds,false,true,[]⟩:=id rfl
@[simp] theorem dN (i:Nat) (pa:Bool) (ds:List D):Sl.val i (.own pa ds)=.ok ⟨.lst ds,false,pa,[i]⟩:=id rfl
@[simp] theorem oP (σ:Sg) (v:Vl) (i:Nat):setT σ v (.n i)=.ok (σ.set i v.slot):=id rfl
@[simp] theorem fZ (σ:Sg):freeze σ []=σ:=id rfl
@[simp] theorem aBG (b:Bool):dQ (.cl (.bl b))=.ok b:=id rfl
@[simp] theorem qU (args:List Vl) (d:D):eW args (d,false,false)=.cl d:=id rfl
@[simp] theorem gW (args:List Vl) (d:D):eW args (d,true,false)=⟨d,true,false,[]⟩:=id rfl
@[simp] theorem aGh (a b:D):bZ .Eq a b=eqD a b:=id rfl
@[simp] theorem aKc (a b:D):bZ .NotEq a b=(eqD a b).map (!·):=id rfl
@[simp] theorem aKd (a b:Int):bZ .Lt (.int a) (.int b)=some (decide (a<b)):=id rfl
@[simp] theorem aKe (a b:Int):bZ .Gt (.int a) (.int b)=some (decide (b<a)):=id rfl
@[simp] theorem aKf (a b:Int):bZ .LtE (.int a) (.int b)=some (decide (a<=b)):=id rfl
@[simp] theorem aKg (a b:Int):bZ .GtE (.int a) (.int b)=some (decide (b<=a)):=id rfl
theorem aDo(n:Nat)(a b:Int):eqF (n+1) (.int a) (.int b)=some (a==b):=rfl
theorem xK(n:Nat)(a b:List D):eqF (n+1) (.tup a) (.tup b)=cP n a b:=pN n a b
@[simp] theorem aDp (a b:Int):eqD (.int a) (.int b)=some (a==b):=id rfl
@[simp] theorem aIL (a b:Str):eqD (.str a) (.str b)=some (a==b):=id rfl
@[simp] theorem aKh (a b:Bool):eqD (.bl a) (.bl b)=some (a==b):=id rfl
@[simp] theorem aIM (P:Pg) (k:Int):isI [.tInt] P (.int k)=some true:=id rfl
@[simp] theorem aIA (P:Pg) (k:Int):isI [.tBool] P (.int k)=some false:=id rfl
@[simp] theorem aIN (P:Pg) (k:Str):isI [.tStr] P (.str k)=some true:=id rfl
@[simp] theorem aIO (P:Pg) (k:List D):isI [.tTuple] P (.tup k)=some true:=id rfl
@[simp] theorem aIP (P:Pg) (k:List D):isI [.tList] P (.lst k)=some true:=id rfl
@[simp] theorem aKi (P:Pg) (k:Bool):isI [.tBool] P (.bl k)=some true:=id rfl
@[simp] theorem add_int (i j:Int):opD .Add (.cl (.int i)) (.cl (.int j))=.ok (.cl (.int (i+j))):=id rfl
@[simp] theorem sub_int (i j:Int):opD .Sub (.cl (.int i)) (.cl (.int j))=.ok (.cl (.int (i-j))):=id rfl
theorem mul_int{i j:Int}(h:kT i j=true):opD .Mult (.cl (.int i)) (.cl (.int j))=.ok (.cl (.int (i*j))):=by
 show R.iff (kT i j) _=_
 rw[h];rfl
theorem qV{i j:Int}(h:vK j=true):opD .FloorDiv (.cl (.int i)) (.cl (.int j))=.ok (.cl (.int (i / j))):=by
 show R.iff (vK j) _=_
 rw[h];rfl
theorem cX{i j:Int}(h:0<j):opD .Mod (.cl (.int i)) (.cl (.int j))=.ok (.cl (.int (i % j))):=by
 show R.iff (decide (0<j)) _=_
 rw[decide_eq_true h];rfl
@[simp] theorem qW (ds:List D) (fr pa:Bool) (al:List Nat):biD .len [⟨.lst ds,fr,pa,al⟩]=.ok (.cl (.int ds.length)):=id rfl
@[simp] theorem aIQ (ds:List D):biD .len [.cl (.tup ds)]=.ok (.cl (.int ds.length)):=id rfl
@[simp] theorem aIB (ds:List D):biD .len [.cl (.lst ds)]=.ok (.cl (.int ds.length)):=id rfl
theorem eB{α:Type}{g:α->D}(ng:∀t,noL (g t)=true):∀ts:List α,noLs (ts.map g)=true
 | []=>rfl
 | t::ts=>by rw[mC,noLs,ng t,eB ng ts];rfl
theorem mV{α:Type}{F:Vl->R (Option Vl)}{f:α->Vl}{g:α->D}{p:α->Bool}:∀{ts:List α},(∀t∈ts,F (f t)=.ok (if p t then some (.cl (g t)) else none))->cE F (ts.map f)=.ok ((ts.filter p).map λt=>.cl (g t))
 | [],_=>rfl
 | t::ts,h=>by
  have h1:=h t List.mem_cons_self
  have h2:=mV (F:=F) (f:=f) (g:=g) (p:=p) (ts:=ts) λy hy=>h y (List.mem_cons_of_mem _ hy)
  show(F (f t) >>= λy=>cE F (ts.map f) >>= λys=>(match y with|some y=>R.ok (y::ys)|none=>R.ok ys))=_
  rw[h1,h2]
  cases hp:p t with
  | true=>rw[List.filter_cons_of_pos hp];rfl
  | false=>rw[List.filter_cons_of_neg (by rw[hp];exact bN)];rfl
theorem xL{α:Type}{g:α->D}(ng:∀t,noL (g t)=true){k:Nat}{caps al:List Nat}(ts:List α):hU k caps al (ts.map λt=>Vl.cl (g t))=⟨.lst (ts.map g),true,false,[]⟩:=by
 have e:(ts.map λt=>Vl.cl (g t)).map (·.d)=ts.map g:=by rw[List.map_map];rfl
 rw[oN (by rw[e];exact eB ng ts),e]
theorem aGi{P:Pg}{cl:Caller}{σ:Sg}{k:Nat}{caps al:List Nat}{T:T}{it:It}{elt:E}{α:Type}{ts:List α}(f:α->Vl)(g:α->D)(ng:∀t,noL (g t)=true)(hw:walk P cl σ it=.ok (ts.map f,al))(hl:ts.length<=lim)
 (hb:∀t∈ts,∃σ1,setT (List.replicate k .dead++caps.map λi=>((freeze σ al)[i]?).getD .dead) (f t) T=.ok σ1/\ev P cl σ1 elt=.ok (.cl (g t))):ev P cl σ (.comp k caps T it .nil elt)=.ok ⟨.lst (ts.map g),true,false,[]⟩:=by
 rw[qP,hw,aC,mV (f:=f) (g:=g) (p:=λ_=>true) λt ht=>by
  obtain⟨σ1,e1,e2⟩:=hb t ht
  show(setT _ (f t) T >>= λσ1=>_)=_
  rw[e1]
  show(ev P cl σ1 elt >>= λy=>R.ok (some y))=_
  rw[e2]
  rfl]
 have hf:ts.filter (λ_=>true)=ts:=List.filter_eq_self.mpr λ_ _=>rfl
 have hl2:decide ((ts.map λt=>Vl.cl (g t)).length<=lim)=true:=decide_eq_true (by rw[lM];exact hl)
 rw[aC,hf,hl2,xG,xL ng]
theorem vA{P:Pg}{cl:Caller}{σ:Sg}{k:Nat}{caps al:List Nat}{T:T}{it:It}{c elt:E}{α:Type}{ts:List α}(f:α->Vl)(g:α->D)(p:α->Bool)(ng:∀t,noL (g t)=true)(hw:walk P cl σ it=.ok (ts.map f,al))(hl:ts.length<=lim)
 (hb:∀t∈ts,∃σ1,setT (List.replicate k .dead++caps.map λi=>((freeze σ al)[i]?).getD .dead) (f t) T=.ok σ1/\tst P cl σ1 c=.ok (p t)/\ev P cl σ1 elt=.ok (.cl (g t))):ev P cl σ (.comp k caps T it (.cons c .nil) elt)=.ok ⟨.lst ((ts.filter p).map g),true,false,[]⟩:=by
 rw[qP,hw,aC,mV (f:=f) (g:=g) (p:=p) λt ht=>by
  obtain⟨σ1,e1,e2,e3⟩:=hb t ht
  show(setT _ (f t) T >>= λσ1=>_)=_
  rw[e1]
  show(tsts P cl σ1 (.cons c .nil) >>= λk=>if k then (ev P cl σ1 elt >>= λy=>R.ok (some y)) else R.ok none)=_
  rw[yZ,e2,aC]
  cases hp:p t with
  | true=>rw[if_pos rfl,aBC,aC,if_pos rfl,e3];rfl
  | false=>rfl]
 have hl2:decide (((ts.filter p).map λt=>Vl.cl (g t)).length<=lim)=true:=decide_eq_true (by rw[lM];exact Nat.le_trans (List.length_filter_le _ _) hl)
 rw[aC,hl2,xG,xL ng]
theorem oQ{α:Type}{v:Vl}{g:α->D}(ng:∀t,noL (g t)=true)(ts:List α):items v (ts.map g)=ts.map λt=>Vl.cl (g t):=by
 unfold items
 rw[List.map_map]
 refine List.map_congr_left λt _=>?_
 show Vl.sub v (g t)=_
 unfold Vl.sub
 rw[if_pos (ng t)]
@[simp] theorem aIR {P:Pg} {cl:Caller} {σ:Sg} (a b:E):ev P cl σ (.lzip a b)=(ev P cl σ a >>= λx=>ev P cl σ b >>= λy=>match nD x.d,nD y.d with
 | some as,some bs=>.iff (decide (as.length<=lim)) (.ok (aDJ x y (aAn as bs)))
 | _,_=>.bad):=id rfl
end Hp
end
noncomputable section
namespace Hp
open PySem (Str Operator CmpOp)
section
variable {P:Pg} {cl:Caller} {σ:Sg}
@[simp] theorem aIS (a l:E):ev P cl σ (.sli a (.cons l .nil) .nil)=(ev P cl σ a >>= λx=>ev P cl σ l >>= λl=>match l.d with|.int l=>.iff (aF l) (dD x (some l) none)|_=>.bad):=by
 show(ev P cl σ a >>= λx=>evs P cl σ (.cons l .nil) >>= λl=>evs P cl σ .nil >>= λh=>_)=_
 cases ev P cl σ a with
 | ok x=>
  show((ev P cl σ l >>= λx=>evs P cl σ .nil >>= λxs=>R.ok (x::xs)) >>= λl=>_)=(ev P cl σ l >>= λl=>_)
  cases ev P cl σ l <;> rfl
 | exc e=>rfl
 | bad=>rfl
@[simp] theorem aDq (a l h:E):ev P cl σ (.sli a (.cons l .nil) (.cons h .nil))=(ev P cl σ a >>= λx=>ev P cl σ l >>= λl=>ev P cl σ h >>= λh=>match l.d,h.d with|.int l,.int h=>.iff (aF l&&aF h) (dD x (some l) (some h))|_,_=>.bad):=by
 show(ev P cl σ a >>= λx=>evs P cl σ (.cons l .nil) >>= λl=>evs P cl σ (.cons h .nil) >>= λh=>_)=_
 cases ev P cl σ a with
 | ok x=>
  show((ev P cl σ l >>= λx=>evs P cl σ .nil >>= λxs=>R.ok (x::xs)) >>= λl=>_)=(ev P cl σ l >>= λl=>_)
  cases ev P cl σ l with
  | ok l=>
   show((ev P cl σ h >>= λx=>evs P cl σ .nil >>= λxs=>R.ok (x::xs)) >>= λh=>_)=(ev P cl σ h >>= λh=>_)
   cases ev P cl σ h <;> rfl
  | exc e=>rfl
  | bad=>rfl
 | exc e=>rfl
 | bad=>rfl
end
theorem gA:∀is:List Int,noLs (is.map D.int)=true
 | []=>rfl
 | i::is=>by simp[noLs,noL,gA is]
theorem xM{n k:Nat}(h:k<n):ixN n (k:Int)=some k:=by
 unfold ixN
 rw[if_pos (Int.natCast_nonneg k),if_pos (by omega)]
 simp
theorem xN{v:Vl}{is:List Int}{k:Nat}(hv:v.d=.lst (is.map D.int))(h:k<is.length):dW v (.cl (.int (k:Int)))=.ok (.cl (.int (is.getD k 0))):=by
 unfold dW
 rw[hv]
 have hl:(is.map D.int).length=is.length:=by simp
 have e:(is.map D.int)[k]? = some (.int (is.getD k 0)):=by simp[h]
 simp only[zD,hl,xM h,e,Vl.sub,noL,if_true]
noncomputable def qX:Fn:=⟨2,5,
 (.cons (.set (.n 2) (.lst .nil))
 (.cons (.set (.n 3) (.op .Add (.op .Mod (.v 0) (.c (.int 2147483647))) (.c (.int 48271))))
 (.cons (.for (.n 4) (.rng (.c (.int 0)) (.op .Add (.v 1) (.c (.int 1))))
  (.cons (.set (.n 3) (.op .Mod (.op .Add (.op .Add (.op .Mult (.v 3) (.v 3)) (.op .Mult (.c (.int 48271)) (.v 3))) (.v 4)) (.c (.int 2147483647))))
  (.cons (.app 2 (.v 3))
  .nil)))
 (.cons (.ret (.sli (.v 2) (.cons (.c (.int 1)) .nil) .nil))
 .nil))))⟩
noncomputable def num(c:Int):Nat->Int
 | 0=>c % 2147483647+48271
 | k+1=>(num c k*num c k+48271*num c k+(k:Int)) % 2147483647
theorem aDr(c:Int):∀k,0<=num c k/\num c k<2147531918
 | 0=>by
  have h0:0<=c % 2147483647:=Int.emod_nonneg _ (by decide)
  have h1:c % 2147483647<2147483647:=Int.emod_lt_of_pos _ (by decide)
  unfold num
  omega
 | k+1=>by
  unfold num
  have h0:=Int.emod_nonneg (num c k*num c k+48271*num c k+(k:Int)) (show(2147483647:Int)≠0 by decide)
  have h1:=Int.emod_lt_of_pos (num c k*num c k+48271*num c k+(k:Int)) (show(0:Int)<2147483647 by decide)
  omega
noncomputable def aDs(c:Int)(m:Nat):List Int:=(List.range m).map λi=>num c (i+2)
theorem oR{P:Pg}{f:Nat}(hF:P.fns[f]? = some qX)(n:Nat)(c:Int){m:Nat}(hm:m<=1000):call P (n+1) f [.int c,.int m]=.ok (.lst ((aDs c m).map D.int),true,false):=by
 have mm:∀i:Int,opD .Mod (.cl (.int i)) (.cl (.int 2147483647))=.ok (.cl (.int (i % 2147483647))):=λi=>cX (by decide)
 have hw:walk P (call P n) [.sh true (.int c),.sh true (.int m),.own false [],.sh false (.int (num c 0)),.dead] (.rng (.c (.int 0)) (.op .Add (.v 1) (.c (.int 1))))=.ok ((List.range (m+1)).map λ(k:Nat)=>Vl.cl (.int (k:Int)),[]):=by
  refine gU (v:=.cl (.int ((m+1:Nat):Int))) ?_ rfl (by omega)
  simp[bX]
 obtain⟨σ',e,hI⟩:=fM (t:=.n 4) (b:=(.cons (.set (.n 3) (.op .Mod (.op .Add (.op .Add (.op .Mult (.v 3) (.v 3)) (.op .Mult (.c (.int 48271)) (.v 3))) (.v 4)) (.c (.int 2147483647))))
  (.cons (.app 2 (.v 3))
  .nil)))
   (λk σ=>∃s4,σ=[.sh true (.int c),.sh true (.int m),.own false ((List.range k).map λi=>.int (num c (i+1))),.sh false (.int (num c k)),s4]) hw ⟨_,rfl⟩ (λk hk σ hσ=>by
    obtain⟨s4,rfl⟩:=hσ
    have hk':k<m+1:=by simpa using hk
    obtain⟨r0,r1⟩:=aDr c k
    have m1:opD .Mult (.cl (.int (num c k))) (.cl (.int (num c k)))=.ok (.cl (.int (num c k*num c k))):=mul_int (by
     simp only[kT,Bool.or_eq_true,bA,decide_eq_true_eq];right;omega)
    have m2:opD .Mult (.cl (.int 48271)) (.cl (.int (num c k)))=.ok (.cl (.int (48271*num c k))):=mul_int (by
     simp only[kT,Bool.or_eq_true,bA,decide_eq_true_eq];right;omega)
    have hll:k+1<=lim:=by unfold lim;omega
    have hsn:(List.range (k+1)).map (λi=>D.int (num c (i+1)))=(List.range k).map (λi=>D.int (num c (i+1)))++[.int (num c (k+1))]:=by rw[List.range_succ];simp
    refine⟨[.sh true (.int c),.sh true (.int m),.own false ((List.range k).map λi=>.int (num c (i+1))),.sh false (.int (num c k)),.sh false (.int k)],
     [.sh true (.int c),.sh true (.int m),.own false ((List.range (k+1)).map λi=>.int (num c (i+1))),.sh false (.int (num c (k+1))),.sh false (.int k)],?_,?_,⟨_,rfl⟩⟩
    . simp
    . rw[hsn]
      simp[bX,m1,m2,mm,put,jN,hll,num])
 obtain⟨s4,rfl⟩:=hI
 have et:((List.range (m+1)).map λ(k:Nat)=>Vl.cl (.int (k:Int))).length=m+1:=by simp
 rw[et] at e
 have hno:noLs ((List.range (m+1)).map λi=>D.int (num c (i+1)))=true:=by
  have:(List.range (m+1)).map (λi=>D.int (num c (i+1)))=((List.range (m+1)).map λi=>num c (i+1)).map D.int:=by simp
  rw[this]
  exact gA _
 have hcut:cut ((List.range (m+1)).map λi=>D.int (num c (i+1))) (some 1) none=(aDs c m).map D.int:=by
  unfold cut sIx
  simp only[lM,List.length_range]
  have e1:min (1:Int).toNat (m+1)=1:=by simp
  rw[if_neg (by decide),e1,List.take_of_length_le (by simp),List.range_succ_eq_map]
  simp[aDs,Function.comp_def]
 have s1:aF 1=true:=by decide
 refine cN (F:=qX) hF rfl (v:=⟨.lst ((aDs c m).map D.int),true,false,[]⟩) ?_
 have e:ex P (call P n) [.sh true (.int c),.sh true (.int m),.own false [],.sh false (.int (c % 2147483647+48271)),.dead] _=_:=e
 simp[qX,bX,mm,cB,dH,bK,e,s1,dD,hno,hcut]
end Hp
end
noncomputable section
namespace K31
open Hp
noncomputable def f0:Hp.Fn:=⟨1,6,
 (.cons (.set (.n 1) (.lst (.cons (.tup .nil) .nil)))
 (.cons (.for (.t [2,3]) (.seq (.v 0))
  (.cons (.set (.n 4) (.lst .nil))
  (.cons (.for (.n 5) (.seq (.v 1))
   (.cons (.ext 4 (.comp 1 [5] (.n 0) (.rng (.c (.int 0)) (.op .Add (.v 3) (.c (.int 1)))) .nil (.op .Add (.v 1) (.tup (.cons (.v 0) .nil)))))
   .nil))
  (.cons (.mov 1 4)
  .nil))))
 (.cons (.retv 1)
 .nil)))⟩
noncomputable def f1:Hp.Fn:=⟨2,2,
 (.cons (.ret (.sop .BitOr (.v 0) (.v 1)))
 .nil)⟩
noncomputable def f2:Hp.Fn:=⟨2,2,
 (.cons (.ret (.sop .BitAnd (.v 0) (.v 1)))
 .nil)⟩
noncomputable def f3:Hp.Fn:=⟨2,5,
 (.cons (.set (.n 2) (.lst .nil))
 (.cons (.set (.n 3) (.op .Add (.op .Mod (.v 0) (.c (.int 2147483647))) (.c (.int 48271))))
 (.cons (.for (.n 4) (.rng (.c (.int 0)) (.op .Add (.v 1) (.c (.int 1))))
  (.cons (.set (.n 3) (.op .Mod (.op .Add (.op .Add (.op .Mult (.v 3) (.v 3)) (.op .Mult (.c (.int 48271)) (.v 3))) (.v 4)) (.c (.int 2147483647))))
  (.cons (.app 2 (.v 3))
  .nil)))
 (.cons (.ret (.sli (.v 2) (.cons (.c (.int 1)) .nil) .nil))
 .nil))))⟩
noncomputable def f4:Hp.Fn:=⟨1,2,
 (.cons (.set (.n 1) (.sli (.lst (.cons (.op .Add (.c (.int 1)) (.op .Mod (.idx (.v 0) (.c (.int 0))) (.c (.int 4)))) (.cons (.op .Add (.c (.int 1)) (.op .Mod (.idx (.v 0) (.c (.int 1))) (.c (.int 2)))) (.cons (.c (.int 1)) .nil)))) .nil (.cons (.op .Add (.c (.int 1)) (.op .Mod (.idx (.v 0) (.c (.int 2))) (.c (.int 3)))) .nil)))
 (.cons (.iff (.an (.cmp .Eq (.bi .len (.cons (.v 1) .nil)) (.c (.int 3))) (.cmp .Gt (.op .Mult (.idx (.v 1) (.c (.int 0))) (.idx (.v 1) (.c (.int 1)))) (.c (.int 6))))
  (.cons (.pop none 1 none)
  .nil)
  .nil)
 (.cons (.iff (.cmp .Eq (.op .Mod (.op .FloorDiv (.idx (.v 0) (.c (.int 0))) (.c (.int 4))) (.c (.int 5))) (.c (.int 0)))
  (.cons (.set (.n 1) (.idx (.lst (.cons (.lst (.cons (.c (.int 7)) (.cons (.c (.int 2)) .nil))) (.cons (.lst (.cons (.c (.int 2)) (.cons (.c (.int 1)) (.cons (.c (.int 1)) (.cons (.c (.int 1)) .nil))))) (.cons (.lst (.cons (.c (.int 1)) (.cons (.c (.int 1)) (.cons (.c (.int 1)) (.cons (.c (.int 2)) .nil))))) (.cons (.lst (.cons (.c (.int 5)) (.cons (.c (.int 3)) .nil))) .nil))))) (.op .Mod (.op .FloorDiv (.idx (.v 0) (.c (.int 1))) (.c (.int 2))) (.c (.int 4)))))
  .nil)
  .nil)
 (.cons (.ret (.comp 1 [1] (.n 0) (.rng (.c (.int 0)) (.bi .len (.cons (.v 1) .nil))) .nil (.tup (.cons (.idx (.c (.str "abcd")) (.v 0)) (.cons (.idx (.v 1) (.v 0)) .nil)))))
 .nil))))⟩
noncomputable def f5:Hp.Fn:=⟨1,3,
 (.cons (.set (.n 1) (.lst .nil))
 (.cons (.for (.n 2) (.seq (.v 0))
  (.cons (.ext 1 (.comp 1 [2] (.n 0) (.seq (.v 0)) (.cons (.cmp .NotEq (.v 0) (.v 1)) .nil) (.tup (.cons (.v 1) (.cons (.v 0) .nil)))))
  .nil))
 (.cons (.retv 1)
 .nil)))⟩
noncomputable def f6:Hp.Fn:=⟨3,6,
 (.cons (.dnew 3)
 (.cons (.for (.n 4) (.seq (.v 0))
  (.cons (.set (.n 5) (.call 3 (.cons (.v 4) (.cons (.c (.int 3)) .nil))))
  (.cons (.dput 3 (.idx (.v 1) (.op .Mod (.idx (.v 5) (.c (.int 0))) (.bi .len (.cons (.v 1) .nil)))))
  (.cons (.iff (.an (.cmp .Eq (.op .Mod (.idx (.v 5) (.c (.int 1))) (.c (.int 2))) (.c (.int 0))) (.cmp .Gt (.bi .len (.cons (.v 2) .nil)) (.c (.int 0))))
   (.cons (.dput 3 (.idx (.v 2) (.op .Mod (.op .FloorDiv (.idx (.v 5) (.c (.int 1))) (.c (.int 2))) (.bi .len (.cons (.v 2) .nil)))))
   .nil)
   .nil)
  (.cons (.iff (.cmp .Eq (.op .Mod (.idx (.v 5) (.c (.int 2))) (.c (.int 2))) (.c (.int 0)))
   (.cons (.dput 3 (.idx (.v 1) (.op .Mod (.op .FloorDiv (.idx (.v 5) (.c (.int 2))) (.c (.int 2))) (.bi .len (.cons (.v 1) .nil)))))
   .nil)
   .nil)
  .nil)))))
 (.cons (.ret (.srtD 3))
 .nil)))⟩
noncomputable def f7:Hp.Fn:=⟨2,3,
 (.cons (.iff (.orr (.nt (.isi (.v 0) [.tList])) (.cmp .NotEq (.v 0) (.v 1)))
  (.cons (.ret (.c (.bl false)))
  .nil)
  .nil)
 (.cons (.for (.n 2) (.seq (.v 0))
  (.cons (.iff (.orr (.nt (.isi (.v 2) [.tTuple])) (.nt (.isi (.idx (.v 2) (.c (.int 0))) [.tTuple])))
   (.cons (.ret (.c (.bl false)))
   .nil)
   .nil)
  (.cons (.iff (.nt (.isi (.idx (.v 2) (.c (.int 1))) [.tTuple]))
   (.cons (.ret (.c (.bl false)))
   .nil)
   .nil)
  .nil)))
 (.cons (.ret (.c (.bl true)))
 .nil)))⟩
noncomputable def f8:Hp.Fn:=⟨3,9,
 (.cons (.set (.n 3) (.lst (.cons (.bi .list (.cons (.v 0) .nil)) (.cons (.bi .list (.cons (.v 1) .nil)) .nil))))
 (.cons (.dnew 4)
 (.cons (.for (.n 5) (.seq (.v 0))
  (.cons (.dpv 4 (.v 5) (.c (.int 1)))
  .nil))
 (.cons (.for (.n 5) (.seq (.v 1))
  (.cons (.dpv 4 (.v 5) (.op .Add (.dgd 4 (.v 5) (.int 0)) (.c (.int 1))))
  .nil))
 (.cons (.set (.n 6) (.comp 1 [4] (.n 0) (.seq (.v 2)) (.cons (.din (.v 0) 1) .nil) (.v 0)))
 (.cons (.set (.n 7) (.comp 1 [4] (.n 0) (.seq (.v 2)) (.cons (.cmp .Eq (.dgd 1 (.v 0) (.int 0)) (.c (.int 2))) .nil) (.v 0)))
 (.cons (.set (.n 8) (.call 1 (.cons (.idx (.v 3) (.c (.int 0))) (.cons (.idx (.v 3) (.c (.int 1))) .nil))))
 (.cons (.iff (.nt (.call 7 (.cons (.v 8) (.cons (.v 6) .nil))))
  (.cons (.ret (.c (.bl false)))
  .nil)
  .nil)
 (.cons (.rev 8)
 (.cons (.app 8 (.c .non))
 (.cons (.set (.n 8) (.call 2 (.cons (.idx (.v 3) (.c (.int 0))) (.cons (.idx (.v 3) (.c (.int 1))) .nil))))
 (.cons (.iff (.nt (.call 7 (.cons (.v 8) (.cons (.v 7) .nil))))
  (.cons (.ret (.c (.bl false)))
  .nil)
  .nil)
 (.cons (.app 8 (.c .non))
 (.cons (.iff (.cmp .NotEq (.v 3) (.lst (.cons (.v 0) (.cons (.v 1) .nil))))
  (.cons (.ret (.c (.bl false)))
  .nil)
  .nil)
 (.cons (.ret (.an (.cmp .Eq (.call 1 (.cons (.idx (.v 3) (.c (.int 0))) (.cons (.idx (.v 3) (.c (.int 1))) .nil))) (.v 6)) (.cmp .Eq (.call 2 (.cons (.idx (.v 3) (.c (.int 0))) (.cons (.idx (.v 3) (.c (.int 1))) .nil))) (.v 7))))
 .nil)))))))))))))))⟩
noncomputable def f9:Hp.Fn:=⟨1,5,
 (.cons (.set (.n 1) (.call 3 (.cons (.idx (.op .Add (.v 0) (.lst (.cons (.c (.int 0)) .nil))) (.c (.int 0))) (.cons (.c (.int 4)) .nil))))
 (.cons (.set (.n 2) (.call 5 (.cons (.call 0 (.cons (.call 4 (.cons (.v 1) .nil)) .nil)) .nil)))
 (.cons (.set (.n 3) (.call 6 (.cons (.sli (.v 0) (.cons (.c (.int 1)) .nil) (.cons (.c (.int 20)) .nil)) (.cons (.v 2) (.cons (.lst .nil) .nil)))))
 (.cons (.iff (.cmp .Eq (.op .Mod (.idx (.v 1) (.c (.int 3))) (.c (.int 9))) (.c (.int 0)))
  (.cons (.set (.n 3) (.bi .list (.cons (.v 2) .nil)))
  .nil)
  .nil)
 (.cons (.set (.n 4) (.call 6 (.cons (.sli (.v 0) (.cons (.c (.int 20)) .nil) (.cons (.c (.int 40)) .nil)) (.cons (.v 2) (.cons (.v 3) .nil)))))
 (.cons (.ret (.an (.call 8 (.cons (.v 3) (.cons (.v 4) (.cons (.v 2) .nil)))) (.call 8 (.cons (.v 4) (.cons (.v 3) (.cons (.v 2) .nil))))))
 .nil))))))⟩
noncomputable def pg:Hp.Pg:=⟨[f0,f1,f2,f3,f4,f5,f6,f7,f8,f9],[],[]⟩
end K31
end
noncomputable section
namespace K31
open Hp HpS PySem L2
noncomputable def drp:Nat->Ss->Ss
 | 0,s=>s
 | n+1,.cons _ r=>drp n r
 | _+1,.nil=>.nil
noncomputable def hdS:Ss->S
 | .cons s _=>s
 | .nil=>.pass
theorem stp{P:Pg}{cl:Caller}{σ σ':Sg}{s:S}{ss:Ss}(h:ex P cl σ s=.next σ'):exs P cl σ (.cons s ss)=exs P cl σ' ss:=by rw[bS,h,aIu]
theorem mW:∀is:List Int,bB (is.map D.int)=some is
 | []=>rfl
 | i::is=>by rw[mC,bB,mW is]
theorem oT:∀k:NK,kX (k.map λt=>D.tup (t.map .int))=some k
 | []=>rfl
 | t::k=>by rw[mC,kX,mW,oT k]
theorem eC(k:NK):dE (aA k)=some k:=oT k
theorem gX:∀ks:List NK,dI (ks.map aA)=some ks
 | []=>rfl
 | k::ks=>by rw[mC,dI,eC,gX ks]
theorem cS(k:NK):noL (aA k)=true:=by
 show noLs (k.map λt=>D.tup (t.map .int))=true
 exact eB (λt=>mU t) k
theorem oW(n:Nat):∀as bs:List Int,cP (n+1) (as.map D.int) (bs.map D.int)=some (as==bs)
 | [],[]=>rfl
 | [],_::_=>rfl
 | _::_,[]=>rfl
 | a::as,b::bs=>by
  rw[mC,mC,cP,aDo,oW n as bs]
  rfl
theorem tF(n:Nat)(a b:List Int):eqF (n+2) (aS a) (aS b)=some (a==b):=by
 unfold aS
 rw[xK,oW]
theorem aBH(a b:List Int):eqD (aS a) (aS b)=some (a==b):=tF 118 a b
theorem jL{α:Type}(g:α->D)(n:Nat)(h:∀a,eqF n (g a) (g a)=some true):∀as:List α,cP n (as.map g) (as.map g)=some true
 | []=>rfl
 | a::as=>by
  rw[mC,cP,h a,jL g n h as]
  rfl
theorem aBI(n:Nat)(k:NK):eqF (n+3) (aA k) (aA k)=some true:=by
 unfold aA
 rw[xK]
 exact jL _ _ (λt=>(tF n t t).trans (by rw[beq_self_eq_true])) k
theorem mX(n:Nat)(ks:List NK):eqF (n+4) (.lst (ks.map aA)) (.lst (ks.map aA))=some true:=by
 show(if (ks.map aA).length=(ks.map aA).length then eqL (eqF (n+3)) (ks.map aA) (ks.map aA) else some false)=_
 rw[if_pos rfl,pN]
 exact jL _ _ (aBI n) ks
theorem mY(ks:List NK):eqD (.lst (ks.map aA)) (.lst (ks.map aA))=some true:=mX 116 ks
theorem aDt(ks js:List NK):eqD (.lst [.lst (ks.map aA),.lst (js.map aA)]) (.lst [.lst (ks.map aA),.lst (js.map aA)])=some true:=by
 show(if 2=2 then eqL (eqF 119) [.lst (ks.map aA),.lst (js.map aA)] [.lst (ks.map aA),.lst (js.map aA)] else some false)=_
 rw[if_pos rfl,pN,cP,mX 115,cP,mX 115]
 rfl
theorem cY(x:NK×D)(m:List (NK×D))(k:NK):bY (x::m) k=if x.1=k then some x.2 else bY m k:=by
 unfold bY
 rw[List.find?_cons]
 by_cases h:x.1=k
 . rw[decide_eq_true h,if_pos h];rfl
 . rw[decide_eq_false h,if_neg h]
theorem tG(k:NK)(v:D)(k':NK):∀m:List (NK×D),bY (m.map λx=>if x.1=k then (x.1,v) else x) k'=if k'=k/\k∈m.map (·.1) then some v else bY m k'
 | []=>by rw[if_neg (λz=>nomatch z.2)];rfl
 | x::m=>by
  rw[mC,cY,cY,tG k v k' m]
  by_cases h1:x.1=k
  . subst h1
    rw[if_pos rfl]
    by_cases h2:x.1=k'
    . rw[if_pos h2,if_pos ⟨h2.symm,List.mem_cons_self⟩]
    . rw[if_neg h2,if_neg h2,if_neg λz=>h2 z.1.symm,if_neg λz=>h2 z.1.symm]
  . rw[if_neg h1]
    by_cases h2:x.1=k'
    . rw[if_pos h2,if_pos h2,if_neg λz=>h1 (h2.trans z.1)]
    . rw[if_neg h2,if_neg h2]
      by_cases h3:k'=k
      . have:(k'=k/\k∈m.map (·.1))↔(k'=k/\k∈(x::m).map (·.1)):=by
         rw[mC,List.mem_cons]
         exact⟨λz=>⟨z.1,.inr z.2⟩,λz=>⟨z.1,z.2.resolve_left λq=>h1 q.symm⟩⟩
        by_cases h4:k'=k/\k∈m.map (·.1)
        . rw[if_pos h4,if_pos (this.mp h4)]
        . rw[if_neg h4,if_neg λz=>h4 (this.mpr z)]
      . rw[if_neg λz=>h3 z.1,if_neg λz=>h3 z.1]
theorem iQ(k:NK):∀m:List (NK×D),k∈m.map (·.1)↔bY m k≠none
 | []=>⟨(λz=>absurd z List.not_mem_nil),(λz=>absurd rfl z)⟩
 | x::m=>by
  rw[cY,mC,List.mem_cons,iQ k m]
  by_cases h:x.1=k
  . rw[if_pos h]
    exact⟨λ_=>nofun,λ_=>.inl h.symm⟩
  . rw[if_neg h]
    exact⟨λz=>z.resolve_left λq=>h q.symm,.inr⟩
theorem tH(k:NK)(v:D)(k':NK):∀m:List (NK×D),k∉m.map (·.1)->bY (m++[(k,v)]) k'=if k'=k then some v else bY m k'
 | [],_=>by
  rw[List.nil_append,cY]
  by_cases h:k=k'
  . rw[if_pos h,if_pos h.symm]
  . rw[if_neg h,if_neg λz=>h z.symm]
 | x::m,hk=>by
  rw[mC,List.mem_cons,not_or] at hk
  rw[List.cons_append,cY,cY,tH k v k' m hk.2]
  by_cases h:x.1=k'
  . rw[if_pos h,if_pos h,if_neg λz=>hk.1 (h.trans z).symm]
  . rw[if_neg h,if_neg h]
theorem tI(m:List (NK×D))(k:NK)(v:D)(k':NK):bY (putK m (k,v)) k'=if k'=k then some v else bY m k':=by
 unfold putK
 by_cases h:k∈m.map (·.1)
 . rw[if_pos h]
   refine(tG k v k' m).trans ?_
   by_cases e:k'=k
   . rw[if_pos e,if_pos ⟨e,h⟩]
   . rw[if_neg e,if_neg λz=>e z.1]
 . rw[if_neg h]
   exact tH k v k' m h
theorem kJ(m:List (NK×D))(p:NK×D):(putK m p).length<=m.length+1:=by
 unfold putK
 split
 . rw[lM];omega
 . rw[lA];exact Nat.le_refl _
theorem put_mem(m:List (NK×D))(p:NK×D){k:NK}(h:k∈(putK m p).map (·.1)):k=p.1\/k∈m.map (·.1):=by
 rw[iQ,show p=(p.1,p.2) from rfl,tI] at h
 by_cases e:k=p.1
 . exact .inl e
 . rw[if_neg e] at h
   exact .inr ((iQ k m).mpr h)
theorem tJ(k:NK):∀ks:List NK,(nE k ks).length<=ks.length+1
 | []=>Nat.le_refl _
 | y::ys=>by
  unfold nE
  split
  . exact Nat.le_refl _
  . split
    . exact Nat.le_succ _
    . exact Nat.succ_le_succ (tJ k ys)
theorem xO:∀ks:List NK,(ssN ks).length<=ks.length
 | []=>Nat.le_refl _
 | k::ks=>Nat.le_trans (tJ k (ssN ks)) (Nat.succ_le_succ (xO ks))
theorem qY{ks:List NK}(h:ks.Pairwise (lexN · ·=true)):ssN ks=ks:=(qJ h λ_=>Iff.rfl).symm
theorem aDu{ks:List NK}(h:ks.Pairwise (lexN · ·=true)):ks.Nodup:=h.imp λ{p q} c e=>by
 rw[e,eN.ir] at c;cases c
theorem tK:∀{a b:List Int} (x y:List Int),a.length=b.length->lexJ a b=true->lexJ (a++x) (b++y)=true
 | [],[],_,_,_,h=>by cases h
 | [],_::_,_,_,h,_=>by cases h
 | _::_,[],_,_,h,_=>by cases h
 | p::a,q::b,x,y,hl,h=>by
  show(if p=q then lexJ (a++x) (b++y) else ltI p q)=true
  have h:(if p=q then lexJ a b else ltI p q)=true:=h
  by_cases e:p=q
  . rw[if_pos e] at h ⊢
    exact tK x y (Nat.succ.inj hl) h
  . rw[if_neg e] at h ⊢
    exact h
theorem tL{p q:Int}(h:p<q):∀a:List Int,lexJ (a++[p]) (a++[q])=true
 | []=>by
  show(if p=q then lexJ [] [] else ltI p q)=true
  rw[if_neg (by omega)]
  exact decide_eq_true h
 | x::a=>by
  show(if x=x then lexJ (a++[p]) (a++[q]) else ltI x x)=true
  rw[if_pos rfl]
  exact tL h a
theorem tM{found:List (List Int)}{n:Nat}(top:Int)(h:found.Pairwise (lexJ · ·=true))(hl:∀s∈found,s.length=n):(extend found top).Pairwise (lexJ · ·=true)/\∀s∈extend found top,s.length=n+1:=by
 refine⟨List.pairwise_flatMap.mpr ⟨λb _=>?_,?_⟩,λs hs=>?_⟩
 . unfold bL
   exact List.pairwise_map.mpr (List.pairwise_lt_range.imp λ{p q} z=>tL (by omega) b)
 . refine(List.pairwise_iff_forall_sublist.mpr λ{a b} z=>?_)
   have r:=List.pairwise_iff_forall_sublist.mp h z
   have ha:=hl a (z.subset (by simp))
   have hb:=hl b (z.subset (by simp))
   intro x hx y hy
   unfold bL at hx hy
   obtain⟨i,_,rfl⟩:=List.mem_map.mp hx
   obtain⟨j,_,rfl⟩:=List.mem_map.mp hy
   exact tK _ _ (ha.trans hb.symm) r
 . obtain⟨b,hb,hs⟩:=List.mem_flatMap.mp hs
   unfold bL at hs
   obtain⟨i,_,rfl⟩:=List.mem_map.mp hs
   rw[lA,hl b hb];rfl
theorem oX:∀(bs:List (Str×Int)) {found:List (List Int)} {n:Nat},found.Pairwise (lexJ · ·=true)->(∀s∈found,s.length=n)->(bs.foldl (λfound b=>extend found b.2) found).Pairwise (lexJ · ·=true)
 | [],_,_,h,_=>h
 | b::bs,_,_,h,hl=>oX bs (tM b.2 h hl).1 (tM b.2 h hl).2
theorem jR(bs:List (Str×Int)):(aG bs).Pairwise (lexJ · ·=true):=oX bs (n:=0) (List.pairwise_singleton _ _) λs hs=>by rw[List.mem_singleton.mp hs];rfl
noncomputable def pairsL(ss:List (List Int)):List NK:=ss.flatMap λa=>(ss.filter λb=>!(b==a)).map λb=>[a,b]
theorem vB{ss:List (List Int)}(h:ss.Pairwise (lexJ · ·=true)):(pairsL ss).Pairwise (lexN · ·=true):=by
 refine List.pairwise_flatMap.mpr ⟨λa _=>?_,?_⟩
 . refine List.pairwise_map.mpr ((h.sublist List.filter_sublist).imp λ{p q} z=>?_)
   show(if a=a then lexN [p] [q] else lexJ a a)=true
   rw[if_pos rfl]
   show(if p=q then lexN [] [] else lexJ p q)=true
   rw[if_neg λe=>by subst e;exact bN ((qF.lex.ir _).symm.trans z)]
   exact z
 . refine h.imp λ{a b} z x hx y hy=>?_
   obtain⟨p,_,rfl⟩:=List.mem_map.mp hx
   obtain⟨q,_,rfl⟩:=List.mem_map.mp hy
   show(if a=b then lexN [p] [q] else lexJ a b)=true
   rw[if_neg λe=>by subst e;exact bN ((qF.lex.ir _).symm.trans z)]
   exact z
theorem aBJ{ss:List (List Int)}{k:NK}(h:k∈pairsL ss):∃a b,k=[a,b]:=by
 obtain⟨a,_,h⟩:=List.mem_flatMap.mp h
 obtain⟨b,_,rfl⟩:=List.mem_map.mp h
 exact⟨a,b,rfl⟩
theorem mZ{α β:Type}(f:α->List β)(c:Nat)(h:∀a,(f a).length<=c):∀l:List α,(l.flatMap f).length<=l.length*c
 | []=>Nat.zero_le _
 | a::l=>by
  rw[List.flatMap_cons,lA,lC,Nat.succ_mul]
  have:=h a
  have:=mZ f c h l
  omega
theorem zE(ss:List (List Int)):(pairsL ss).length<=ss.length*ss.length:=mZ _ _ (λa=>by rw[lM];exact List.length_filter_le _ _) ss
noncomputable def bsT(T:List Int):List (Str×Int):=(List.range T.length).map λk=>((⟨#[97+k]⟩:Str),T.getD k 0)
theorem aDv{k:Nat}(h:k<4):dW (.cl (.str "abcd")) (.cl (.int (k:Int)))=.ok (.cl (.str ⟨#[97+k]⟩)):=by
 rcases(show k=0\/k=1\/k=2\/k=3 by omega) with rfl|rfl|rfl|rfl <;> rfl
theorem aDw{T:List Int}(hT:T.length<=4)(cl:Caller)(S0 s1:Sl)(h:s1=.own false (T.map D.int)\/s1=.sh false (.lst (T.map D.int))):exs pg cl [S0,s1] (drp 3 f4.body)=.ret ⟨.lst (bT (bsT T)),true,false,[]⟩:=by
 have hv:∃v:Vl,(∀i,Sl.val i s1=.ok ⟨.lst (T.map D.int),false,false,match s1 with|.own _ _=>[i]|_=>[]⟩):=by
  rcases h with rfl|rfl <;> exact⟨.cl .non,λi=>rfl⟩
 obtain⟨_,hv⟩:=hv
 have lm:((T.map D.int).length:Int)=(T.length:Int):=by rw[lM]
 have hw:walk pg cl [S0,s1] (.rng (.c (.int 0)) (.bi .len (.cons (.v 1) .nil)))=.ok ((List.range T.length).map λ(k:Nat)=>Vl.cl (.int (k:Int)),[]):=by
  refine gU (v:=.cl (.int (T.length:Int))) ?_ rfl (by omega)
  simp only[sZ,aO,aX,iN,bX,gS,gZ,hv,aC,qW,lm]
 have hc:ev pg cl [S0,s1] (.comp 1 [1] (.n 0) (.rng (.c (.int 0)) (.bi .len (.cons (.v 1) .nil))) .nil (.tup (.cons (.idx (.c (.str "abcd")) (.v 0)) (.cons (.idx (.v 1) (.v 0)) .nil))))=.ok ⟨.lst ((List.range T.length).map λk=>box (⟨#[97+k]⟩,T.getD k 0)),true,false,[]⟩:=
  aGi (λ(k:Nat)=>Vl.cl (.int (k:Int))) (λk=>box (⟨#[97+k]⟩,T.getD k 0)) (λ_=>aDm _) hw (by rw[List.length_range];exact Nat.le_trans hT (by decide)) λk hk=>by
   have hk:=List.mem_range.mp hk
   refine⟨[.sh false (.int (k:Int)),s1],rfl,?_⟩
   have ix:∀al,dW ⟨.lst (T.map D.int),false,false,al⟩ (.cl (.int (k:Int)))=.ok (.cl (.int (T.getD k 0))):=λal=>xN rfl hk
   simp only[aGe,fK,aO,aX,iN,cV,bX,gS,gZ,hv,xJ,aC,aDv (k:=k) (by omega),ix]
   rfl
 show exs pg cl [S0,s1] (.cons (.ret _) .nil)=_
 rw[bS,mR,hc]
 show O.ret _=_
 unfold bT bsT
 rw[List.map_map]
 rfl
structure Gd (T:List Int):Prop where
 tops:zA (bsT T)
 pos:1<=(bsT T).length
 few:T.length<=4
theorem gd1{a:Int}(h0:1<=a)(h1:a<=4):Gd [a] where
 tops:=⟨show 1<=5 by decide,λb hb=>by
  rw[List.mem_singleton.mp hb]
  exact⟨h0,show a<=7 by omega⟩,show 1*(a+1)<=24 by omega⟩
 pos:=show 1<=1 by decide
 few:=show 1<=4 by decide
theorem gd2{a b:Int}(h0:1<=a)(h1:a<=7)(g0:1<=b)(g1:b<=7)(hp:(a+1)*(b+1)<=24):Gd [a,b] where
 tops:=⟨show 2<=5 by decide,λc hc=>by
  rcases List.mem_cons.mp hc with rfl|hc
  . exact⟨h0,h1⟩
  . rw[List.mem_singleton.mp hc]
    exact⟨g0,g1⟩,show 1*(a+1)*(b+1)<=24 by rw[Int.one_mul];exact hp⟩
 pos:=show 1<=2 by decide
 few:=show 2<=4 by decide
theorem gd3{a b:Int}(h0:1<=a)(h1:a<=4)(g0:1<=b)(g1:b<=2)(hp:(a+1)*(b+1)*(1+1)<=24):Gd [a,b,1] where
 tops:=⟨show 3<=5 by decide,λc hc=>by
  rcases List.mem_cons.mp hc with rfl|hc
  . exact⟨h0,show a<=7 by omega⟩
  . rcases List.mem_cons.mp hc with rfl|hc
    . exact⟨g0,show b<=7 by omega⟩
    . rw[List.mem_singleton.mp hc]
      exact⟨show(1:Int)<=1 by decide,show(1:Int)<=7 by decide⟩,show 1*(a+1)*(b+1)*(1+1)<=24 by rw[Int.one_mul];exact hp⟩
 pos:=show 1<=3 by decide
 few:=show 3<=4 by decide
theorem gd4{a b c d:Int}(hp:[a,b,c,d]=[2,1,1,1]\/[a,b,c,d]=[1,1,1,2]):Gd [a,b,c,d] where
 tops:=by rcases hp with h|h <;> (rw[h];exact⟨by decide,by decide,by decide⟩)
 pos:=show 1<=4 by decide
 few:=show 4<=4 by decide
theorem aBK(n:Nat)(x0 x1 x2 x3:Int):∃bs,zA bs/\1<=bs.length/\call pg (n+1) 4 [.lst ([x0,x1,x2,x3].map D.int)]=.ok (.lst (bT bs),true,false):=by
 have a0:0<=x0 % 4:=Int.emod_nonneg _ (by decide)
 have a1:x0 % 4<4:=Int.emod_lt_of_pos _ (by decide)
 have b0:0<=x1 % 2:=Int.emod_nonneg _ (by decide)
 have b1:x1 % 2<2:=Int.emod_lt_of_pos _ (by decide)
 have c0:0<=x2 % 3:=Int.emod_nonneg _ (by decide)
 have c1:x2 % 3<3:=Int.emod_lt_of_pos _ (by decide)
 have r0:0<=x1 / 2 % 4:=Int.emod_nonneg _ (by decide)
 have r1:x1 / 2 % 4<4:=Int.emod_lt_of_pos _ (by decide)
 let S0:Sl:=.sh true (.lst [.int x0,.int x1,.int x2,.int x3])
 have m4:∀i:Int,opD .Mod (.cl (.int i)) (.cl (.int 4))=.ok (.cl (.int (i % 4))):=λi=>cX (by decide)
 have m2:∀i:Int,opD .Mod (.cl (.int i)) (.cl (.int 2))=.ok (.cl (.int (i % 2))):=λi=>cX (by decide)
 have m3:∀i:Int,opD .Mod (.cl (.int i)) (.cl (.int 3))=.ok (.cl (.int (i % 3))):=λi=>cX (by decide)
 have m5:∀i:Int,opD .Mod (.cl (.int i)) (.cl (.int 5))=.ok (.cl (.int (i % 5))):=λi=>cX (by decide)
 have d4:∀i:Int,opD .FloorDiv (.cl (.int i)) (.cl (.int 4))=.ok (.cl (.int (i / 4))):=λi=>qV (by decide)
 have d2:∀i:Int,opD .FloorDiv (.cl (.int i)) (.cl (.int 2))=.ok (.cl (.int (i / 2))):=λi=>qV (by decide)
 have i0:∀s1,ev pg (call pg n) [S0,s1] (.idx (.v 0) (.c (.int 0)))=.ok (.cl (.int x0)):=λ_=>rfl
 have i1:∀s1,ev pg (call pg n) [S0,s1] (.idx (.v 0) (.c (.int 1)))=.ok (.cl (.int x1)):=λ_=>rfl
 have i2:∀s1,ev pg (call pg n) [S0,s1] (.idx (.v 0) (.c (.int 2)))=.ok (.cl (.int x2)):=λ_=>rfl
 have sk:aF (1+x2 % 3)=true:=aDl (by omega) (by omega)
 have hm:cB [.cl (.int (1+x0 % 4)),.cl (.int (1+x1 % 2)),.cl (.int 1)]=⟨.lst [.int (1+x0 % 4),.int (1+x1 % 2),.int 1],true,false,[]⟩:=rfl
 have e1:ex pg (call pg n) [S0,.dead] (hdS f4.body)=.next [S0,.own false (cut [.int (1+x0 % 4),.int (1+x1 % 2),.int 1] none (some (1+x2 % 3)))]:=by
  simp only[f4,hdS,cH,aDi,fL,aO,aX,eA,cV,i0,i1,i2,aC,m4,m2,m3,add_int,hm,zD,sk,xG]
  rfl
 generalize ha:1+x0 % 4=a at e1
 generalize hb:1+x1 % 2=b at e1
 have e2:∃T,Gd T/\ex pg (call pg n) [S0,.own false (cut [.int a,.int b,.int 1] none (some (1+x2 % 3)))] (hdS (drp 1 f4.body))=.next [S0,.own false (T.map D.int)]:=by
  have p2:(a+1)*(b+1)<=24:=by
   rcases(show b=1\/b=2 by omega) with rfl|rfl <;> omega
  rcases(show x2 % 3=0\/x2 % 3=1\/x2 % 3=2 by omega) with h|h|h
  . rw[h]
    exact⟨[a],gd1 (by omega) (by omega),rfl⟩
  . rw[h]
    exact⟨[a,b],gd2 (by omega) (by omega) (by omega) (by omega) p2,rfl⟩
  . rw[h]
    have mu:opD .Mult (.cl (.int a)) (.cl (.int b))=.ok (.cl (.int (a*b))):=mul_int (by
     simp only[kT,Bool.or_eq_true,bA,decide_eq_true_eq];right;omega)
    have t2:tst pg (call pg n) [S0,.own false [.int a,.int b,.int 1]] (.an (.cmp .Eq (.bi .len (.cons (.v 1) .nil)) (.c (.int 3))) (.cmp .Gt (.op .Mult (.idx (.v 1) (.c (.int 0))) (.idx (.v 1) (.c (.int 1)))) (.c (.int 6))))=.ok (decide (6<a*b)):=by
     have j0:ev pg (call pg n) [S0,.own false [.int a,.int b,.int 1]] (.idx (.v 1) (.c (.int 0)))=.ok (.cl (.int a)):=rfl
     have j1:ev pg (call pg n) [S0,.own false [.int a,.int b,.int 1]] (.idx (.v 1) (.c (.int 1)))=.ok (.cl (.int b)):=rfl
     have k1:tst pg (call pg n) [S0,.own false [.int a,.int b,.int 1]] (.cmp .Eq (.bi .len (.cons (.v 1) .nil)) (.c (.int 3)))=.ok true:=rfl
     rw[aBB,k1,aC,if_pos rfl,cM,eA,j0,j1,aC,aC,mu,aC,cV,aC]
     rfl
    by_cases hq:6<a*b
    . rw[decide_eq_true hq] at t2
      refine⟨[a,b],gd2 (by omega) (by omega) (by omega) (by omega) p2,?_⟩
      show O.from _ (tst pg (call pg n) [S0,.own false [.int a,.int b,.int 1]] _) _=_
      rw[t2]
      rfl
    . rw[decide_eq_false hq] at t2
      refine⟨[a,b,1],gd3 (by omega) (by omega) (by omega) (by omega) ?_,?_⟩
      . rcases(show b=1\/b=2 by omega) with rfl|rfl <;> omega
      . show O.from _ (tst pg (call pg n) [S0,.own false [.int a,.int b,.int 1]] _) _=_
        rw[t2]
        rfl
 obtain⟨T,gT,e2⟩:=e2
 have t3:∀s1,tst pg (call pg n) [S0,s1] (.cmp .Eq (.op .Mod (.op .FloorDiv (.idx (.v 0) (.c (.int 0))) (.c (.int 4))) (.c (.int 5))) (.c (.int 0)))=.ok (x0 / 4 % 5==0):=λs1=>by
  simp only[cM,eA,i0,cV,aC,d4,m5,zD,aGh,aDp]
 have e3:∃T' s1,Gd T'/\(s1=.own false (T'.map D.int)\/s1=.sh false (.lst (T'.map D.int)))/\ex pg (call pg n) [S0,.own false (T.map D.int)] (hdS (drp 2 f4.body))=.next [S0,s1]:=by
  cases hq:(x0 / 4 % 5==0) with
  | false=>
   refine⟨T,_,gT,.inl rfl,?_⟩
   refine(cL (P:=pg) _ _ _).trans ?_
   rw[t3,hq]
   rfl
  | true=>
   have ix:∀s1,ev pg (call pg n) [S0,s1] (.op .Mod (.op .FloorDiv (.idx (.v 0) (.c (.int 1))) (.c (.int 2))) (.c (.int 4)))=.ok (.cl (.int (x1 / 2 % 4))):=λs1=>by
    simp only[eA,i1,cV,aC,d2,m4]
   have go:∀(T':List Int) (s1:Sl),dW (cB [cB [.cl (.int 7),.cl (.int 2)],cB [.cl (.int 2),.cl (.int 1),.cl (.int 1),.cl (.int 1)],cB [.cl (.int 1),.cl (.int 1),.cl (.int 1),.cl (.int 2)],cB [.cl (.int 5),.cl (.int 3)]]) (.cl (.int (x1 / 2 % 4)))=.ok ⟨.lst (T'.map D.int),false,false,[]⟩\/dW (cB [cB [.cl (.int 7),.cl (.int 2)],cB [.cl (.int 2),.cl (.int 1),.cl (.int 1),.cl (.int 1)],cB [.cl (.int 1),.cl (.int 1),.cl (.int 1),.cl (.int 2)],cB [.cl (.int 5),.cl (.int 3)]]) (.cl (.int (x1 / 2 % 4)))=.ok ⟨.lst (T'.map D.int),true,false,[]⟩ ->
    ∃s1,(s1=.own false (T'.map D.int)\/s1=.sh false (.lst (T'.map D.int)))/\ex pg (call pg n) [S0,.own false (T.map D.int)] (hdS (drp 2 f4.body))=.next [S0,s1]:=by
    intro T' s1 hx
    rcases hx with hx|hx
    . refine⟨_,.inr rfl,?_⟩
      refine(cL (P:=pg) _ _ _).trans ?_
      rw[t3,hq,bG,if_pos rfl]
      simp only[bS,eQ,cH,fK,fL,aO,aX,cV,ix,aC,hx,bG]
      rfl
    . refine⟨_,.inl rfl,?_⟩
      refine(cL (P:=pg) _ _ _).trans ?_
      rw[t3,hq,bG,if_pos rfl]
      simp only[bS,eQ,cH,fK,fL,aO,aX,cV,ix,aC,hx,bG]
      rfl
   rcases(show x1 / 2 % 4=0\/x1 / 2 % 4=1\/x1 / 2 % 4=2\/x1 / 2 % 4=3 by omega) with h|h|h|h
   . obtain⟨s1,g1,g2⟩:=go [7,2] .dead (by rw[h];first|exact .inl rfl|exact .inr rfl)
     exact⟨_,s1,gd2 (by decide) (by decide) (by decide) (by decide) (by decide),g1,g2⟩
   . obtain⟨s1,g1,g2⟩:=go [2,1,1,1] .dead (by rw[h];first|exact .inl rfl|exact .inr rfl)
     exact⟨_,s1,gd4 (.inl rfl),g1,g2⟩
   . obtain⟨s1,g1,g2⟩:=go [1,1,1,2] .dead (by rw[h];first|exact .inl rfl|exact .inr rfl)
     exact⟨_,s1,gd4 (.inr rfl),g1,g2⟩
   . obtain⟨s1,g1,g2⟩:=go [5,3] .dead (by rw[h];first|exact .inl rfl|exact .inr rfl)
     exact⟨_,s1,gd2 (by decide) (by decide) (by decide) (by decide) (by decide),g1,g2⟩
 obtain⟨T',s1,gT',h1,e3⟩:=e3
 refine⟨bsT T',gT'.tops,gT'.pos,cN (F:=f4) rfl rfl (v:=⟨.lst (bT (bsT T')),true,false,[]⟩) ?_⟩
 exact(stp e1).trans ((stp e2).trans ((stp e3).trans (aDw gT'.few _ _ _ h1)))
theorem aBL(n:Nat){ss:List (List Int)}(hl:ss.length<=24):call pg (n+1) 5 [.lst (ss.map aS)]=.ok (.lst ((pairsL ss).map aA),true,false):=by
 let S0:Sl:=.sh true (.lst (ss.map aS))
 have hw:∀s1 s2,walk pg (call pg n) [S0,s1,s2] (.seq (.v 0))=.ok (ss.map (λs=>Vl.cl (aS s)),[]):=λs1 s2=>by
  show R.ok (items _ (ss.map aS),[])=_
  rw[iP]
 have pl:∀l:List (List Int),l.length<=24->(l.flatMap λa=>(ss.filter λb=>!(b==a)).map λb=>[a,b]).length<=576:=λl h=>by
  have:=mZ (λa=>(ss.filter λb=>!(b==a)).map λb=>[a,b]) 24 (λa=>by rw[lM];exact Nat.le_trans (List.length_filter_le _ _) hl) l
  omega
 obtain⟨σ',e,hI⟩:=fM (t:=.n 2) (b:=match hdS (drp 1 f5.body) with|.for _ _ b=>b|_=>.nil) (λi σ=>∃s2,σ=[S0,.own false (((ss.take i).flatMap λa=>(ss.filter λb=>!(b==a)).map λb=>[a,b]).map aA),s2]) (hw (.own false []) .dead) ⟨_,rfl⟩ (λi hi σ hσ=>by
  obtain⟨s2,rfl⟩:=hσ
  have hi':i<ss.length:=by simpa using hi
  generalize hac:((ss.take i).flatMap λa=>(ss.filter λb=>!(b==a)).map λb=>[a,b])=acc
  have hc:ev pg (call pg n) [S0,.own false (acc.map aA),.sh false (aS ss[i])] (.comp 1 [2] (.n 0) (.seq (.v 0)) (.cons (.cmp .NotEq (.v 0) (.v 1)) .nil) (.tup (.cons (.v 1) (.cons (.v 0) .nil))))=.ok ⟨.lst ((ss.filter λb=>!(b==ss[i])).map λb=>aA [ss[i],b]),true,false,[]⟩:=
   vA (λs=>Vl.cl (aS s)) (λb=>aA [ss[i],b]) (λb=>!(b==ss[i])) (λb=>cS _) (hw _ _) (Nat.le_trans hl (by decide)) λb _=>⟨[.sh false (aS b),.sh false (aS ss[i])],rfl,by
    rw[cM]
    show(match (eqD (aS b) (aS ss[i])).map (!·) with|some k=>R.ok k|none=>.bad)=_
    rw[aBH]
    rfl,by
    show R.ok (kW [.cl (aS ss[i]),.cl (aS b)])=_
    have:noLs [aS ss[i],aS b]=true:=by simp[noLs]
    show R.ok (⟨.tup [aS ss[i],aS b],false,_,_⟩:Vl)=_
    rfl⟩
  have hln:(acc.map aA++(ss.filter λb=>!(b==ss[i])).map λb=>aA [ss[i],b]).length<=lim:=by
   have q1:=pl (ss.take i) (by rw[List.length_take];omega)
   rw[hac] at q1
   have q2:(ss.filter λb=>!(b==ss[i])).length<=ss.length:=List.length_filter_le _ _
   rw[lA,lM,lM]
   unfold lim
   omega
  have hnx:((ss.take (i+1)).flatMap λa=>(ss.filter λb=>!(b==a)).map λb=>[a,b]).map aA=acc.map aA++(ss.filter λb=>!(b==ss[i])).map λb=>aA [ss[i],b]:=by
   rw[List.take_succ_eq_append_getElem hi',List.flatMap_append,List.map_append,hac,List.flatMap_cons,List.flatMap_nil,List.append_nil,List.map_map]
   rfl
  refine⟨[S0,.own false (acc.map aA),.sh false (aS ss[i])],[S0,.own false (acc.map aA++(ss.filter λb=>!(b==ss[i])).map λb=>aA [ss[i],b]),.sh false (aS ss[i])],by simp,?_,⟨_,by rw[hnx]⟩⟩
  show exs pg (call pg n) _ (.cons (.ext 1 _) .nil)=_
  rw[bS,aBE,hc,bG]
  have nl:noLs ((ss.filter λb=>!(b==ss[i])).map λb=>aA [ss[i],b])=true:=eB (λb=>cS _) _
  simp only[kY,nl,if_true]
  unfold put
  simp only[freeze,jN,gS,gZ]
  rw[if_pos hln]
  simp)
 obtain⟨s2,rfl⟩:=hI
 refine cN (F:=f5) rfl rfl (v:=⟨.lst ((pairsL ss).map aA),true,false,[]⟩) ?_
 refine(stp (σ':=[S0,.own false [],.dead]) rfl).trans ((stp e).trans ?_)
 rw[lM,List.take_length]
 rfl
theorem aBM{v:Vl}{d:D}(h:Hp.noL d=true):Vl.sub v d=.cl d:=by unfold Vl.sub;rw[if_pos h]
theorem aEc{ls:List NK}{z:Int}(h0:0<=z)(h1:z<ls.length):∃k∈ls,dW ⟨.lst (ls.map aA),false,true,[]⟩ (.cl (.int z))=.ok (.cl (aA k)):=by
 obtain⟨k,rfl⟩:=Int.eq_ofNat_of_zero_le h0
 have hk:k<ls.length:=by omega
 have hk':k<(ls.map aA).length:=by rw[lM];exact hk
 refine⟨ls[k],List.getElem_mem hk,?_⟩
 unfold dW
 simp only[zD,xM hk',List.getElem?_eq_getElem hk',List.getElem_map,aBM (cS _)]
theorem eS{v:Vl}(ks:List NK):items v (ks.map aA)=ks.map λk=>Vl.cl (aA k):=oQ cS ks
section
variable {cl:Caller} {S0 S1 S2 s4 s5:Sl} {m:List (NK×D)} {ps:List NK}
theorem tN{e:E}{k:NK}(he:ev pg cl [S0,S1,S2,.dct m,s4,s5] e=.ok (.cl (aA k)))(hm:m.length<lim):ex pg cl [S0,S1,S2,.dct m,s4,s5] (.dput 3 e)=.next [S0,S1,S2,.dct (putK m (k,.bl true)),s4,s5]:=by
 show O.from _ (ev pg cl [S0,S1,S2,.dct m,s4,s5] e) _=_
 rw[he,bG]
 show(match some (Sl.dct m),dE (aA k) with|some (.dct ks),some k=>(if ks.length<lim then O.next ([S0,S1,S2,.dct m,s4,s5].set 3 (.dct (putK ks (k,.bl true)))) else .bad)|_,_=>.bad)=_
 rw[eC]
 show(if m.length<lim then _ else _)=_
 rw[if_pos hm]
 rfl
theorem aBN{k:NK}(hk:k∈ps)(hin:∀k∈m.map (·.1),k∈ps):∀k'∈(putK m (k,.bl true)).map (·.1),k'∈ps:=λk' h=>by
 rcases put_mem m (k,.bl true) h with rfl|h
 . exact hk
 . exact hin k' h
theorem tO{c e:E}{b:Bool}(ht:tst pg cl [S0,S1,S2,.dct m,s4,s5] c=.ok b)(he:b=true->∃k∈ps,ev pg cl [S0,S1,S2,.dct m,s4,s5] e=.ok (.cl (aA k)))(hm:m.length<lim)(hin:∀k∈m.map (·.1),k∈ps) :
 ∃m',m'.length<=m.length+1/\(∀k∈m'.map (·.1),k∈ps)/\ex pg cl [S0,S1,S2,.dct m,s4,s5] (.iff c (.cons (.dput 3 e) .nil) .nil)=.next [S0,S1,S2,.dct m',s4,s5]:=by
 cases b with
 | true=>
  obtain⟨k,hk,he⟩:=he rfl
  refine⟨putK m (k,.bl true),kJ m _,aBN hk hin,?_⟩
  rw[cL,ht,bG,if_pos rfl,stp (tN he hm),eQ]
 | false=>exact⟨m,Nat.le_succ _,hin,by rw[cL,ht,bG,if_neg bN,eQ]⟩
end
theorem oY(n:Nat){cells:List Int}{ps more:List NK}(hc:cells.length<=20)(hp:1<=ps.length)(hp2:∀k∈ps,∃a b,k=[a,b])(hm:∀k∈more,k∈ps) :
 ∃ks:List NK,ks.Pairwise (lexN · ·=true)/\(∀k∈ks,k∈ps)/\ks.length<=60/\call pg (n+2) 6 [.lst (cells.map D.int),.lst (ps.map aA),.lst (more.map aA)]=.ok (.lst (ks.map aA),true,false):=by
 let S0:Sl:=.sh true (.lst (cells.map D.int))
 let S1:Sl:=.sh true (.lst (ps.map aA))
 let S2:Sl:=.sh true (.lst (more.map aA))
 have hw:walk pg (call pg (n+1)) [S0,S1,S2,.dct [],.dead,.dead] (.seq (.v 0))=.ok (cells.map (λc=>Vl.cl (.int c)),[]):=by
  show R.ok (items _ (cells.map D.int),[])=_
  rw[oQ (g:=D.int) (λ_=>rfl)]
 have l1:((ps.map aA).length:Int)=ps.length:=by rw[lM]
 have l2:((more.map aA).length:Int)=more.length:=by rw[lM]
 have m2:∀i:Int,opD .Mod (.cl (.int i)) (.cl (.int 2))=.ok (.cl (.int (i % 2))):=λi=>cX (by decide)
 have d2:∀i:Int,opD .FloorDiv (.cl (.int i)) (.cl (.int 2))=.ok (.cl (.int (i / 2))):=λi=>qV (by decide)
 obtain⟨σ',e,hI⟩:=fM (t:=.n 4) (b:=match hdS (drp 1 f6.body) with|.for _ _ b=>b|_=>.nil) (λi σ=>∃m s4 s5,σ=[S0,S1,S2,.dct m,s4,s5]/\m.length<=3*i/\∀k∈m.map (·.1),k∈ps) hw ⟨[],_,_,rfl,Nat.le_refl _,λk h=>absurd h List.not_mem_nil⟩ (λi hi σ hσ=>by
  obtain⟨m,s4,s5,rfl,hl,hin⟩:=hσ
  have hi':i<cells.length:=by simpa using hi
  have hml:m.length<lim:=by unfold lim;omega
  have cs:=oR (P:=pg) (f:=3) rfl n cells[i] (m:=3) (by decide)
  have cs:call pg (n+1) 3 [.int cells[i],.int 3]=.ok (.lst [.int (num cells[i] 2),.int (num cells[i] 3),.int (num cells[i] 4)],true,false):=cs
  generalize num cells[i] 2=x,num cells[i] 3=y,num cells[i] 4=z at cs
  let S4:Sl:=.sh false (.int cells[i])
  let S5:Sl:=.own false [.int x,.int y,.int z]
  have e1:ex pg (call pg (n+1)) [S0,S1,S2,.dct m,S4,s5] (.set (.n 5) (.call 3 (.cons (.v 4) (.cons (.c (.int 3)) .nil))))=.next [S0,S1,S2,.dct m,S4,S5]:=by
   simp only[S4,cH,cW,aO,aX,iN,cV,bX,gS,gZ,xJ,aC,mC,mN,zD,cs,gW,bG,fZ,oP,fY,lS,lZ]
   rfl
  have ix:∀m,ev pg (call pg (n+1)) [S0,S1,S2,.dct m,S4,S5] (.idx (.v 5) (.c (.int 0)))=.ok (.cl (.int x)):=λ_=>rfl
  have iy:∀m,ev pg (call pg (n+1)) [S0,S1,S2,.dct m,S4,S5] (.idx (.v 5) (.c (.int 1)))=.ok (.cl (.int y)):=λ_=>rfl
  have iz:∀m,ev pg (call pg (n+1)) [S0,S1,S2,.dct m,S4,S5] (.idx (.v 5) (.c (.int 2)))=.ok (.cl (.int z)):=λ_=>rfl
  have ln1:∀m,ev pg (call pg (n+1)) [S0,S1,S2,.dct m,S4,S5] (.bi .len (.cons (.v 1) .nil))=.ok (.cl (.int ps.length)):=λm=>by
   simp only[S1,sZ,aO,aX,iN,bX,gS,gZ,qT,aC,qW,l1]
  have ln2:∀m,ev pg (call pg (n+1)) [S0,S1,S2,.dct m,S4,S5] (.bi .len (.cons (.v 2) .nil))=.ok (.cl (.int more.length)):=λm=>by
   simp only[S2,sZ,aO,aX,iN,bX,gS,gZ,qT,aC,qW,l2]
  have v1:∀m,ev pg (call pg (n+1)) [S0,S1,S2,.dct m,S4,S5] (.v 1)=.ok ⟨.lst (ps.map aA),false,true,[]⟩:=λ_=>rfl
  have v2:∀m,ev pg (call pg (n+1)) [S0,S1,S2,.dct m,S4,S5] (.v 2)=.ok ⟨.lst (more.map aA),false,true,[]⟩:=λ_=>rfl
  have at1:∀(m:List (NK×D)) (a:Int) (E:E),ev pg (call pg (n+1)) [S0,S1,S2,.dct m,S4,S5] E=.ok (.cl (.int a))->∃k∈ps,ev pg (call pg (n+1)) [S0,S1,S2,.dct m,S4,S5] (.idx (.v 1) (.op .Mod E (.bi .len (.cons (.v 1) .nil))))=.ok (.cl (aA k)):=λm a E hE=>by
   have hpos:(0:Int)<ps.length:=by omega
   obtain⟨k,hk,q⟩:=aEc (ls:=ps) (z:=a % (ps.length:Int)) (Int.emod_nonneg _ (by omega)) (Int.emod_lt_of_pos _ hpos)
   refine⟨k,hk,?_⟩
   rw[fK,v1,aC,eA,hE,aC,ln1,aC,cX hpos,aC,q]
  obtain⟨k1,hk1,q1⟩:=at1 m x _ (ix m)
  have e2:=tN q1 hml
  have hin1:=aBN hk1 hin
  have hl1:=kJ m (k1,.bl true)
  generalize putK m (k1,.bl true)=ma at e2 hin1 hl1
  have t3:tst pg (call pg (n+1)) [S0,S1,S2,.dct ma,S4,S5] (.an (.cmp .Eq (.op .Mod (.idx (.v 5) (.c (.int 1))) (.c (.int 2))) (.c (.int 0))) (.cmp .Gt (.bi .len (.cons (.v 2) .nil)) (.c (.int 0))))=.ok (if (y % 2==0)=true then decide ((0:Int)<more.length) else false):=by
   rw[aBB,cM,eA,iy,aC,cV,aC,m2,aC,cV,aC]
   show(R.ok (y % 2==0) >>= λx=>_)=_
   rw[aC]
   cases(y % 2==0) with
   | true=>
    rw[if_pos rfl,if_pos rfl,cM,ln2,aC,cV,aC]
    rfl
   | false=>rfl
  obtain⟨mb,hlb,hinb,e3⟩:=tO (ps:=ps) (e:=.idx (.v 2) (.op .Mod (.op .FloorDiv (.idx (.v 5) (.c (.int 1))) (.c (.int 2))) (.bi .len (.cons (.v 2) .nil)))) t3 (λhb=>by
   have hpos:(0:Int)<more.length:=by
    revert hb
    cases(y % 2==0) with
    | true=>rw[if_pos rfl];exact of_decide_eq_true
    | false=>intro z;cases z
   obtain⟨k,hk,q⟩:=aEc (ls:=more) (z:=y / 2 % (more.length:Int)) (Int.emod_nonneg _ (by omega)) (Int.emod_lt_of_pos _ hpos)
   refine⟨k,hm k hk,?_⟩
   rw[fK,v2,aC,eA,eA,iy,aC,cV,aC,d2,aC,ln2,aC,cX hpos,aC,q]) (by unfold lim at*;omega) hin1
  have t4:tst pg (call pg (n+1)) [S0,S1,S2,.dct mb,S4,S5] (.cmp .Eq (.op .Mod (.idx (.v 5) (.c (.int 2))) (.c (.int 2))) (.c (.int 0)))=.ok (z % 2==0):=by
   rw[cM,eA,iz,aC,cV,aC,m2,aC,cV,aC]
   rfl
  obtain⟨mc,hlc,hinc,e4⟩:=tO (ps:=ps) (e:=.idx (.v 1) (.op .Mod (.op .FloorDiv (.idx (.v 5) (.c (.int 2))) (.c (.int 2))) (.bi .len (.cons (.v 1) .nil)))) t4 (λ_=>at1 mb (z / 2) _ (by rw[eA,iz,aC,cV,aC,d2])) (by unfold lim at*;omega) hinb
  refine⟨[S0,S1,S2,.dct m,S4,s5],[S0,S1,S2,.dct mc,S4,S5],by simp[S4],(stp e1).trans ((stp e2).trans ((stp e3).trans ((stp e4).trans rfl))),mc,_,_,rfl,by omega,hinc⟩)
 obtain⟨m,s4,s5,rfl,hl,hin⟩:=hI
 rw[lM] at hl
 have hne:neN (m.map (·.1))=true:=List.all_eq_true.mpr λk hk=>by
  obtain⟨a,b,rfl⟩:=hp2 k (hin k hk)
  rfl
 have hln:m.length<=700:=by omega
 refine⟨ssN (m.map (·.1)),fI _,λk hk=>hin k (dM.mp hk),Nat.le_trans (xO (m.map (·.1))) (by rw[lM];omega),?_⟩
 refine cN (P:=pg) (cl:=call pg (n+1)) (f:=6) (ds:=[.lst (cells.map D.int),.lst (ps.map aA),.lst (more.map aA)]) (F:=f6) rfl rfl (v:=⟨.lst ((ssN (m.map (·.1))).map aA),true,false,[]⟩) ?_
 refine(stp (σ':=[S0,S1,S2,.dct [],.dead,.dead]) rfl).trans ((stp e).trans ?_)
 show(O.from _ (R.iff (neN (m.map (·.1))&&decide (m.length<=700)) _) O.ret).on _=_
 rw[hne,decide_eq_true hln]
 rfl
theorem aGj(a b:List Int):dW (.cl (aA [a,b])) (.cl (.int 0))=.ok (.cl (aS a)):=by
 show R.ok (Vl.sub _ (aS a))=_
 rw[aBM (mU a)]
theorem aGk(a b:List Int):dW (.cl (aA [a,b])) (.cl (.int 1))=.ok (.cl (aS b)):=by
 show R.ok (Vl.sub _ (aS b))=_
 rw[aBM (mU b)]
theorem xP(n:Nat){ks:List NK}(h2:∀k∈ks,∃a b,k=[a,b]):call pg (n+1) 7 [.lst (ks.map aA),.lst (ks.map aA)]=.ok (.bl true,false,false):=by
 let S0:Sl:=.sh true (.lst (ks.map aA))
 have hw:walk pg (call pg n) [S0,S0,.dead] (.seq (.v 0))=.ok (ks.map (λk=>Vl.cl (aA k)),[]):=by
  show R.ok (items _ (ks.map aA),[])=_
  rw[eS]
 have e1:ex pg (call pg n) [S0,S0,.dead] (hdS f7.body)=.next [S0,S0,.dead]:=by
  refine(cL (P:=pg) _ _ _).trans ?_
  rw[xH,jK,kH]
  show O.from _ (tst pg (call pg n) [S0,S0,.dead] (.cmp .NotEq (.v 0) (.v 1))) _=_
  rw[cM]
  show O.from _ (match (eqD (.lst (ks.map aA)) (.lst (ks.map aA))).map (!·) with|some k=>R.ok k|none=>.bad) _=_
  rw[mY]
  rfl
 obtain⟨σ',e,hI⟩:=fM (t:=.n 2) (b:=match hdS (drp 1 f7.body) with|.for _ _ b=>b|_=>.nil) (λi σ=>∃s2,σ=[S0,S0,s2]) hw ⟨_,rfl⟩ (λi hi σ hσ=>by
  obtain⟨s2,rfl⟩:=hσ
  have hi':i<ks.length:=by simpa using hi
  obtain⟨a,b,hk⟩:=h2 ks[i] (List.getElem_mem hi')
  have v2:ev pg (call pg n) [S0,S0,.sh false (aA [a,b])] (.v 2)=.ok (.cl (aA [a,b])):=rfl
  refine⟨[S0,S0,.sh false (aA [a,b])],[S0,S0,.sh false (aA [a,b])],by simp[hk],?_,_,rfl⟩
  refine(stp (σ':=[S0,S0,.sh false (aA [a,b])]) ?_).trans ((stp (σ':=[S0,S0,.sh false (aA [a,b])]) ?_).trans rfl)
  . rw[cL,xH,jK,kH,v2,aC,jK,kH,fK,v2,aC,cV,aC,aGj]
    rfl
  . rw[cL,jK,kH,fK,v2,aC,cV,aC,aGk]
    rfl)
 obtain⟨s2,rfl⟩:=hI
 refine cN (F:=f7) rfl rfl (v:=.cl (.bl true)) ?_
 exact(stp e1).trans ((stp e).trans rfl)
theorem aBO{cl:Caller}{σ:Sg}(o:Operator)(a b:E){x y:Vl}{ks js r:List NK}(ha:ev pg cl σ a=.ok x)(hb:ev pg cl σ b=.ok y)(hx:x.d=.lst (ks.map aA))(hy:y.d=.lst (js.map aA))(h1:neN ks=true)(h2:neN js=true)(hr:opN o ks js=some r):ev pg cl σ (.sop o a b)=.ok ⟨.lst (r.map aA),true,false,[]⟩:=by
 show(ev pg cl σ a >>= λx=>ev pg cl σ b >>= λy=>(match x.d,y.d with
  | .lst as,.lst bs=>(match dI as,dI bs with
   | some ks,some js=>R.iff (neN ks&&neN js) (match opN o ks js with|some r=>R.ok (⟨.lst (r.map aA),true,false,[]⟩:Vl)|none=>.bad)
   | _,_=>.bad)
  | _,_=>.bad))=_
 rw[ha,aC,hb,aC,hx,hy]
 show(match dI (ks.map aA),dI (js.map aA) with
  | some ks,some js=>R.iff (neN ks&&neN js) (match opN o ks js with|some r=>R.ok (⟨.lst (r.map aA),true,false,[]⟩:Vl)|none=>.bad)
  | _,_=>.bad)=_
 rw[gX,gX]
 show R.iff (neN ks&&neN js) _=_
 rw[h1,h2,hr]
 rfl
theorem zF(n:Nat){ks js:List NK}(h1:neN ks=true)(h2:neN js=true)(r1:ks.Pairwise (lexN · ·=true))(r2:js.Pairwise (lexN · ·=true))(hl:ks.length+js.length<=700):call pg (n+1) 1 [.lst (ks.map aA),.lst (js.map aA)]=.ok (.lst ((ssN (ks++js)).map aA),true,false):=by
 refine cN (F:=f1) rfl rfl (v:=⟨.lst ((ssN (ks++js)).map aA),true,false,[]⟩) ?_
 show exs pg (call pg n) [.sh true (.lst (ks.map aA)),.sh true (.lst (js.map aA))] (.cons (.ret (.sop .BitOr (.v 0) (.v 1))) .nil)=_
 rw[bS,mR,aBO .BitOr (.v 0) (.v 1) rfl rfl rfl rfl h1 h2 (show opN .BitOr ks js=some (ssN (ks++js)) by
  show(if (ssN ks).length+(ssN js).length<=700 then _ else _)=_
  rw[qY r1,qY r2,if_pos hl])]
 rfl
theorem aDx(n:Nat){ks js:List NK}(h1:neN ks=true)(h2:neN js=true)(r1:ks.Pairwise (lexN · ·=true))(r2:js.Pairwise (lexN · ·=true))(hl:ks.length+js.length<=700):call pg (n+1) 2 [.lst (ks.map aA),.lst (js.map aA)]=.ok (.lst ((ssN (ks.filter λk=>decide (k∈js))).map aA),true,false):=by
 refine cN (F:=f2) rfl rfl (v:=⟨.lst ((ssN (ks.filter λk=>decide (k∈js))).map aA),true,false,[]⟩) ?_
 show exs pg (call pg n) [.sh true (.lst (ks.map aA)),.sh true (.lst (js.map aA))] (.cons (.ret (.sop .BitAnd (.v 0) (.v 1))) .nil)=_
 rw[bS,mR,aBO .BitAnd (.v 0) (.v 1) rfl rfl rfl rfl h1 h2 (show opN .BitAnd ks js=some (ssN (ks.filter λk=>decide (k∈js))) by
  show(if (ssN ks).length<=700/\(ssN js).length<=700 then _ else _)=_
  rw[qY r1,qY r2,if_pos ⟨by omega,by omega⟩])]
 rfl
noncomputable def Rp(m:List (NK×D))(c:NK->Int):Prop:=∀q,bY m q=if c q=0 then none else some (.int (c q))
theorem Rp.put{m:List (NK×D)}{c:NK->Int}(h:Rp m c)(q:NK){v:Int}(hv:v≠0){c':NK->Int}(hc:∀q',c' q'=if q'=q then v else c q'):Rp (putK m (q,.int v)) c':=λq'=>by
 rw[tI,hc]
 by_cases e:q'=q
 . rw[if_pos e,if_pos e,if_neg hv]
 . rw[if_neg e,if_neg e,h q']
theorem Rp.mem{m:List (NK×D)}{c:NK->Int}(h:Rp m c)(q:NK):q∈m.map (·.1)↔c q≠0:=by
 rw[iQ,h q]
 by_cases e:c q=0
 . rw[if_pos e];exact⟨λz=>absurd rfl z,λz=>absurd e z⟩
 . rw[if_neg e];exact⟨λ_=>e,λ_=>nofun⟩
theorem aBP{cl:Caller}{σ:Sg}{j:Nat}{a:E}{m:List (NK×D)}{c:NK->Int}{q:NK}(ha:ev pg cl σ a=.ok (.cl (aA q)))(hj:σ[j]? = some (.dct m))(h:Rp m c):ev pg cl σ (.dgd j a (.int 0))=.ok (.cl (.int (c q))):=by
 show(ev pg cl σ a >>= λx=>(match σ[j]?,dE x.d with
  | some (.dct ks),some k=>R.iff (fA (.int 0)) (match bY ks k with
   | some v=>R.iff (fA v) (R.ok (Vl.cl v))
   | none=>R.ok (.cl (.int 0)))
  | _,_=>.bad))=_
 rw[ha,aC,hj]
 show(match some (Sl.dct m),dE (aA q) with
  | some (.dct ks),some k=>R.iff (fA (.int 0)) (match bY ks k with
   | some v=>R.iff (fA v) (R.ok (Vl.cl v))
   | none=>R.ok (.cl (.int 0)))
  | _,_=>.bad)=_
 rw[eC]
 show(match bY m q with|some v=>R.iff (fA v) (R.ok (Vl.cl v))|none=>R.ok (.cl (.int 0)))=_
 rw[h q]
 by_cases e:c q=0
 . rw[if_pos e,e]
 . rw[if_neg e]
   rfl
theorem aDy{cl:Caller}{σ:Sg}{j:Nat}{a:E}{m:List (NK×D)}{q:NK}(ha:ev pg cl σ a=.ok (.cl (aA q)))(hj:σ[j]? = some (.dct m)):tst pg cl σ (.din a j)=.ok (decide (q∈m.map (·.1))):=by
 show(ev pg cl σ a >>= λx=>(match σ[j]?,dE x.d with
  | some (.dct ks),some k=>R.ok (decide (k∈ks.map λ(x:NK×D)=>x.1))
  | _,_=>.bad))=_
 rw[ha,aC,hj]
 show(match some (Sl.dct m),dE (aA q) with
  | some (.dct ks),some k=>R.ok (decide (k∈ks.map λ(x:NK×D)=>x.1))
  | _,_=>.bad)=_
 rw[eC]
theorem tP{cl:Caller}{a0 a1 a2 a3 a5 a6 a7 a8:Sl}{m:List (NK×D)}{k e:E}{q:NK}{v:Int}(hk:ev pg cl [a0,a1,a2,a3,.dct m,a5,a6,a7,a8] k=.ok (.cl (aA q)))(hv:ev pg cl [a0,a1,a2,a3,.dct m,a5,a6,a7,a8] e=.ok (.cl (.int v)))(hm:m.length<lim) :
 ex pg cl [a0,a1,a2,a3,.dct m,a5,a6,a7,a8] (.dpv 4 k e)=.next [a0,a1,a2,a3,.dct (putK m (q,.int v)),a5,a6,a7,a8]:=by
 show O.from _ (ev pg cl [a0,a1,a2,a3,.dct m,a5,a6,a7,a8] e) _=_
 rw[hv,bG,hk,bG]
 show(match some (Sl.dct m),dE (aA q) with
  | some (.dct ks),some k=>(if ks.length<lim/\fA (.int v)=true then O.next ([a0,a1,a2,a3,.dct m,a5,a6,a7,a8].set 4 (.dct (putK ks (k,.int v)))) else .bad)
  | _,_=>.bad)=_
 rw[eC]
 show(if m.length<lim/\fA (.int v)=true then _ else _)=_
 rw[if_pos ⟨hm,rfl⟩]
 rfl
noncomputable def one(b:Prop)[Decidable b]:Int:=if b then 1 else 0
theorem bM{l:List NK}{i:Nat}(h:i<l.length)(q:NK):q∈l.take (i+1)↔q∈l.take i\/q=l[i]:=by
 rw[List.take_succ_eq_append_getElem h,List.mem_append,List.mem_singleton]
theorem aBQ{l:List NK}(nd:l.Nodup){i:Nat}(h:i<l.length):l[i]∉l.take i:=by
 have:=nd.sublist (List.take_sublist (i+1) l)
 rw[List.take_succ_eq_append_getElem h] at this
 intro z
 exact(List.nodup_append.mp this).2.2 _ z _ List.mem_cons_self rfl
section
variable {ks js ps:List NK}
theorem aBR(ls:List NK):biD .list [⟨.lst (ls.map aA),false,true,[]⟩]=.ok ⟨.lst (ls.map aA),true,false,[]⟩:=by
 show R.ok (⟨.lst (ls.map aA),true,true&&!noLs (ls.map aA),if noLs (ls.map aA) then [] else []⟩:Vl)=_
 rw[eB cS]
 rfl
structure Ok (ks js ps:List NK):Prop where
 k1:ks.Pairwise (lexN · ·=true)
 k2:js.Pairwise (lexN · ·=true)
 k3:ps.Pairwise (lexN · ·=true)
 i1:∀k∈ks,k∈ps
 i2:∀k∈js,k∈ps
 pr:∀k∈ps,∃a b,k=[a,b]
 ln:ks.length+js.length<=700
 lp:ps.length<=700
theorem aEd{ps ks:List NK}(pr:∀k∈ps,∃a b,k=[a,b])(h:∀k∈ks,k∈ps):neN ks=true:=List.all_eq_true.mpr λk hk=>by
 obtain⟨a,b,rfl⟩:=pr k (h k hk)
 rfl
noncomputable def dO(ks js ps:List NK):List NK:=ps.filter λk=>decide (k∈ks\/k∈js)
noncomputable def fO(ks js ps:List NK):List NK:=ps.filter λk=>decide (k∈ks/\k∈js)
theorem Ok.some(o:Ok ks js ps):ssN (ks++js)=dO ks js ps:=(qJ (o.k3.sublist List.filter_sublist) λx=>by
 rw[List.mem_append]
 refine⟨λz=>of_decide_eq_true (List.mem_filter.mp z).2,λz=>List.mem_filter.mpr ⟨z.elim (o.i1 x) (o.i2 x),decide_eq_true z⟩⟩).symm
theorem Ok.each(o:Ok ks js ps):ssN (ks.filter λk=>decide (k∈js))=fO ks js ps:=(qJ (o.k3.sublist List.filter_sublist) λx=>
 ⟨λz=>have w:=of_decide_eq_true (List.mem_filter.mp z).2;List.mem_filter.mpr ⟨w.1,decide_eq_true w.2⟩,λz=>have w:=List.mem_filter.mp z;List.mem_filter.mpr ⟨o.i1 x w.1,decide_eq_true ⟨w.1,of_decide_eq_true w.2⟩⟩⟩).symm
theorem tQ(n:Nat)(o:Ok ks js ps):call pg (n+2) 8 [.lst (ks.map aA),.lst (js.map aA),.lst (ps.map aA)]=.ok (.bl true,false,false):=by
 have n1:=aEd o.pr o.i1
 have n2:=aEd o.pr o.i2
 have hlk:=o.ln
 have hlp:=o.lp
 have cj:=zF n n1 n2 o.k1 o.k2 o.ln
 have cb:=aDx n n1 n2 o.k1 o.k2 o.ln
 rw[o.some] at cj
 rw[o.each] at cb
 have ct1:=xP n (ks:=dO ks js ps) λk hk=>o.pr k (List.mem_filter.mp hk).1
 have ct2:=xP n (ks:=fO ks js ps) λk hk=>o.pr k (List.mem_filter.mp hk).1
 let S0:Sl:=.sh true (.lst (ks.map aA))
 let S1:Sl:=.sh true (.lst (js.map aA))
 let S2:Sl:=.sh true (.lst (ps.map aA))
 let S3:Sl:=.own false [.lst (ks.map aA),.lst (js.map aA)]
 have v0:∀a3 a4 a5 a6 a7 a8,ev pg (call pg (n+1)) [S0,S1,S2,a3,a4,a5,a6,a7,a8] (.v 0)=.ok ⟨.lst (ks.map aA),false,true,[]⟩:=λ_ _ _ _ _ _=>rfl
 have v1:∀a3 a4 a5 a6 a7 a8,ev pg (call pg (n+1)) [S0,S1,S2,a3,a4,a5,a6,a7,a8] (.v 1)=.ok ⟨.lst (js.map aA),false,true,[]⟩:=λ_ _ _ _ _ _=>rfl
 have w0:∀a3 a4 a5 a6 a7 a8,walk pg (call pg (n+1)) [S0,S1,S2,a3,a4,a5,a6,a7,a8] (.seq (.v 0))=.ok (ks.map (λk=>Vl.cl (aA k)),[]):=λ_ _ _ _ _ _=>by
  show R.ok (items _ (ks.map aA),[])=_
  rw[eS]
 have w1:∀a3 a4 a5 a6 a7 a8,walk pg (call pg (n+1)) [S0,S1,S2,a3,a4,a5,a6,a7,a8] (.seq (.v 1))=.ok (js.map (λk=>Vl.cl (aA k)),[]):=λ_ _ _ _ _ _=>by
  show R.ok (items _ (js.map aA),[])=_
  rw[eS]
 have w2:∀a3 a4 a5 a6 a7 a8,walk pg (call pg (n+1)) [S0,S1,S2,a3,a4,a5,a6,a7,a8] (.seq (.v 2))=.ok (ps.map (λk=>Vl.cl (aA k)),[]):=λ_ _ _ _ _ _=>by
  show R.ok (items _ (ps.map aA),[])=_
  rw[eS]
 have e1:ex pg (call pg (n+1)) [S0,S1,S2,.dead,.dead,.dead,.dead,.dead,.dead] (hdS f8.body)=.next [S0,S1,S2,S3,.dead,.dead,.dead,.dead,.dead]:=by
  refine(cH (P:=pg) _ _).trans ?_
  simp only[fL,aO,aX,sZ,v0,v1,aC,aBR,bG]
  rfl
 obtain⟨σ3,e3,h3⟩:=fM (t:=.n 5) (b:=match hdS (drp 2 f8.body) with|.for _ _ b=>b|_=>.nil) (λi σ=>∃m s5,σ=[S0,S1,S2,S3,.dct m,s5,.dead,.dead,.dead]/\m.length<=i/\Rp m λq=>one (q∈ks.take i)) (w0 S3 (.dct []) .dead .dead .dead .dead) ⟨[],_,rfl,Nat.le_refl _,λq=>rfl⟩ (λi hi σ hσ=>by
  obtain⟨m,s5,rfl,hl,hr⟩:=hσ
  have hi':i<ks.length:=by simpa using hi
  refine⟨[S0,S1,S2,S3,.dct m,.sh false (aA ks[i]),.dead,.dead,.dead],[S0,S1,S2,S3,.dct (putK m (ks[i],.int 1)),.sh false (aA ks[i]),.dead,.dead,.dead],by simp,(stp (tP (k:=.v 5) (e:=.c (.int 1)) (q:=ks[i]) (v:=1) rfl rfl (by unfold lim;omega))).trans rfl,_,_,rfl,Nat.le_trans (kJ _ _) (by omega),hr.put _ (by decide) λq'=>?_⟩
  unfold one
  by_cases e:q'=ks[i]
  . rw[if_pos e,if_pos ((bM hi' q').mpr (.inr e))]
  . rw[if_neg e]
    by_cases z:q'∈ks.take i
    . rw[if_pos z,if_pos ((bM hi' q').mpr (.inl z))]
    . rw[if_neg z,if_neg λy=>((bM hi' q').mp y).elim z e])
 obtain⟨m1,t5,rfl,hl1,hr1⟩:=h3
 rw[lM] at hl1
 rw[lM,List.take_length] at hr1
 obtain⟨σ4,e4,h4⟩:=fM (t:=.n 5) (b:=match hdS (drp 3 f8.body) with|.for _ _ b=>b|_=>.nil) (λi σ=>∃m s5,σ=[S0,S1,S2,S3,.dct m,s5,.dead,.dead,.dead]/\m.length<=ks.length+i/\Rp m λq=>one (q∈ks)+one (q∈js.take i)) (w1 S3 (.dct m1) t5 .dead .dead .dead) ⟨m1,_,rfl,hl1,λq=>by
  rw[hr1 q]
  show _=if one (q∈ks)+0=0 then none else some (D.int (one (q∈ks)+0))
  rw[Int.add_zero]⟩ (λi hi σ hσ=>by
  obtain⟨m,s5,rfl,hl,hr⟩:=hσ
  have hi':i<js.length:=by simpa using hi
  have nt:=aBQ (aDu o.k2) hi'
  have hv:ev pg (call pg (n+1)) [S0,S1,S2,S3,.dct m,.sh false (aA js[i]),.dead,.dead,.dead] (.op .Add (.dgd 4 (.v 5) (.int 0)) (.c (.int 1)))=.ok (.cl (.int (one (js[i]∈ks)+1))):=by
   rw[eA,aBP (m:=m) (q:=js[i]) rfl rfl hr,aC,cV,aC,add_int]
   show R.ok (Vl.cl (.int (one (js[i]∈ks)+one (js[i]∈js.take i)+1)))=_
   rw[show one (js[i]∈js.take i)=0 from if_neg nt,Int.add_zero]
  refine⟨[S0,S1,S2,S3,.dct m,.sh false (aA js[i]),.dead,.dead,.dead],[S0,S1,S2,S3,.dct (putK m (js[i],.int (one (js[i]∈ks)+1))),.sh false (aA js[i]),.dead,.dead,.dead],by simp,(stp (tP (k:=.v 5) (q:=js[i]) rfl hv (by unfold lim;omega))).trans rfl,_,_,rfl,Nat.le_trans (kJ _ _) (by omega),hr.put _ (by unfold one;split <;> decide) λq'=>?_⟩
  by_cases e:q'=js[i]
  . rw[if_pos e,e,show one (js[i]∈js.take (i+1))=1 from if_pos ((bM hi' js[i]).mpr (.inr rfl))]
  . rw[if_neg e]
    unfold one
    by_cases z:q'∈js.take i
    . rw[if_pos z,if_pos ((bM hi' q').mpr (.inl z))]
    . rw[if_neg z,if_neg λy=>((bM hi' q').mp y).elim z e])
 obtain⟨m,u5,rfl,hl2,hr⟩:=h4
 rw[lM,List.take_length] at hr
 have c5:ev pg (call pg (n+1)) [S0,S1,S2,S3,.dct m,u5,.dead,.dead,.dead] (.comp 1 [4] (.n 0) (.seq (.v 2)) (.cons (.din (.v 0) 1) .nil) (.v 0))=.ok ⟨.lst ((dO ks js ps).map aA),true,false,[]⟩:=
  vA (λk=>Vl.cl (aA k)) aA (λk=>decide (k∈ks\/k∈js)) cS (w2 _ _ _ _ _ _) (Nat.le_trans hlp (by decide)) λk _=>⟨[.sh false (aA k),.dct m],by simp,by
   rw[aDy (m:=m) (q:=k) rfl rfl]
   congr 1
   refine decide_eq_decide.mpr ((hr.mem k).trans ?_)
   unfold one
   by_cases z1:k∈ks <;> by_cases z2:k∈js <;> simp[z1,z2],rfl⟩
 have c6:ev pg (call pg (n+1)) [S0,S1,S2,S3,.dct m,u5,.own false ((dO ks js ps).map aA),.dead,.dead] (.comp 1 [4] (.n 0) (.seq (.v 2)) (.cons (.cmp .Eq (.dgd 1 (.v 0) (.int 0)) (.c (.int 2))) .nil) (.v 0))=.ok ⟨.lst ((fO ks js ps).map aA),true,false,[]⟩:=
  vA (λk=>Vl.cl (aA k)) aA (λk=>decide (k∈ks/\k∈js)) cS (w2 _ _ _ _ _ _) (Nat.le_trans hlp (by decide)) λk _=>⟨[.sh false (aA k),.dct m],by simp,by
   rw[cM,aBP (m:=m) (q:=k) rfl rfl hr,aC,cV,aC]
   show R.ok (one (k∈ks)+one (k∈js)==2)=_
   unfold one
   by_cases z1:k∈ks <;> by_cases z2:k∈js <;> simp[z1,z2],rfl⟩
 let S6:Sl:=.own false ((dO ks js ps).map aA)
 let S7:Sl:=.own false ((fO ks js ps).map aA)
 have i0:∀a8,ev pg (call pg (n+1)) [S0,S1,S2,S3,.dct m,u5,S6,S7,a8] (.idx (.v 3) (.c (.int 0)))=.ok ⟨.lst (ks.map aA),false,false,[3]⟩:=λ_=>rfl
 have i1:∀a8,ev pg (call pg (n+1)) [S0,S1,S2,S3,.dct m,u5,S6,S7,a8] (.idx (.v 3) (.c (.int 1)))=.ok ⟨.lst (js.map aA),false,false,[3]⟩:=λ_=>rfl
 have j0:∀a8,ev pg (call pg (n+1)) [S0,S1,S2,S3,.dct m,u5,S6,S7,a8] (.call 1 (.cons (.idx (.v 3) (.c (.int 0))) (.cons (.idx (.v 3) (.c (.int 1))) .nil)))=.ok ⟨.lst ((dO ks js ps).map aA),true,false,[]⟩:=λ_=>by
  simp only[cW,aO,aX,i0,i1,aC,mC,mN,cj,gW]
 have j1:∀a8,ev pg (call pg (n+1)) [S0,S1,S2,S3,.dct m,u5,S6,S7,a8] (.call 2 (.cons (.idx (.v 3) (.c (.int 0))) (.cons (.idx (.v 3) (.c (.int 1))) .nil)))=.ok ⟨.lst ((fO ks js ps).map aA),true,false,[]⟩:=λ_=>by
  simp only[cW,aO,aX,i0,i1,aC,mC,mN,cb,gW]
 have ls:(dO ks js ps).length<=700:=Nat.le_trans (List.length_filter_le _ _) hlp
 have le:(fO ks js ps).length<=700:=Nat.le_trans (List.length_filter_le _ _) hlp
 have rv:ex pg (call pg (n+1)) [S0,S1,S2,S3,.dct m,u5,S6,S7,.own false ((dO ks js ps).map aA)] (.rev 8)=.next [S0,S1,S2,S3,.dct m,u5,S6,S7,.own false ((dO ks js ps).map aA).reverse]:=by
  show(if (((dO ks js ps).map aA).reverse).length<=lim then _ else _)=_
  rw[if_pos (by rw[List.length_reverse,lM];unfold lim;omega)]
  rfl
 have ap:∀ds:List D,ds.length<=700->ex pg (call pg (n+1)) [S0,S1,S2,S3,.dct m,u5,S6,S7,.own false ds] (.app 8 (.c .non))=.next [S0,S1,S2,S3,.dct m,u5,S6,S7,.own false (ds++[.non])]:=λds h=>by
  show(if (ds++[D.non]).length<=lim then _ else _)=_
  rw[if_pos (by rw[lA];unfold lim;exact Nat.le_trans (Nat.add_le_add_right h 1) (by decide))]
  rfl
 refine cN (P:=pg) (cl:=call pg (n+1)) (f:=8) (ds:=[.lst (ks.map aA),.lst (js.map aA),.lst (ps.map aA)]) (F:=f8) rfl rfl (v:=.cl (.bl true)) ?_
 refine(stp e1).trans ?_
 refine(stp (σ':=[S0,S1,S2,S3,.dct [],.dead,.dead,.dead,.dead]) rfl).trans ?_
 refine(stp e3).trans ((stp e4).trans ?_)
 refine(stp (σ':=[S0,S1,S2,S3,.dct m,u5,S6,.dead,.dead]) (by rw[cH,c5];rfl)).trans ?_
 refine(stp (σ':=[S0,S1,S2,S3,.dct m,u5,S6,S7,.dead]) (by rw[cH,c6];rfl)).trans ?_
 refine(stp (σ':=[S0,S1,S2,S3,.dct m,u5,S6,S7,.own false ((dO ks js ps).map aA)]) (by rw[cH,j0];rfl)).trans ?_
 refine(stp (σ':=[S0,S1,S2,S3,.dct m,u5,S6,S7,.own false ((dO ks js ps).map aA)]) ?_).trans ?_
 . rw[cL,jK,tB]
   simp only[S6,aO,aX,iN,bX,gS,gZ,dN,aC,mC,mN,ct1,qU,aBG,Bool.not_true,bG,bF,if_false,eQ]
 refine(stp rv).trans ((stp (ap _ (by rw[List.length_reverse,lM];exact ls))).trans ?_)
 refine(stp (σ':=[S0,S1,S2,S3,.dct m,u5,S6,S7,.own false ((fO ks js ps).map aA)]) (by rw[cH,j1];rfl)).trans ?_
 refine(stp (σ':=[S0,S1,S2,S3,.dct m,u5,S6,S7,.own false ((fO ks js ps).map aA)]) ?_).trans ?_
 . rw[cL,jK,tB]
   simp only[S7,aO,aX,iN,bX,gS,gZ,dN,aC,mC,mN,ct2,qU,aBG,Bool.not_true,bG,bF,if_false,eQ]
 refine(stp (ap _ (by rw[lM];exact le))).trans ?_
 generalize (fO ks js ps).map aA++[D.non]=dd
 refine(stp (σ':=[S0,S1,S2,S3,.dct m,u5,S6,S7,.own false dd]) ?_).trans ?_
 . rw[cL,cM,fL]
   simp only[aO,aX,v0,v1,aC]
   show O.from _ (match (eqD (.lst [.lst (ks.map aA),.lst (js.map aA)]) (.lst [.lst (ks.map aA),.lst (js.map aA)])).map (!·) with|some k=>R.ok k|none=>.bad) _=_
   rw[aDt]
   rfl
 have a1:∀a8,ev pg (call pg (n+1)) [S0,S1,S2,S3,.dct m,u5,S6,S7,a8] (.cmp .Eq (.call 1 (.cons (.idx (.v 3) (.c (.int 0))) (.cons (.idx (.v 3) (.c (.int 1))) .nil))) (.v 6))=.ok (.cl (.bl true)):=λa8=>by
  rw[aBA,j0,aC]
  show(match eqD (.lst ((dO ks js ps).map aA)) (.lst ((dO ks js ps).map aA)) with|some k=>R.ok (Vl.cl (.bl k))|none=>.bad)=_
  rw[mY]
 have a2:∀a8,ev pg (call pg (n+1)) [S0,S1,S2,S3,.dct m,u5,S6,S7,a8] (.cmp .Eq (.call 2 (.cons (.idx (.v 3) (.c (.int 0))) (.cons (.idx (.v 3) (.c (.int 1))) .nil))) (.v 7))=.ok (.cl (.bl true)):=λa8=>by
  rw[aBA,j1,aC]
  show(match eqD (.lst ((fO ks js ps).map aA)) (.lst ((fO ks js ps).map aA)) with|some k=>R.ok (Vl.cl (.bl k))|none=>.bad)=_
  rw[mY]
 show exs pg (call pg (n+1)) _ (.cons (.ret (.an _ _)) .nil)=_
 rw[bS,mR,aEa,a1,aC]
 show(O.from _ (ev pg (call pg (n+1)) [S0,S1,S2,S3,.dct m,u5,S6,S7,.own false dd] _) _).on _=_
 rw[a2]
 rfl
end
theorem aIC{α β:Type}(f:α->β)(l:List α)(lo hi:Option Int):cut (l.map f) lo hi=(cut l lo hi).map f:=by
 unfold cut
 simp only[lM,List.map_drop,List.map_take]
theorem vC{bs:List (Str×Int)}(T:zA bs)(h:1<=bs.length):2<=(aG bs).length/\(aG bs).length<=24:=by
 have q:=(qS T bs.length (Nat.le_refl _)).1
 have q2:=aEb T bs.length (Nat.le_refl _)
 rw[List.take_length] at q q2
 refine⟨?_,q2⟩
 cases bs with
 | nil=>cases h
 | cons b r=>
  have hb:=(T.one b List.mem_cons_self).1
  have:=kI (r.map λb=>b.2+1) (1*(b.2+1)) (by omega) λx hx=>by
   obtain⟨c,hc,rfl⟩:=List.mem_map.mp hx
   have:=(T.one c (List.mem_cons_of_mem _ hc)).1
   omega
  have e:iO (b::r)=(r.map λb=>b.2+1).foldl (·*·) (1*(b.2+1)):=rfl
  rw[e] at q
  omega
theorem zG{ss:List (List Int)}(h:ss.Pairwise (lexJ · ·=true))(h2:2<=ss.length):1<=(pairsL ss).length:=by
 match ss,h,h2 with
 | a::b::r,h,_=>
  have hab:lexJ a b=true:=(List.pairwise_cons.mp h).1 b List.mem_cons_self
  have ne:b≠a:=λe=>by
   subst e
   exact bN ((qF.lex.ir _).symm.trans hab)
  refine List.length_pos_of_mem (a:=[a,b]) (List.mem_flatMap.mpr ⟨a,List.mem_cons_self,List.mem_map.mpr ⟨b,List.mem_filter.mpr ⟨List.mem_cons_of_mem _ List.mem_cons_self,?_⟩,rfl⟩⟩)
  rw[beq_eq_false_iff_ne.mpr ne]
  rfl
theorem cut_len(ns:List Int)(lo hi:Nat)(h:lo<=hi):(cut ns (some (lo:Int)) (some (hi:Int))).length<=hi-lo\/ns.length<=lo:=by
 by_cases hl:ns.length<=lo
 . exact .inr hl
 . refine .inl ?_
   unfold cut sIx
   simp only[List.length_drop,List.length_take]
   rw[if_neg (by omega),if_neg (by omega)]
   omega
theorem pure(ns:List Int)(hn:ns.length<=63):∃fr pa,call pg 60 9 [.lst (ns.map D.int)]=.ok (.bl true,fr,pa):=by
 refine⟨false,false,?_⟩
 generalize hcell:(ns++[0]).getD 0 0=cell
 have cs:=oR (P:=pg) (f:=3) rfl 58 cell (m:=4) (by decide)
 have cs:call pg 59 3 [.int cell,.int 4]=.ok (.lst [.int (num cell 2),.int (num cell 3),.int (num cell 4),.int (num cell 5)],true,false):=cs
 generalize num cell 2=x0,num cell 3=x1,num cell 4=x2,num cell 5=x3 at cs
 obtain⟨bs,T,hb,cb⟩:=aBK 58 x0 x1 x2 x3
 have cb:call pg 59 4 [.lst [.int x0,.int x1,.int x2,.int x3]]=.ok (.lst (bT bs),true,false):=cb
 have cst:=zC (P:=pg) (f:=0) rfl 58 T
 obtain⟨s2,s24⟩:=vC T hb
 have cp:=aBL 58 s24
 have pr:=vB (jR bs)
 have po:=zG (jR bs) s2
 have pl:=zE (aG bs)
 have pp:∀k∈pairsL (aG bs),∃a b,k=[a,b]:=λk hk=>aBJ hk
 have pl:(pairsL (aG bs)).length<=576:=Nat.le_trans pl (Nat.mul_le_mul s24 s24)
 generalize pairsL (aG bs)=ps at cp pr po pl pp
 let S0:Sl:=.sh true (.lst (ns.map D.int))
 have a0:∀a1 a2 a3 a4,ev pg (call pg 59) [S0,a1,a2,a3,a4] (.idx (.op .Add (.v 0) (.lst (.cons (.c (.int 0)) .nil))) (.c (.int 0)))=.ok (.cl (.int cell)):=λa1 a2 a3 a4=>by
  have hl:ns.length+1<=lim:=by unfold lim;omega
  have e:opD .Add ⟨.lst (ns.map D.int),false,true,[]⟩ ⟨.lst [.int 0],true,false,[]⟩=.ok ⟨.lst ((ns++[0]).map D.int),true,false,[]⟩:=by
   have hd:decide ((ns.map D.int).length+[D.int 0].length<=lim)=true:=decide_eq_true (by simpa using hl)
   show R.iff (decide ((ns.map D.int).length+[D.int 0].length<=lim)) (R.ok (⟨.lst (ns.map D.int++[D.int 0]),true,(true&&!noLs (ns.map D.int))||(false&&!noLs [D.int 0]),(if noLs (ns.map D.int)=true then [] else [])++(if noLs [D.int 0]=true then [] else [])⟩:Vl))=_
   rw[hd,gA]
   simp[noLs,Hp.noL]
  have hm:cB [.cl (.int 0)]=⟨.lst [.int 0],true,false,[]⟩:=rfl
  have i0:=xN (v:=⟨.lst ((ns++[0]).map D.int),true,false,[]⟩) (is:=ns++[0]) (k:=0) rfl (by simp)
  rw[hcell] at i0
  have i0:dW ⟨.lst ((ns++[0]).map D.int),true,false,[]⟩ (.cl (.int 0))=.ok (.cl (.int cell)):=i0
  simp only[S0,fK,eA,iN,fL,aO,aX,cV,bX,gZ,qT,aC,hm,e,i0]
 have sl:∀(lo hi:Int) (a1 a2 a3 a4:Sl),aF lo=true->aF hi=true->ev pg (call pg 59) [S0,a1,a2,a3,a4] (.sli (.v 0) (.cons (.c (.int lo)) .nil) (.cons (.c (.int hi)) .nil))=.ok ⟨.lst ((cut ns (some lo) (some hi)).map D.int),true,false,[]⟩:=λlo hi a1 a2 a3 a4 h1 h2=>by
  rw[aDq]
  show R.iff (aF lo&&aF hi) (R.ok (⟨.lst (cut (ns.map D.int) (some lo) (some hi)),true,true&&!noLs (ns.map D.int),if noLs (ns.map D.int) then [] else []⟩:Vl))=_
  rw[h1,h2,gA,aIC]
  rfl
 have few:∀lo hi:Nat,lo<=hi->hi-lo<=20->(cut ns (some (lo:Int)) (some (hi:Int))).length<=20:=λlo hi h1 h2=>by
  rcases cut_len ns lo hi h1 with h|h
  . omega
  . unfold cut sIx
    simp only[List.length_drop,List.length_take]
    rw[if_neg (by omega),if_neg (by omega)]
    omega
 let S1:Sl:=.own false [.int x0,.int x1,.int x2,.int x3]
 let S2:Sl:=.own false (ps.map aA)
 have e1:ex pg (call pg 59) [S0,.dead,.dead,.dead,.dead] (hdS f9.body)=.next [S0,S1,.dead,.dead,.dead]:=by
  refine(cH (P:=pg) _ _).trans ?_
  simp only[cW,aO,aX,a0,cV,aC,mC,mN,zD,cs,gW,bG,fZ,oP,fY,lS,lZ]
  rfl
 have e2:ex pg (call pg 59) [S0,S1,.dead,.dead,.dead] (hdS (drp 1 f9.body))=.next [S0,S1,S2,.dead,.dead]:=by
  refine(cH (P:=pg) _ _).trans ?_
  simp only[S1,cW,aO,aX,iN,bX,gS,gZ,dN,aC,mC,mN,cb,cst,cp,gW,bG,fZ,oP,fY,lS,lZ]
  rfl
 obtain⟨k0,g1,g2,g3,c3⟩:=oY 57 (cells:=cut ns (some 1) (some 20)) (ps:=ps) (more:=[]) (few 1 20 (by decide) (by decide)) po pp (λk h=>absurd h List.not_mem_nil)
 have l0:cB []=⟨.lst [],true,false,[]⟩:=rfl
 have e3:ex pg (call pg 59) [S0,S1,S2,.dead,.dead] (hdS (drp 2 f9.body))=.next [S0,S1,S2,.own false (k0.map aA),.dead]:=by
  have c3:call pg 59 6 [.lst ((cut ns (some 1) (some 20)).map D.int),.lst (ps.map aA),.lst []]=.ok (.lst (k0.map aA),true,false):=c3
  refine(cH (P:=pg) _ _).trans ?_
  simp only[S2,cW,fL,aO,aX,sl 1 20 _ _ _ _ (by decide) (by decide),iN,bX,gS,gZ,dN,aC,mC,mN,l0,c3,gW,bG,fZ,oP,fY,lS,lZ]
 have m9:∀i:Int,opD .Mod (.cl (.int i)) (.cl (.int 9))=.ok (.cl (.int (i % 9))):=λi=>cX (by decide)
 have t4:∀a3,tst pg (call pg 59) [S0,S1,S2,a3,.dead] (.cmp .Eq (.op .Mod (.idx (.v 1) (.c (.int 3))) (.c (.int 9))) (.c (.int 0)))=.ok (x3 % 9==0):=λa3=>by
  have i3:ev pg (call pg 59) [S0,S1,S2,a3,.dead] (.idx (.v 1) (.c (.int 3)))=.ok (.cl (.int x3)):=rfl
  rw[cM,eA,i3,aC,cV,aC,m9,aC,cV,aC]
  rfl
 have e4:∃ks:List NK,ks.Pairwise (lexN · ·=true)/\(∀k∈ks,k∈ps)/\ks.length<=576/\ex pg (call pg 59) [S0,S1,S2,.own false (k0.map aA),.dead] (hdS (drp 3 f9.body))=.next [S0,S1,S2,.own false (ks.map aA),.dead]:=by
  cases hq:(x3 % 9==0) with
  | false=>
   refine⟨k0,g1,g2,by omega,(cL (P:=pg) _ _ _).trans ?_⟩
   rw[t4,hq]
   rfl
  | true=>
   refine⟨ps,pr,λk h=>h,pl,(cL (P:=pg) _ _ _).trans ?_⟩
   have hl:biD .list [⟨.lst (ps.map aA),false,false,[2]⟩]=.ok ⟨.lst (ps.map aA),true,false,[]⟩:=by
    show R.ok (⟨.lst (ps.map aA),true,false&&!noLs (ps.map aA),if noLs (ps.map aA) then [] else [2]⟩:Vl)=_
    rw[eB cS]
    rfl
   rw[t4,hq,bG,if_pos rfl]
   simp only[S2,bS,eQ,cH,sZ,aO,aX,iN,bX,gS,gZ,dN,aC,hl,bG,fZ,oP,fY,lS,lZ,aIu]
 obtain⟨ks,k1,k2,k3,e4⟩:=e4
 obtain⟨js,j1,j2,j3,c5⟩:=oY 57 (cells:=cut ns (some 20) (some 40)) (ps:=ps) (more:=ks) (few 20 40 (by decide) (by decide)) po pp k2
 have e5:ex pg (call pg 59) [S0,S1,S2,.own false (ks.map aA),.dead] (hdS (drp 4 f9.body))=.next [S0,S1,S2,.own false (ks.map aA),.own false (js.map aA)]:=by
  have c5:call pg 59 6 [.lst ((cut ns (some 20) (some 40)).map D.int),.lst (ps.map aA),.lst (ks.map aA)]=.ok (.lst (js.map aA),true,false):=c5
  refine(cH (P:=pg) _ _).trans ?_
  simp only[S2,cW,fL,aO,aX,sl 20 40 _ _ _ _ (by decide) (by decide),iN,bX,gS,gZ,dN,aC,mC,mN,c5,gW,bG,fZ,oP,fY,lS,lZ]
 have r1:call pg 59 8 [.lst (ks.map aA),.lst (js.map aA),.lst (ps.map aA)]=.ok (.bl true,false,false):=tQ 57 ⟨k1,j1,pr,k2,j2,pp,by omega,by omega⟩
 have r2:call pg 59 8 [.lst (js.map aA),.lst (ks.map aA),.lst (ps.map aA)]=.ok (.bl true,false,false):=tQ 57 ⟨j1,k1,pr,j2,k2,pp,by omega,by omega⟩
 refine cN (P:=pg) (cl:=call pg 59) (f:=9) (ds:=[.lst (ns.map D.int)]) (F:=f9) rfl rfl (v:=.cl (.bl true)) ?_
 refine(stp e1).trans ((stp e2).trans ((stp e3).trans ((stp e4).trans ((stp e5).trans ?_))))
 have a1:ev pg (call pg 59) [S0,S1,S2,.own false (ks.map aA),.own false (js.map aA)] (.call 8 (.cons (.v 3) (.cons (.v 4) (.cons (.v 2) .nil))))=.ok (.cl (.bl true)):=by
  simp only[S2,cW,aO,aX,iN,bX,gS,gZ,dN,aC,mC,mN,r1,qU]
 have a2:ev pg (call pg 59) [S0,S1,S2,.own false (ks.map aA),.own false (js.map aA)] (.call 8 (.cons (.v 4) (.cons (.v 3) (.cons (.v 2) .nil))))=.ok (.cl (.bl true)):=by
  simp only[S2,cW,aO,aX,iN,bX,gS,gZ,dN,aC,mC,mN,r2,qU]
 show exs pg (call pg 59) _ (.cons (.ret (.an _ _)) .nil)=_
 rw[bS,mR,aEa,a1,aC]
 show(O.from _ (ev pg (call pg 59) [S0,S1,S2,.own false (ks.map aA),.own false (js.map aA)] _) _).on _=_
 rw[a2]
 rfl
end K31
end
noncomputable section
set_option maxRecDepth 100000
set_option maxHeartbeats 0
namespace K31
open PySem PySem.W L2 Hp Hh
noncomputable def ix:List (Nat×List Str):=(1,["boxes", "found", "name", "top", "longer", "begun"]) ::
 (3,["one", "other"]) ::
 (4,["one", "other"]) ::
 (6,["_law_cell", "_law_many", "_law_found", "_law_number", "_law_k"]) ::
 (7,["_law_xs", "_law_tops"]) ::
 (8,["_law_some", "_law_found", "_law_ahead"]) ::
 (9,["_law_cells", "_law_pairs_here", "_law_more", "_law_found", "_law_cell", "_law_xs"]) ::
 (10,["_law_found", "_law_due", "_law_step"]) ::
 (11,["_law_one", "_law_other", "_law_pairs_here", "_law_handed", "_law_met", "_law_step", "_law_some", "_law_each", "_law_found"]) ::
 (12,["_law_script", "_law_xs", "_law_pairs_here", "_law_one", "_law_other"])::[]
noncomputable def cns:List (Str×D):=[]
abbrev pw:=PySem.Challenge.pw_handpromise_k31_promises_joined
theorem chk:fJ ⟨[],[],(ix.map (jY pw)).map (·.x),cns,[],true,[]⟩ pg.fns (ix.map (jY pw))=true:=by decide +kernel
theorem lft:LeftO pw (xF pw) (aBz pw) (λ_=>true) (λs=>iM pw cns s.heap) (λ_=>mQ pw) 100000:=aFZ (by kernel_rfl) rfl (λ_=>by kernel_rfl) λw os=>by
 kernel_rfl
end K31
end
noncomputable section
open PySem PySem.W PyProof.Rows Hh
set_option maxRecDepth 100000 in
set_option maxHeartbeats 0 in
theorem PySem.Challenge.cw_handpromise_k31_promises_joined_holds : PySem.Challenge.rw_handpromise_k31_promises_joined.Holds := by
 refine holds_law (by kernel_rfl) λ said => ?_
 refine aGd (l := PySem.Challenge.rw_handpromise_k31_promises_joined) (k := 59) (f := 9) (x := "_law_script") (sl := ["_law_xs", "_law_pairs_here", "_law_one", "_law_other"]) said K31.lft (by kernel_rfl) (by kernel_rfl) rfl rfl (by decide +kernel) ⟨rfl, rfl, rfl, rfl, rfl, by decide +kernel⟩ ?hw rfl rfl (by decide +kernel) (by decide +kernel) K31.chk ⟨rfl, rfl, by decide, by decide⟩ (by kernel_rfl) rfl K31.pure
 w_witness2
end
