import PyProof.Rows.All
import Wide.All
import OpenK.AllK
import Wide.FinOn
import Lean
import PySem.Challenge.RW_coverfill_k32_masked
set_option Elab.async false
set_option linter.all false
set_option maxRecDepth 100000
set_option maxHeartbeats 4000000
set_option compiler.extract_closed false
def zzf {p:Prop}(h:false=true):p:=nomatch h
def zzb (h:Nat.ble a b=true):a<=b:=Nat.le_of_ble_eq_true h
def zzg {T:Type _}{l:List T}{i:Nat}{a:T}(h:l[i]?=some a):∃ w:i<l.length,l[i]=a:=List.getElem?_eq_some_iff.mp h
noncomputable section
set_option hygiene false
local macro_rules | `(tactic| walk_at "i")=>`(tactic| first | exact .inl rfl | exact .inr rfl | assumption)
open Bool (and_eq_true)
open PySem.Heap (lt_size get?_push_of_some get?_push_size)
open Nat (le_refl le_trans ne_of_lt lt_irrefl zero_le lt_of_lt_of_le mul_le_mul_right sub_self)
open Option (map_eq_some_iff)
open Classical (choose_spec)
open Int (toNat_natCast fmod_nonneg_of_pos fmod_lt_of_pos)
open List (all_eq_true append_assoc append_nil cons_append drop_eq_nil_of_le ext_getElem? filter_cons flatten_cons forIn_cons getD_eq_getElem?_getD getElem?_append_left getElem?_append_right getElem?_eq_getElem getElem?_eq_none getElem?_map getElem?_range getElem?_replicate getElem?_set_ne getElem?_set_self getElem_mem length_append length_cons length_map length_range length_replicate length_set length_singleton length_take lookup_cons map_append map_congr_left map_cons map_id map_map map_nil mem_append mem_append_right mem_cons mem_cons_of_mem mem_cons_self mem_filter mem_map mem_of_getElem? mem_range mem_singleton nil_append nodup_cons not_mem_nil of_mem_zip range_succ replicate_succ reverse_cons set_append_right size_toArray)
def qx:=@Option.bind_some
def qy:=@length_map
def qj:=@decide_eq_true_eq
def qQ:=@length_append
def qX:=@PySem.wpAny_bind
def qY:=@Bool.false_ne_true
def qJ:=@mem_cons_of_mem
def q8:=@append_assoc
def q9:=@mem_cons_self
def xq:=@PySem.wpAny_pure
def xy:=@mem_append_right
def xj:=@size_toArray
def xQ:=@Option.some.inj
def xX:=@lt_of_lt_of_le
def xY:=@fmod_nonneg_of_pos
def xJ:=@length_cons
def x8:=@map_append
def x9:=@and_eq_true
def yq:=@map_eq_some_iff
section
namespace L2
open PySem Spec PyProof.Rows
abbrev Key:=Sum Int Str
noncomputable def zSY:Key->Value->Bool
 | .inl k,v=>Value.isInt k v
 | .inr x,v=>Value.isStrOf x v
noncomputable def keyH (w:World):Key->Int
 | .inl k=>hashInt k
 | .inr x=>hashStr w x
def zAu:∀ {k:Key} {v:Value},zSY k v=true->(∃ i t,k=Sum.inl i/\v=Value.int i t)\/(∃ x t,k=Sum.inr x/\v=Value.str x t)
 | .inl i,v,h=>by
  obtain⟨t,e⟩:=Value.isInt_shape (k:=i) (v:=v) h;exact .inl ⟨i,t,rfl,e⟩
 | .inr x,v,h=>by
  obtain⟨t,e⟩:=Value.isStrOf_shape (x:=x) (v:=v) h;exact .inr ⟨x,t,rfl,e⟩
def zSX (a b:Int):decide ((Sum.inl a:Key)=Sum.inl b)=(a==b):=by grind
def zSU (a b:Str):decide ((Sum.inr a:Key)=Sum.inr b)=decide (a=b):=by simp
def zSW (a:Int)(b:Str):decide ((Sum.inl a:Key)=Sum.inr b)=false:=rfl
def zSV (a:Str)(b:Int):decide ((Sum.inr a:Key)=Sum.inl b)=false:=rfl
noncomputable def zKS (prog:Program)(w:World):PySem.KeyKind prog w Key where
 is:=zSY
 hash:=keyH w
 inj:=λv a b ha hb=>by
  rcases zAu ha with ⟨i,t,rfl,rfl⟩ | ⟨x,t,rfl,rfl⟩
  .rcases zAu hb with ⟨j,u,rfl,e⟩ | ⟨y,u,rfl,e⟩
   .injection e with e1 _;rw[e1]
   .exact nomatch e
  .rcases zAu hb with ⟨j,u,rfl,e⟩ | ⟨y,u,rfl,e⟩
   .exact nomatch e
   .injection e with e1 _;rw[e1]
 byValue:=λk v h=>by
  rcases zAu h with ⟨i,t,rfl,rfl⟩ | ⟨x,t,rfl,rfl⟩<;>rfl
 pyHash:=λhv h=>by
  rcases zAu hv with ⟨i,t,rfl,rfl⟩ | ⟨x,t,rfl,rfl⟩
  .exact wpAny_pyHash_int h
  .exact wpAny_pyHash_str h
 eqBool:=λhu hv h=>by
  rcases zAu hu with ⟨i,t,rfl,rfl⟩ | ⟨x,t,rfl,rfl⟩
  .rcases zAu hv with ⟨j,u,rfl,rfl⟩ | ⟨y,u,rfl,rfl⟩
   .rw [zSX] at h;exact wpAny_eqBool_int h
   .rw [zSW] at h;exact SeqAt.EqAt.int_str i t y u _ _ _ _ h
  .rcases zAu hv with ⟨j,u,rfl,rfl⟩ | ⟨y,u,rfl,rfl⟩
   .rw [zSV] at h;exact SeqAt.EqAt.str_int x t j u _ _ _ _ h
   .rw [zSU] at h;exact wpAny_eqBool_str h
 «strs»:=λk x t v h=>by
  rcases zAu h with ⟨i,u,rfl,e⟩ | ⟨y,u,rfl,e⟩
  .exact nomatch e
  .injection e with e1 _
   subst e1;cases v<;>rfl
end L2
namespace L2
open PySem Spec PyProof.Rows
inductive V where
 | non | bl (b:Bool) | int (i:Int) | str (x:Str) | byt (b:Array UInt8) | flt (b:UInt64) | ref (a:Addr) | ty (n:String)
 deriving DecidableEq
def RelV:V->Value->Prop
 | .non,u=>u=Value.none
 | .bl b,u=>u=Value.bool b
 | .int i,u=>∃ t,u=Value.int i t
 | .str x,u=>∃ t,u=Value.str x t
 | .byt b,u=>∃ t,u=Value.bytes b t
 | .flt b,u=>∃ t,u=Value.float b t
 | .ref a,u=>u=Value.ref a
 | .ty n,u=>u=Value.type n
abbrev Vals:List V->List Value->Prop:=Paired RelV
def Vals.length (r:Vals xs us):xs.length=us.length:=Paired.length r
def Vals.get:∀ {xs:List V} {us:List Value} {i:Nat} {x:V},Vals xs us->xs[i]?=some x->∃ u,us[i]?=some u/\RelV x u
 | _,_,_,_,.nil,e=>by simp at e
 | _,_,0,_,.cons r _,e=>by simp at e;subst e;exact⟨_,rfl,r⟩
 | _,_,i+1,x,.cons _ t,e=>by
  obtain⟨u,h1,h2⟩:=Vals.get (i:=i) (x:=x) t (by simpa using e);exact⟨u,by simpa using h1,h2⟩
theorem Vals.set (r:RelV x u):∀ {xs:List V} {us:List Value} (i:Nat),Vals xs us->Vals (xs.set i x) (us.set i u)
 | _,_,_,.nil=>.nil
 | _,_,0,.cons _ t=>.cons r t
 | _,_,i+1,.cons q t=>.cons q (Vals.set r i t)
theorem Vals.append:∀ {xs ys:List V} {us ws:List Value},Vals xs us->Vals ys ws->Vals (xs++ys) (us++ws)
 | _,_,_,_,.nil,s=>s
 | _,_,_,_,.cons r t,s=>.cons r (Vals.append t s)
theorem Vals.take:∀ {xs:List V} {us:List Value} (n:Nat),Vals xs us->Vals (xs.take n) (us.take n)
 | _,_,0,_=>.nil
 | _,_,_+1,.nil=>.nil
 | _,_,n+1,.cons r t=>.cons r (Vals.take n t)
theorem Vals.drop:∀ {xs:List V} {us:List Value} (n:Nat),Vals xs us->Vals (xs.drop n) (us.drop n)
 | _,_,0,r=>r
 | _,_,_+1,.nil=>.nil
 | _,_,n+1,.cons _ t=>Vals.drop n t
def RelO:Option V->Option Value->Prop
 | some v,some u=>RelV v u
 | none,none=>True
 | _,_=>False
def KV {c:Type}:List (c×V)->List (c×Value)->Prop:=Paired λ(p:c×V) (q:c×Value)=>p.1=q.1/\RelV p.2 q.2
noncomputable def kV:Key->V
 | .inl i=>.int i
 | .inr x=>.str x
set_option genSizeOf false in
set_option genInjectivity false in
inductive HO where
 /-- a list -/
 | lst (xs:List V)
 /-- a tuple (never changes) -/
 | tup (xs:List V)
 /-- a dict whose keys are ints and texts;one whose keys are tuples of ints and texts (the empty one is both) -/
 | dK (kvs:List (Key×V)) | dT (kvs:List (List Key×V))
 /-- a set of ints: its members,its size -/
 | set (S:Int->Bool) (n:Nat)
 /-- an instance of the class at C,its dict at dx,its attributes -/
 | ins (C dx:Addr) (fs:List (Str×V))
 /-- the dict of the instance at x -/
 | own (x:Addr)
 /-- the dict of an exception -/
 | xd (fs:List (Str×V))
 /-- a bound method,f of x -/
 | met (f x:Addr)
 /-- a range object lo,lo+1,.. below hi -/
 | rng (lo hi:Int)
 /-- a thing that is known to the object (the script;a dict while a loop walks it): read,never written while it is so -/
 | frz (o:Obj) (u:HO)
 /-- a code object's table: the codes of the defs made within,all of this name -/
 | tbl (q:Str)
 /-- any other thing,by what is true of its one object (a def of one's own: SetO a S n:=HO.ext λh=>..) -/
 | ext (A:Heap->Prop)
abbrev Hp:=Addr->Option HO
noncomputable def upd (H:Hp)(a:Addr)(o:HO):Hp:=λb=>if b=a then some o else H b
def zAd :upd H a o a=some o:=by unfold upd;rw[if_pos rfl]
def zAS (h:b≠a):upd H a o b=H b:=by unfold upd;rw[if_neg h]
def zAp {H:Hp}(h:H a=some o)(h':H b=none):a≠b:=by grind
section
variable (P:Program)(w:World)
def zL2 (o:Obj)(q:Str):Prop:=∃ vs t,o.data=.fields vs/\vs[1]?=some (.str q t)
def zCj (H:Hp)(h:Heap)(a:Addr):HO->Prop
 | .lst xs=>xs.length<=sizeLine/\∃ (its:List Value) (n:Nat),Vals xs its/\h.get? a=some { cls:=.type "list",data:=.seq its.toArray n }
 | .tup xs=>xs.length<=sizeLine/\∃ its:List Value,Vals xs its/\IsTup h a its.toArray
 | .dK kvs=>kvs.length<=sizeLine/\(a==sysModules)=false/\∃ vs,KV kvs vs/\h.DictOf (zKS P w) a vs
 | .dT kvs=>kvs.length<=sizeLine/\(a==sysModules)=false/\∃ xs:List (List Key×Addr×Value),
   Paired (λ(p:List Key×V) (q:List Key×Addr×Value)=>p.1=q.1/\H q.2.1=some (.tup (p.1.map kV))/\RelV p.2 q.2.2) kvs xs /\
   ∃ o es ep,h.get? a=some o/\o.ExactDict/\o.data=.dict es ep/\es.toList=xs.map (entryOfKey (tupleKind (zKS P w)))/\(xs.map (·.1)).Nodup
 | .set S n=>h.SetOf (intKind P w) a S n
 | .ins C dx fs=>H dx=some (.own a)/\fs.length<=1000/\dx≠a/\h.get? a=some (W.instObj C dx) /\
   ∃ mA,h.Ns1 dx mA/\(∀ f,RelO (fs.lookup f) (mA f))/\PySem.Within mA (fs.map (·.1))
 | .own _=>∃ o,h.get? a=some o
 | .xd fs=>∃ mA,h.Ns1 a mA/\∀ f,RelO (fs.lookup f) (mA f)
 | .rng lo hi=>∃ t u v,h.get? a=some { cls:=.type "range",data:=.fields #[.int lo t,.int hi u,.int 1 v] }
 | .frz o u=>h.get? a=some o/\zCj H h a u
 | .tbl q=>∃ ps:Array Value,h.get? a=some { cls:=.none,data:=.fields ps }/\TriplesOk ps.toList/\∀ pos cv,codeAmong pos ps.toList=some cv->∃ c oc u,cv=.ref c/\H c=some (.frz oc u)/\zL2 oc q
 | .met f x=>h.get? a=some (W.methodObj (.ref f) (.ref x))
 | .ext A=>A h/\(∃ o,h.get? a=some o)/\∀ h1 h2:Heap,A h1->(∀ o,h1.get? a=some o->h2.get? a=some o)->A h2
def HOk (H:Hp)(h:Heap):Prop:=∀ a o,H a=some o->zCj P w H h a o
end
section
variable {P:Program}{w:World}{H H':Hp}{h h':Heap}{a:Addr}{o:HO}
def zCj.lt (x:zCj P w H h a o):a < h.objs.size:=by
 cases o with
 | lst c=>obtain⟨_,_,_,_,e⟩:=x;exact lt_size e
 | tup c=>obtain⟨_,_,_,p⟩:=x;exact p.lt
 | dK b=>obtain⟨_,_,_,_,o,_,_,e,_⟩:=x;exact lt_size e
 | dT b=>obtain⟨_,_,_,_,o,_,_,e,_⟩:=x;exact lt_size e
 | set S n=>obtain⟨o,_,_,_,e,_⟩:=x;exact lt_size e
 | ins C j fs=>obtain⟨_,_,_,e,_⟩:=x;exact lt_size e
 | own y=>obtain⟨_,e⟩:=x;exact lt_size e
 | xd fs=>obtain⟨_,⟨_,_,_,e,_⟩,_⟩:=x;exact lt_size e
 | rng g i=>obtain⟨_,_,_,e⟩:=x;exact lt_size e
 | frz ob u=>obtain⟨e,_⟩:=x;exact lt_size e
 | tbl q=>obtain⟨d,e,_⟩:=x;exact lt_size e
 | met f y=>exact lt_size (show h.get? a=some _ from x)
 | ext A=>obtain⟨_,⟨_,e⟩,_⟩:=x;exact lt_size e
theorem Paired.mapP {T M:Type}{F G:T->M->Prop}:∀ {Z6:List T} {Z7:List M},Paired F Z6 Z7->(∀ a b,F a b->G a b)->Paired G Z6 Z7
 | _,_,.nil,_=>.nil
 | _,_,.cons r t,f=>.cons (f _ _ r) (Paired.mapP t f)
def zCj.stay (x:zCj P w H h a o)(k:∀ b u,(b=a\/H b=some (.own a))->h.get? b=some u->h'.get? b=some u)
  (I:∀ b,H b=some (.own a)->H' b=some (.own a)) (F:∀ b xs,H b=some (.tup xs)->H' b=some (.tup xs)) (G:∀ b ob u,H b=some (.frz ob u)->(∃ vs,ob.data=.fields vs)->H' b=some (.frz ob u)):zCj P w H' h' a o:=by
 induction o with
 | lst xs=>obtain⟨z,i,n,r,e⟩:=x;exact⟨z,i,n,r,k _ _ (.inl rfl) e⟩
 | tup xs=>obtain⟨z,i,r,ob,e,c⟩:=x;exact⟨z,i,r,ob,k _ _ (.inl rfl) e,c⟩
 | dK m=>obtain⟨z,y,vs,r,ob,es,g,e,c⟩:=x;exact⟨z,y,vs,r,ob,es,g,k _ _ (.inl rfl) e,c⟩
 | dT m =>
  obtain⟨z,y,xs,r,ob,es,g,e,c⟩:=x;exact⟨z,y,xs,Paired.mapP r λp q z=>⟨z.1,F _ _ z.2.1,z.2.2⟩,ob,es,g,k _ _ (.inl rfl) e,c⟩
 | set S n=>obtain⟨ob,es,g,t,e,c⟩:=x;exact⟨ob,es,g,t,k _ _ (.inl rfl) e,c⟩
 | ins C L fs =>
  obtain⟨d,z,E,e,s,⟨l,es,g,j,c⟩,r⟩:=x;exact⟨I _ d,z,E,k _ _ (.inl rfl) e,s,⟨l,es,g,k _ _ (.inr d) j,c⟩,r⟩
 | own y=>obtain⟨ob,e⟩:=x;exact⟨ob,k _ _ (.inl rfl) e⟩
 | xd fs=>obtain⟨s,⟨l,es,g,e,c⟩,r⟩:=x;exact⟨s,⟨l,es,g,k _ _ (.inl rfl) e,c⟩,r⟩
 | rng N M=>obtain⟨t,u,v,e⟩:=x;exact⟨t,u,v,k _ _ (.inl rfl) e⟩
 | frz ob u D=>obtain⟨e,q⟩:=x;exact⟨k _ _ (.inl rfl) e,D q⟩
 | tbl q =>
  obtain⟨J,e,t,c⟩:=x;exact⟨J,k a _ (.inl rfl) e,t,λpos B z=>let ⟨c1,oc,u,e1,j,e3⟩:=c pos B z;⟨c1,oc,u,e1,G _ _ _ j (let ⟨vs,_,d,_⟩:=e3;⟨vs,d⟩),e3⟩⟩
 | met f y =>
  have e:=x;exact k a _ (.inl rfl) e
 | ext A=>obtain⟨p,⟨o,e⟩,st⟩:=x;exact⟨st _ _ p λo q=>k _ _ (.inl rfl) q,⟨o,k _ _ (.inl rfl) e⟩,st⟩
def HOk.lt (x:HOk P w H h)(e:H a=some o):a < h.objs.size:=(x a o e).lt
def HOk.fresh (x:HOk P w H h)(e:h.objs.size<=a):H a=none:=by
 cases q:H a with
 | none=>rfl
 | some u=>exact absurd (xX (x.lt q) e) (lt_irrefl _)
def HOk.kept (x:HOk P w H h)(k:∀ b u,h.get? b=some u->h'.get? b=some u):HOk P w H h':=λa o e =>
 (x a o e).stay (λb u _ q=>k b u q) (λ_ q=>q) (λ_ _ q=>q) λ_ _ _ q _=>q
def HOk.laid (x:HOk P w H h)(k:∀ b u,h.get? b=some u->h'.get? b=some u)(f:h.objs.size<=a)(new:zCj P w (upd H a o) h' a o):HOk P w (upd H a o) h':=λb u e=>by
 have d:=x.fresh f;by_cases hb:b=a
 .subst hb;rw[zAd] at e;cases e;exact new
 .rw [zAS hb] at e;exact(x b u e).stay (λc v _ q=>k c v q) (λc q=>by rw[zAS (zAp q d)];exact q) (λc g q=>by rw[zAS (zAp q d)];exact q) λc ob u q _=>by rw[zAS (zAp q d)];exact q
end
def Rd (H:Hp)(a:Addr)(u:HO):Prop:=H a=some u\/∃ o,H a=some (.frz o u)
def Rd.ok (r:Rd H a u)(x:HOk P w H h):zCj P w H h a u:=by
 rcases r with r | ⟨o,r⟩
 .exact x a u r
 .obtain ⟨_,q⟩:=x a _ r;omega
def Mut:Option HO->Prop
 | some (.lst _)=>True
 | some (.dK _)=>True
 | some (.dT _)=>True
 | some (.set _ _)=>True
 | some (.ins _ _ _)=>True
 | some (.ext _)=>True
 | _=>False
section
variable {P:Program}{w:World}{H:Hp}{h h':Heap}{x e:Addr}{o':HO}
def HOk.write (ok:HOk P w H h)(mu:Mut (H x))(l:e=x\/H e=some (.own x))(k:∀ b u,b≠e->h.get? b=some u->h'.get? b=some u)(f:∃ u,h'.get? e=some u)
  (new:zCj P w (upd H x o') h' x o'):HOk P w (upd H x o') h':=λb u q=>by
 have a:∀ c y,H c=some (.own y)->c≠x:=λc y r z=>by subst z;rw[r] at mu;exact mu
 by_cases hb:b=x
 .subst hb;rw[zAd] at q;cases q;exact new
 .rw [zAS hb] at q;by_cases hbe:b=e
  .have i:H b=some (.own x):=by
    grind
   rw[q] at i;cases i;obtain⟨v,j⟩:=f;exact⟨v,by rw[hbe];exact j⟩
  .refine (ok b u q).stay (λc v d r=>k c v ?_ r) (λc r=>by rw[zAS (a c b r)];exact r) (λc g r=>by rw[zAS ((λc g r z=>by subst z;rw[r] at mu;exact mu) c g r)];exact r) λc ob v r _=>by rw[zAS ((λc ob v r z=>by subst z;rw[r] at mu;exact mu) c ob v r)];exact r
   rcases d with rfl | d
   .exact hbe
   .rintro rfl;rcases l with z | z
    .grind
    .rw [d] at z;cases z;exact hb rfl
end
structure Un (fs ex:List Addr)(H H':Hp)(h h':Heap):Prop where
 keep:∀ b o,h.get? b=some o->H b=none->b∉fs->b∉ex->h'.get? b=some o
 slot:∀ b o,h.get? b=some o->H b=none->b∈fs->b∉ex->∃ sl,h'.get? b=some { o with slots:=sl }
 free:∀ b o,h.get? b=some o->H b=none->b∉ex->H' b=none
 there:∀ b o,h.get? b=some o->b∉ex->∃ o',h'.get? b=some o'
 tups:∀ b xs,H b=some (.tup xs)->H' b=some (.tup xs)
 frzs:∀ b o u,H b=some (.frz o u)->H' b=some (.frz o u)
 tbls:∀ b q,H b=some (.tbl q)->H' b=some (.tbl q)
section
variable {fs fs' ex ex':List Addr}{H H1 H2:Hp}{h h1 h2 h':Heap}{a x e:Addr}{o:HO}
def Un.any (u:Un fs ex H H1 h h1)(q:h.get? b=some ob)(n:H b=none)(a:b∉ex):∃ sl,h1.get? b=some { ob with slots:=sl }:=by
 by_cases hb:b∈fs
 .exact u.slot b ob q n hb a
 .exact ⟨ob.slots,u.keep b ob q n hb a⟩
def Un.trans (a:Un fs ex H H1 h h1)(b:Un fs ex H1 H2 h1 h2):Un fs ex H H2 h h2 where
 keep:=λc ob q n g d=>b.keep c ob (a.keep c ob q n g d) (a.free c ob q n d) g d
 slot:=λc ob q n g d=>by
  obtain⟨sl,f⟩:=a.slot c ob q n g d;obtain⟨i,k⟩:=b.slot c _ f (a.free c ob q n d) g d;exact⟨i,k⟩
 free:=λc ob q n d=>by
  obtain⟨j,f⟩:=a.there c ob q d;exact b.free c j f (a.free c ob q n d) d
 there:=λc ob q d=>by
  obtain⟨j,f⟩:=a.there c ob q d;exact b.there c j f d
 tups:=λc e q=>b.tups c e (a.tups c e q)
 frzs:=λc ob e q=>b.frzs c ob e (a.frzs c ob e q)
 tbls:=λc l q=>b.tbls c _ (a.tbls c l q)
def Un.kept (k:∀ b u,h.get? b=some u->h'.get? b=some u):Un fs ex H H h h' :=
 ⟨λb ob q _ _ _=>k b ob q,λb ob q _ _ _=>⟨ob.slots,k b ob q⟩,λ_ _ _ n _=>n,λb ob q _=>⟨ob,k b ob q⟩,λ_ _ q=>q,λ_ _ _ q=>q,λ_ _ q=>q⟩
def Un.refl:Un fs ex H H h h:=Un.kept λ_ _ q=>q
def Un.laid (k:∀ b u,h.get? b=some u->h'.get? b=some u)(e:h.objs.size<=a)(c:H a=none):Un fs ex H (upd H a o) h h' where
 keep:=λb u q _ _ _=>k b u q
 slot:=λb u q _ _ _=>⟨u.slots,k b u q⟩
 free:=λb u q n _=>by rw[zAS (ne_of_lt (xX (lt_size q) e))];exact n
 there:=λb u q _=>⟨u,k b u q⟩
 tups:=λb d q=>by rw[zAS (zAp q c)];exact q
 frzs:=λb u d q=>by rw[zAS (zAp q c)];exact q
 tbls:=λb f q=>by rw[zAS (zAp q c)];exact q
def Un.write (mu:Mut (H x))(j:e=x\/H e=some (.own x))(k:∀ b u,b≠e->h.get? b=some u->h'.get? b=some u)(d:∃ u,h'.get? e=some u):Un fs ex H (upd H x o) h h':=by
 have f:∀ b,H b=none->b≠x:=λb n z=>by subst z;rw[n] at mu;exact mu
 have c:∀ b,H b=none->b≠e:=λb n z=>by
  grind
 have a:∀ b u,H b=some u->¬ Mut (some u)->b≠x:=λb u q nm z=>by subst z;rw[q] at mu;exact nm mu
 refine⟨λb u q n _ _=>k b u (c b n) q,λb u q n _ _=>⟨u.slots,k b u (c b n) q⟩,λb u q n _=>by rw[zAS (f b n)];exact n,λb u q _=>?_,
  λb g q=>by rw[zAS (a b _ q λz=>z)];exact q,λb u g q=>by rw[zAS (a b _ q λz=>z)];exact q,λb i q=>by rw[zAS (a b _ q λz=>z)];exact q⟩
 grind
def Un.mono (u:Un fs ex H H1 h h1)(d:∀ b∈fs,b∈fs')(c:∀ b∈ex,b∈ex'):Un fs' ex' H H1 h h1 :=
 ⟨λb ob q n e a=>u.keep b ob q n (λz=>e (d b z)) λz=>a (c b z),λ_ _ q n _ a=>u.any q n λz=>a (c _ z),λb ob q n a=>u.free b ob q n λz=>a (c b z),λb ob q a=>u.there b ob q λz=>a (c b z),u.tups,u.frzs,u.tbls⟩
end
noncomputable def trk (h:Heap)(H:Hp):List Addr:=(List.range h.objs.size).filter λa=>(H a).isSome
noncomputable def hidT (h:Heap)(H:Hp):Heap:=W.hideAll h (trk h H)
def zMw (e:h.get? b=some o)(n:H b=none):(hidT h H).get? b=some o :=
 W.hideAll_get _ e λhm=>by
  have q:=(mem_filter.mp hm).2;grind
def zPP (e:(hidT h H).get? b=some o):h.get? b=some o/\H b=none:=by
 have a:=W.of_hideAll _ e
 simp_all
 cases q:H b with
 | none=>rfl
 | some x =>
  have z:(hidT h H).get? b=none:=W.hideAll_none _ (mem_filter.mpr ⟨mem_range.mpr (lt_size a),by simp[q]⟩);grind
end L2
namespace L2
open PySem Spec PyProof.Rows
noncomputable def zBt:List Str:=["thinned_covers","Fill.films","Join.films","Group.films"]
noncomputable def lamQ (x:Str):Str:=x ++ ".<locals>." ++ "<lambda>"
noncomputable def zMg:List (Str×Str×Str):=[("Fill.films","Fill","films"),("Join.films","Join","films"),("Group.films","Group","films")]
noncomputable def zRG (K:W.Frag)(f:Addr):Option (Addr×Addr):=match K.lookup f with
 | some ⟨_,_,.func fd,_⟩=>(match fd.code with
  | .ref c=>(match K.lookup c with
   | some ⟨_,_,.fields vs,_⟩=>(match (vs[11]?:Option Value) with
    | some (.ref P)=>some (c,P)
    | _=>none)
   | _=>none)
  | _=>none)
 | _=>none
noncomputable def zF2 (K:W.Frag)(x:Str):Option Addr:=match zMg.lookup x with
 | some (c,m)=>(match W.nsIn K mainGlobals c with
  | some (some (.ref C))=>(match W.findIn K (.ref C) m with
   | some (some (.ref f))=>some f
   | _=>none)
  | _=>none)
 | none=>(match W.nsIn K mainGlobals x with
  | some (some (.ref f))=>some f
  | _=>none)
noncomputable def tabQ (K:W.Frag)(x:Str):Option (Addr×Addr):=(zF2 K x).bind (zRG K)
def zJT {K:W.Frag}(a:tabQ K x=some (c,P))(e:zF2 K x=some f)(b:K.lookup f=some ⟨oc,od,.func fd,sl⟩):fd.code=.ref c:=by
 unfold tabQ at a
 simp_all
 unfold zRG at a;rw[b] at a
 simp_all
 split at a
 .rename_i d g;split at a
  .split at a
   .grind
   .cases a
  .cases a
 .cases a
structure Mod (K:W.Frag)(mg:Str->Option Value)(base:Heap):Prop where
 kin:K.In base
 glob:base.Ns mainGlobals mg
 blt:∃ mb,base.Ns builtinsNs mb/\∀ x:Str,x ≠ "__name__"->mb x=bootBuiltins x
 nolimit:base.NoLimit
 seer:base.NoSeer
 bm:∃ bm ob,mg "__builtins__"=some (.ref bm)/\bm≠builtinsNs/\base.get? bm=some ob/\ob.cls=.type "module"/\ob.dict=some builtinsNs/\ob.data=.plain
 codes:∀ x∈zBt,∀ c P,tabQ K x=some (c,P)->W.CodeHd base c P
def zIc (K:W.Frag)(H:Hp):Prop:=∀ x∈zBt,∀ c P,tabQ K x=some (c,P)->H P=some (.tbl (lamQ x))
structure Cx where
 prog:Program
 w:World
 K:W.Frag
 mg:Str->Option Value
 base:Heap
 A:Around
 N:List Str
 O6:Shared
 Y6:Hp
 env:Env
 outer:List Env
 stack:List Env
 ex:List Addr
 fn:Str->Bool
 calm:Bool
 pn:List (Addr×Obj)
 xe:Value->Shared->Prop
noncomputable def frs (l:List Env):List Addr:=l.filterMap (·.frame)
abbrev Cx.fs (X:Cx):List Addr:=frs X.outer
def Vis (sc:Scope)(x:Str):Prop:=sc.names.lookup x=some .local\/sc.names.lookup x=some .cell\/sc.names.lookup x=some .free
def Loc (sc:Scope)(x:Str):Prop:=sc.names.lookup x=some .local\/sc.names.lookup x=some .cell
def Look (env:Env)(h:Heap)(m:Str->Option Value)(x:Str)(u:Value):Prop :=
 (env.kindOf x=some .local/\m x=some u)\/((env.kindOf x=some .cell\/env.kindOf x=some .free)/\∃ c,env.cells.lookup x=some c/\h.IsCell c (some u))
structure Cx.Ok (X:Cx):Prop where
 mod:Mod X.K X.mg X.base
 kind:X.env.scope.kind=.function
 glob:X.env.globals=mainGlobals
 blt:X.env.builtins=builtinsNs
 above:X.O6.heap.objs.size<=X.env.locals
 inj:∀ x y c,X.env.cells.lookup x=some c->X.env.cells.lookup y=some c->x=y
 has:∀ x,(X.env.kindOf x=some .cell\/X.env.kindOf x=some .free)->∃ c,X.env.cells.lookup x=some c
 cab:∀ x c,X.fn x=true->X.env.cells.lookup x=some c->X.O6.heap.objs.size<=c
 hd:X.calm=true->X.A.handled=none
 frames:X.A.frames=some X.stack
 stk:X.stack=X.outer\/(X.stack=X.env::X.outer/\X.env.frame=some X.env.locals)
 exf:∀ b∈X.ex,b≠X.env.locals/\∀ x c,X.env.cells.lookup x=some c->c≠b
 bs:∀ b o,X.base.get? b=some o->X.O6.heap.get? b=some o/\X.Y6 b=none
 bsz:X.base.objs.size<=X.O6.heap.objs.size
 noex:∀ b o,X.base.get? b=some o->b∉X.ex
 exfs:∀ b∈X.ex,b∉X.fs
 funs:X.O6.heap.FunFrames X.base X.outer
 frf:∀ b∈X.fs,X.Y6 b=none
 pyl:X.A.depth+Builtin.pylongFrames < recursionLimit/\(model X.prog X.w).prog.given.tree=none/\∃ e l,X.stack=e::l/\e.scope.isGenerator=false/\e.scope.isCoroutine=false/\e.builtins=builtinsNs/\e.globals=mainGlobals
 tabs:zIc X.K X.Y6
structure Inv (X:Cx)(pins:List (Addr×Obj))(B:List (Option V))(H:Hp)(s:Shared):Prop where
 ok:X.Ok
 os:s.os=X.O6.os
 bare:AllBare s.gens
 base:Un X.fs X.ex X.Y6 H X.O6.heap s.heap
 loc:∃ m,s.heap.Ns X.env.locals m/\∀ (i:Nat) (x:Str) (v:V),X.N[i]?=some x->B[i]?=some (some v)->Vis X.env.scope x->∃ u,RelV v u/\Look X.env s.heap m x u
 cell:∀ x c,X.env.cells.lookup x=some c->∃ v,s.heap.IsCell c v
 free:H X.env.locals=none
 freeC:∀ x c,X.env.cells.lookup x=some c->H c=none
 pin:∀ p∈X.pn++pins,s.heap.get? p.1=some p.2/\H p.1=none/\p.1≠X.env.locals/\p.1∉X.fs/\∀ v,p.2.data≠.cell v
 hok:HOk X.prog X.w H s.heap
 len:B.length=X.N.length
section
variable {X:Cx}{pins:List (Addr×Obj)}{B:List (Option V)}{H H':Hp}{s:Shared}{h':Heap}
def Cx.Ok.nofr (ok:X.Ok)(e:X.base.get? b=some o):b∉X.fs:=λhb=>by
 have:=(ok.funs.mem hb).1;grind
def Inv.bs (I:Inv X pins B H s):∀ b o,X.base.get? b=some o->s.heap.get? b=some o/\H b=none:=λb o e =>
 ⟨I.base.keep b o (I.ok.bs b o e).1 (I.ok.bs b o e).2 (I.ok.nofr e) (I.ok.noex b o e),I.base.free b o (I.ok.bs b o e).1 (I.ok.bs b o e).2 (I.ok.noex b o e)⟩
def Inv.bk (I:Inv X pins B H s):∀ b o,X.base.get? b=some o->s.heap.get? b=some o:=λb o e=>(I.bs b o e).1
def Inv.mod (I:Inv X pins B H s):Mod X.K X.mg X.base:=I.ok.mod
def Inv.kIn (I:Inv X pins B H s):X.K.In s.heap:=I.ok.mod.kin.keeps I.bk
def Inv.nolimit (I:Inv X pins B H s):s.heap.NoLimit:=I.ok.mod.nolimit.keeps I.bk
def Inv.lt (I:Inv X pins B H s):X.env.locals < s.heap.objs.size:=let ⟨_,hn,_⟩:=I.loc;hn.lt
def Inv.sz (I:Inv X pins B H s):X.O6.heap.objs.size<=s.heap.objs.size:=le_trans I.ok.above (Nat.le_of_lt I.lt)
def Inv.nofs (I:Inv X pins B H s){a:Addr}(h:s.heap.objs.size<=a):a∉X.fs:=λhb=>by
 obtain⟨_,o,b,_⟩:=I.ok.funs.mem hb;exact absurd (xX (lt_size b) (le_trans I.sz h)) (lt_irrefl _)
def Inv.cne (I:Inv X pins B H s):∀ x c,X.env.cells.lookup x=some c->c≠X.env.locals:=λx c e z=>by
 obtain⟨v,o,d,h⟩:=I.cell x c e;obtain⟨m,⟨f,es,g,a,b,_⟩,_⟩:=I.loc;grind
def Inv.funs (I:Inv X pins B H s):s.heap.FunFrames X.base X.outer:=by
 have all:∀ (l:List Env),(∀ b∈frs l,b∈X.fs)->X.O6.heap.FunFrames X.base l->s.heap.FunFrames X.base l:=by
  intro l
  induction l with
  | nil=>intro _ _;trivial
  | cons n r j =>
   intro f m;obtain⟨g,⟨L,o,a,h,i,k⟩,hr⟩:=m;have c:L∈X.fs:=f L (by unfold frs;rw[List.filterMap_cons,a];exact q9);obtain⟨sl,e⟩:=I.base.slot L o i (I.ok.frf L c) c λz=>I.ok.exfs L z c
   exact⟨g,⟨L,_,a,h,e,k⟩,j (λb d=>f b (by unfold frs;rw[List.filterMap_cons,a];exact qJ _ d)) hr⟩
 exact all X.outer (λ_ d=>d) I.ok.funs
def Inv.stack (I:Inv X pins B H s):s.heap.FunFrames X.base X.stack:=by
 rcases I.ok.stk with e | ⟨e,hf⟩
 .rw [e];exact I.funs
 .rw [e];obtain⟨m,a,_⟩:=I.loc;refine .cons (by rw[I.ok.kind];decide) hf a ?_ I.funs;exact Heap.get?_none_of_le (le_trans I.ok.bsz I.ok.above)
def Inv.stkSub (I:Inv X pins B H s):∀ b∈frs X.stack,b∈X.env.locals::X.fs:=λb a=>by
 rcases I.ok.stk with e | ⟨e,hf⟩
 .simp_all
 .rw [e] at a;unfold frs at a;rw[List.filterMap_cons,hf] at a;exact a
def Inv.stkFree (I:Inv X pins B H s):∀ b∈frs X.stack,H b=none:=λb a=>by
 rcases mem_cons.mp (I.stkSub b a) with e | a
 .rw [e];exact I.free
 .obtain ⟨_,o,c,_⟩:=I.ok.funs.mem a;exact I.base.free b o c (I.ok.frf b a) λz=>I.ok.exfs b z a
def Inv.step {ch:List Addr}(I:Inv X pins B H s)
  (f:∀ b∈ch,(b∈X.ex\/X.O6.heap.objs.size<=b)/\b≠X.env.locals/\(∀ x c,X.env.cells.lookup x=some c->c≠b)/\∀ p∈X.pn++pins,p.1≠b)
  (keep:∀ b o,b≠X.env.locals->b∉X.fs->b∉ch->s.heap.get? b=some o->H b=none->h'.get? b=some o)
  (t:∀ b o,b≠X.env.locals->b∈X.fs->b∉ch->s.heap.get? b=some o->H b=none->∃ sl,h'.get? b=some { o with slots:=sl }) (free:∀ b o,b∉ch->s.heap.get? b=some o->H b=none->H' b=none)
  (A:∀ b o,b∉ch->s.heap.get? b=some o->∃ o',h'.get? b=some o')
  (F:∀ b xs,H b=some (.tup xs)->H' b=some (.tup xs)) (E:∀ b o u,H b=some (.frz o u)->H' b=some (.frz o u)) (D:∀ b q,H b=some (.tbl q)->H' b=some (.tbl q))
  (ns:∀ m,s.heap.Ns X.env.locals m->h'.Ns X.env.locals m) (K:HOk X.prog X.w H' h') (V:AllBare g') :
  Inv X pins B H' { s with heap:=h',gens:=g',drawn:=d',toks:=t' }:=by
 have G:∀ b o,X.O6.heap.get? b=some o->b≠X.env.locals:=λb o e=>ne_of_lt (xX (lt_size e) I.ok.above)
 have j:∀ b o,X.O6.heap.get? b=some o->b∉X.ex->b∉ch:=λb o e a w=>by
  rcases(f b w).1 with z | z
  .exact a z
  .exact absurd (xX (lt_size e) z) (lt_irrefl _)
 have g:∀ x c,X.env.cells.lookup x=some c->∀ v,s.heap.IsCell c v->h'.IsCell c v:=λx c e v J=>by
  obtain⟨o,C,M⟩:=J;have h:c∉ch:=λz=>(f c z).2.2.1 x c e rfl
  by_cases hc:c∈X.fs
  .obtain ⟨sl,q⟩:=t c o (I.cne x c e) hc h C (I.freeC x c e);exact⟨_,q,M⟩
  .exact ⟨o,keep c o (I.cne x c e) hc h C (I.freeC x c e),M⟩
 refine⟨I.ok,I.os,V,⟨λb o e n w a=>?_,λb o e n w a=>?_,λb o e n a=>?_,λb o e a=>?_,λb xs e=>F b xs (I.base.tups b xs e),λb o xs e=>E b o xs (I.base.frzs b o xs e),λb U e=>?_⟩,?_,λx c e=>?_,?_,λx c e=>?_,λp Q=>?_,K,I.len⟩
 .exact keep b o (G b o e) w (j b o e a) (I.base.keep b o e n w a) (I.base.free b o e n a)
 .obtain ⟨sl,y⟩:=I.base.slot b o e n w a;obtain⟨N,L⟩:=t b _ (G b o e) w (j b o e a) y (I.base.free b o e n a);exact⟨N,L⟩
 .obtain ⟨o',y⟩:=I.base.there b o e a;exact free b o' (j b o e a) y (I.base.free b o e n a)
 .obtain ⟨o',y⟩:=I.base.there b o e a;exact A b o' (j b o e a) y
 .exact D b _ (I.base.tbls b U e)
 .obtain ⟨m,T,R⟩:=I.loc;refine⟨m,ns m T,λi x v y L S=>?_⟩;obtain⟨u,r,l⟩:=R i x v y L S;refine⟨u,r,?_⟩;rcases l with l | ⟨k,c,e,z⟩
  .exact .inl l
  .exact .inr ⟨k,c,e,g x c e _ z⟩
 .obtain ⟨v,z⟩:=I.cell x c e;exact⟨v,g x c e v z⟩
 .obtain ⟨m,⟨o,_,_,C,_⟩,_⟩:=I.loc;exact free _ o (λz=>(f _ z).2.1 rfl) C I.free
 .obtain ⟨v,o,C,M⟩:=I.cell x c e;exact free c o (λz=>(f c z).2.2.1 x c e rfl) C (I.freeC x c e)
 .obtain ⟨e,n,P,O,d⟩:=I.pin p Q;have h:p.1∉ch:=λz=>(f p.1 z).2.2.2 p Q rfl
  exact⟨keep p.1 p.2 P O h e n,free p.1 p.2 h e n,P,O,d⟩
def Inv.un (I:Inv X pins B H s)(u:Un X.fs [] H H' s.heap h')(g:HOk X.prog X.w H' h'):Inv X pins B H' { s with heap:=h',toks:=t' }:=by
 obtain⟨m,⟨o,es,l,h,r⟩,_⟩:=id I.loc;obtain⟨sl,j⟩:=u.any h I.free (by simp);exact I.step (ch:=[]) (λ_ z=>nomatch z) (λb o _ f _ e n=>u.keep b o e n f (by simp)) (λb o _ f _ e n=>u.slot b o e n f (by simp)) (λb o _ e n=>u.free b o e n (by simp)) (λb o _ e=>u.there b o e (by simp)) u.tups u.frzs u.tbls (λm' i=>by
  obtain⟨p,c,d,a,k⟩:=i;rw[h] at a;cases a;exact⟨_,c,d,j,k⟩) g I.bare
def Inv.call (I:Inv X pins B H s)(u:Un (frs X.stack) ch H H' s.heap h')(j:HOk X.prog X.w H' h')(v:AllBare g')
  (f:∀ b∈ch,(b∈X.ex\/X.O6.heap.objs.size<=b)/\b≠X.env.locals/\(∀ x c,X.env.cells.lookup x=some c->c≠b)/\∀ p∈X.pn++pins,p.1≠b) :
  Inv X pins B H' { s with heap:=h',gens:=g',drawn:=d',toks:=t' }:=by
 obtain⟨m,⟨o,es,y,k,r⟩,_⟩:=id I.loc;obtain⟨sl,h⟩:=u.any k I.free λz=>(f _ z).2.1 rfl
 exact I.step f (λb o h q a e n=>u.keep b o e n (λz=>(mem_cons.mp (I.stkSub b z)).elim h q) a) (λb o _ _ a e n=>u.any e n a) (λb o a e n=>u.free b o e n a) (λb o a e=>u.there b o e a) u.tups u.frzs u.tbls (λm' t=>by
  obtain⟨w,g,i,d,l⟩:=t;rw[k] at d;cases d;exact⟨_,g,i,h,l⟩) j v
def Inv.turned (I:Inv X pins B H s)(k:∀ b o,b≠it->s.heap.get? b=some o->h'.get? b=some o)(j:H it=none)(d:it≠X.env.locals)
  (h1:it∈X.ex\/X.O6.heap.objs.size<=it) (h2:∀ x c,X.env.cells.lookup x=some c->c≠it) (h3:∀ p∈X.pn++pins,p.1≠it):Inv X pins B H { s with heap:=h',toks:=t' }:=by
 refine I.step (ch:=[it]) (λb i=>?_) (λb o _ _ a e _=>k b o (λz=>a (by grind)) e) (λb o _ _ a e _=>⟨o.slots,k b o (λz=>a (by simp[z])) e⟩) (λ_ _ _ _ n=>n)
  (λb o a e=>⟨o,k b o (λz=>a (by simp[z])) e⟩) (λ_ _ e=>e) (λ_ _ _ e=>e) (λ_ _ e=>e) (λm g=>?_) (λb u e=>?_) I.bare
 .have e:b=it:=by simpa using i
  subst e;exact⟨h1,d,h2,h3⟩
 .obtain ⟨o,es,h,f,r⟩:=g;exact⟨o,es,h,k _ o (Ne.symm d) f,r⟩
 .refine (I.hok b u e).stay (λc v a q=>k c v ?_ q) (λ_ q=>q) (λ_ _ q=>q) λ_ _ _ q _=>q
  grind
def Inv.tabs (I:Inv X pins B H s):zIc X.K H:=λx a c P e=>I.base.tbls _ _ (I.ok.tabs x a c P e)
def Inv.tok (I:Inv X pins B H s)(t:Nat):Inv X pins B H { s with toks:=t }:=I.un Un.refl I.hok
def Inv.kept (I:Inv X pins B H s)(k:∀ b u,s.heap.get? b=some u->h'.get? b=some u):Inv X pins B H { s with heap:=h',toks:=t' }:=I.un (Un.kept k) (I.hok.kept k)
def Inv.laid {a:Addr}{o:HO}{t':Nat}(I:Inv X pins B H s)(k:∀ b u,s.heap.get? b=some u->h'.get? b=some u)(c:s.heap.objs.size<=a)(new:zCj X.prog X.w (upd H a o) h' a o) :
  Inv X pins B (upd H a o) { s with heap:=h',toks:=t' }:=I.un (Un.laid k c (I.hok.fresh c)) (I.hok.laid k c new)
def Inv.write (I:Inv X pins B H s)(mu:Mut (H x))(c:e=x\/H e=some (.own x))(k:∀ b u,b≠e->s.heap.get? b=some u->h'.get? b=some u)(a:∃ u,h'.get? e=some u)
  (new:zCj X.prog X.w (upd H x o) h' x o):Inv X pins B (upd H x o) { s with heap:=h',toks:=t' }:=I.un (Un.write mu c k a) (I.hok.write mu c k a new)
def Inv.pins_of (I:Inv X pins B H s)(h:∀ p∈pins',s.heap.get? p.1=some p.2/\H p.1=none/\p.1≠X.env.locals/\p.1∉X.fs/\∀ v,p.2.data≠.cell v):Inv X pins' B H s :=
 ⟨I.ok,I.os,I.bare,I.base,I.loc,I.cell,I.free,I.freeC,λp a=>(mem_append.mp a).elim (λz=>I.pin p (List.mem_append_left _ z)) (h p),I.hok,I.len⟩
def zH5 {N:List Str}(e:N.Nodup){j:Nat}{x:Str}(a:N[i]?=some x)(b:N[j]?=some x):i=j:=by
 obtain⟨h1,c⟩:=zzg a;obtain⟨h2,d⟩:=zzg b;exact(List.getElem_inj e).mp (c.trans d.symm)
def zJY (I:Inv X pins B H s)(hN:X.N.Nodup)(J:X.N[i]?=some x)(w:Loc X.env.scope x)(r:RelV v u)
  (h:∀ s',Inv X pins (B.set i (some v)) H s'->(∃ a,Heap.SameBut a s.heap s'.heap/\(a=X.env.locals\/X.env.cells.lookup x=some a))->Q () s') (hf:X.fn x=true\/X.env.scope.names.lookup x=some .local:=by walk_at "i"):wpAny M A (storeName X.env x u) Q E s:=by
 obtain⟨m,hn,hl⟩:=id I.loc;have O:i < B.length:=by rw[I.len];exact(zzg J).1
 have cne:=I.cne;have l:∀ {a:Addr} {h':Heap},(∃ o,s.heap.get? a=some o/\H a=none)->Heap.SameBut a s.heap h'->HOk X.prog X.w H h':=λ{a h'} ha f b ob e=>by
  obtain⟨_,_,C⟩:=ha;refine(I.hok b ob e).stay (λc R t q=>(f.2 c ?_).trans q) (λ_ q=>q) (λ_ _ q=>q) λ_ _ _ q _=>q
  rintro rfl;rcases t with rfl | t
  .rw [C] at e;cases e
  .rw [C] at t;cases t
 rcases w with hk | hk
 .refine wpAny_storeName_local hk hn (λh' U f=>?_) (by rw[I.ok.kind];rfl);obtain⟨oL,_,_,a3,_⟩:=id hn;refine h _ ⟨I.ok,I.os,I.bare,⟨λb o e n F w=>?_,λb o e n F w=>?_,I.base.free,λb o e w=>?_,I.base.tups,I.base.frzs,I.base.tbls⟩,⟨_,U,λj y V g D e3=>?_⟩,λy c e=>?_,I.free,I.freeC,λp Y=>?_,l ⟨oL,a3,I.free⟩ f,by simpa using I.len⟩ ⟨_,f,.inl rfl⟩
  .exact (f.2 b (ne_of_lt (xX (lt_size e) I.ok.above))).trans (I.base.keep b o e n F w)
  .obtain ⟨sl,g⟩:=I.base.slot b o e n F w;exact⟨sl,(f.2 b (ne_of_lt (xX (lt_size e) I.ok.above))).trans g⟩
  .obtain ⟨o',g⟩:=I.base.there b o e w;exact⟨o',(f.2 b (ne_of_lt (xX (lt_size e) I.ok.above))).trans g⟩
  .by_cases hj:j=i
   .subst hj;rw[J] at g;cases g;rw[getElem?_set_self O] at D;cases D;exact⟨u,r,.inl ⟨hk,by simp⟩⟩
   .rw [getElem?_set_ne (Ne.symm hj)] at D;obtain⟨W,Z,q⟩:=hl j y V g D e3;refine⟨W,Z,?_⟩;rcases q with ⟨k,e⟩ | ⟨k,c,e,z⟩
    .refine .inl ⟨k,?_⟩;have:y≠x:=λe=>hj (zH5 hN g (e▸J))
     simp[this,e]
    .exact .inr ⟨k,c,e,z.sameBut f (cne y c e)⟩
  .obtain ⟨R,z⟩:=I.cell y c e;exact⟨R,z.sameBut f (cne y c e)⟩
  .obtain ⟨e,n,T,nf,d⟩:=I.pin p Y;exact⟨(f.2 p.1 T).trans e,n,T,nf,d⟩
 .have G:X.fn x=true:=by
   rcases hf with z | z
   .exact z
   .rw [z] at hk;cases hk
  obtain⟨c,t⟩:=I.ok.has x (.inl hk);obtain⟨R,z⟩:=I.cell x c t;refine wpAny_storeName_cell I.ok.kind hk t z (λh' K f=>?_);obtain⟨oc,L,N⟩:=id z;refine h { s with heap:=h' } ⟨I.ok,I.os,I.bare,⟨λb o e n F w=>?_,λb o e n F w=>?_,I.base.free,λb o e w=>?_,I.base.tups,I.base.frzs,I.base.tbls⟩,⟨m,hn.sameBut f (Ne.symm (cne x c t)),λj y V g D e3=>?_⟩,λy P e=>?_,I.free,I.freeC,λp Y=>?_,l ⟨oc,L,I.freeC x c t⟩ f,by simpa using I.len⟩ ⟨c,f,.inr t⟩
  .exact (f.2 b (ne_of_lt (xX (lt_size e) (I.ok.cab x c G t)))).trans (I.base.keep b o e n F w)
  .obtain ⟨sl,g⟩:=I.base.slot b o e n F w;exact⟨sl,(f.2 b (ne_of_lt (xX (lt_size e) (I.ok.cab x c G t)))).trans g⟩
  .obtain ⟨o',g⟩:=I.base.there b o e w;exact⟨o',(f.2 b (ne_of_lt (xX (lt_size e) (I.ok.cab x c G t)))).trans g⟩
  .by_cases hj:j=i
   .subst hj;rw[J] at g;cases g;rw[getElem?_set_self O] at D;cases D;exact⟨u,r,.inr ⟨.inl hk,c,t,K⟩⟩
   .rw [getElem?_set_ne (Ne.symm hj)] at D;obtain⟨W,Z,q⟩:=hl j y V g D e3;refine⟨W,Z,?_⟩;rcases q with q | ⟨k,P,e,z'⟩
    .exact .inl q
    .refine .inr ⟨k,P,e,z'.sameBut f ?_⟩;rintro rfl;exact hj (zH5 hN g (I.ok.inj _ _ _ e t▸J))
  .by_cases hcc:P=c
   .subst hcc;exact⟨_,K⟩
   .obtain ⟨w2,z2⟩:=I.cell y P e;exact⟨w2,z2.sameBut f hcc⟩
  .obtain ⟨e,n,T,nf,d⟩:=I.pin p Y;refine⟨(f.2 p.1 ?_).trans e,n,T,nf,d⟩;intro q;rw[q,L] at e;have q':oc=p.2:=xQ e;exact d R (by rw[<- q'];exact N)
def zFW (I:Inv X pins B H s)(d:X.N.Nodup)(c:X.N[i]?=some x)(e:Loc X.env.scope x)(r:RelV v u)
  (h:∀ s',Inv X pins (B.set i (some v)) H s'->Q () s') (a:X.fn x=true\/X.env.scope.names.lookup x=some .local:=by walk_at "i"):wpAny M A (storeName X.env x u) Q E s :=
 zJY I d c e r (λs' b _=>h s' b) a
def Inv.call' (I:Inv X pins B H s)(e:s'.os=s.os)(u:Un (frs X.stack) ch H H' s.heap s'.heap)(a:HOk X.prog X.w H' s'.heap)(f:AllBare s'.gens)
  (d:∀ b∈ch,(b∈X.ex\/X.O6.heap.objs.size<=b)/\b≠X.env.locals/\(∀ x c,X.env.cells.lookup x=some c->c≠b)/\∀ p∈X.pn++pins,p.1≠b):Inv X pins B H' s':=by
 obtain⟨j,i,h,g,k⟩:=s';subst e;exact I.call u a f d
end
abbrev XK:=Value->Option Addr->Hp->Prop
abbrev St:=List (Option V)
abbrev VK:=V->Hp->Prop
abbrev TE:=St->Hp->VK->Prop
abbrev TT:=St->Hp->(Bool->Hp->Prop)->Prop
abbrev TA:=St->Hp->(List V->Hp->Prop)->Prop
structure Ends where
 nx:St->Hp->Prop
 rt:VK
 bk:St->Hp->Prop:=λ_ _=>False
 ct:St->Hp->Prop:=λ_ _=>False
abbrev TS:=Ends->St->Hp->Prop
def EP (X:Cx)(pins:List (Addr×Obj))(B:St)(Q:VK)(u:Value)(s':Shared):Prop:=∃ v H',Inv X pins B H' s'/\RelV v u/\Q v H'
def TP (X:Cx)(pins:List (Addr×Obj))(B:St)(Q:Bool->Hp->Prop)(b:Bool)(s':Shared):Prop:=∃ H',Inv X pins B H' s'/\Q b H'
def AP (X:Cx)(pins:List (Addr×Obj))(B:St)(Q:List V->Hp->Prop)(us:List Value)(s':Shared):Prop:=∃ vs H',Inv X pins B H' s'/\Vals vs us/\Q vs H'
def SP (X:Cx)(pins:List (Addr×Obj))(D:Ends)(f:Flow)(s':Shared):Prop :=
 match f with
 | .next=>∃ B' H',Inv X pins B' H' s'/\D.nx B' H'
 | .brk=>∃ B' H',Inv X pins B' H' s'/\D.bk B' H'
 | .cont=>∃ B' H',Inv X pins B' H' s'/\D.ct B' H'
 | .ret u=>∃ v B' H',Inv X pins B' H' s'/\RelV v u/\D.rt v H'
def PE (X:Cx)(e:Expr)(t:TE):Prop :=
 ∀ (pins:List (Addr×Obj)) (s:Shared) (B:St) (H:Hp) (Q:VK),Inv X pins B H s->t B H Q->wpAny (model X.prog X.w) X.A (eval e X.env) (EP X pins B Q) X.xe s
def PT (X:Cx)(e:Expr)(t:TT):Prop :=
 ∀ (pins:List (Addr×Obj)) (s:Shared) (B:St) (H:Hp) (Q:Bool->Hp->Prop),Inv X pins B H s->t B H Q->wpAny (model X.prog X.w) X.A (isTrue e X.env (eval e X.env)) (TP X pins B Q) X.xe s
def PW (X:Cx)(e:Expr)(t:TT):Prop :=
 ∀ (whole:Sem Value) (pins:List (Addr×Obj)) (s:Shared) (B:St) (H:Hp) (Q:Bool->Hp->Prop),Inv X pins B H s->t B H Q->wpAny (model X.prog X.w) X.A (isTrue e X.env whole) (TP X pins B Q) X.xe s
def PW.pt (h:PW X e t):PT X e t:=h _
def PA (X:Cx)(es:List Expr)(t:TA):Prop :=
 ∀ (pos:Pos) (pins:List (Addr×Obj)) (s:Shared) (B:St) (H:Hp) (Q:List V->Hp->Prop),Inv X pins B H s->t B H Q->wpAny (model X.prog X.w) X.A (spliced (backTo pos (starEach es X.env))) (AP X pins B Q) X.xe s
def PS (X:Cx)(st:Stmt)(t:TS):Prop :=
 ∀ (pins:List (Addr×Obj)) (s:Shared) (B:St) (H:Hp) (D:Ends),Inv X pins B H s->t D B H->wpAny (model X.prog X.w) X.A (exec st X.env) (SP X pins D) X.xe s
def PSs (X:Cx)(st:List Stmt)(t:TS):Prop :=
 ∀ (pins:List (Addr×Obj)) (s:Shared) (B:St) (H:Hp) (D:Ends),Inv X pins B H s->t D B H->wpAny (model X.prog X.w) X.A (execs st X.env) (SP X pins D) X.xe s
def thn {T:Type}{t:Sem T}{Q b:T->Shared->Prop}{M:Model}{A:Around}{E:Value->Shared->Prop}{s:Shared}(h:wpAny M A t Q E s)(c:∀ a s,Q a s->b a s):wpAny M A t b E s:=wpAny_mono h c λ_ _ x=>x
section
variable {X:Cx}
def bin {a b:Expr}{g tb:TE}(l:PE X a g)(i:PE X b tb){c:List (Addr×Obj)}{s:Shared}{B:St}{H:Hp}{R:V->V->Hp->Prop}(I:Inv X c B H s)(h:g B H λx H1=>tb B H1 λy H2=>R x y H2)
  {T:Type} {Q:T->Shared->Prop} {f:Value->Value->Sem T}
  (m:∀ v u s2 x y H2,Inv X c B H2 s2->RelV x v->RelV y u->R x y H2->wpAny (model X.prog X.w) X.A (f v u) Q X.xe s2) :
  wpAny (model X.prog X.w) X.A (eval a X.env) (λv O2=>wpAny (model X.prog X.w) X.A (eval b X.env) (λu Y1=>wpAny (model X.prog X.w) X.A (f v u) Q X.xe Y1) X.xe O2) X.xe s:=by
 refine thn (l c s B H _ I h) λv k e=>?_
 obtain⟨x,H1,j,r1,n⟩:=e;refine thn (i c k B H1 _ j n) λu s2 d=>?_
 obtain⟨y,H2,o,r2,p⟩:=d;exact m v u s2 x y H2 o r1 r2 p
def tVar (i:Nat):TE:=λB H Q=>∃ v,B[i]?=some (some v)/\Q v H
def tC (v:V):TE:=λ_ H Q=>Q v H
def zDK {i:Nat}{x:Str}{pos:Pos}(j:X.N[i]?=some x)(p:Vis X.env.scope x)(g:(x==("__debug__":Str))=false:=by decide)(f:(x==("__classdict__":Str))=false:=by decide):PE X (.Name x pos) (tVar i):=by
 intro d s B H Q I h;obtain⟨v,e,h⟩:=h;obtain⟨m,o,n⟩:=I.loc;obtain⟨u,r,l⟩:=n i x v j e p;have b:EP X d B Q u s:=⟨v,H,I,r,h⟩;rcases l with ⟨a,k⟩ | ⟨a,c,hc,hcell⟩
 .exact wpAny_Name (wpAny_loadName_local I.ok.kind a o k b) g
 .rcases a with a | a
  .exact wpAny_Name (wpAny_loadName_cell I.ok.kind a hc hcell b) g
  .exact wpAny_Name (wpAny_loadName_free I.ok.kind a hc hcell b f) g
def Gl (X:Cx)(x:Str):Prop:=X.env.kindOf x=some .globalImplicit
def zET {E:Value->Shared->Prop}{a:List (Addr×Obj)}{s:Shared}{B:St}{H:Hp}{x:Str}{u:Value}{pos:Pos}{Q:Value->Shared->Prop}(I:Inv X a B H s)(d:Gl X x)(b:X.mg x=some u)(h:Q u s)
  (c:(x==("__debug__":Str))=false:=by decide):wpAny (model X.prog X.w) X.A (eval (.Name x pos) X.env) Q E s :=
 Calls.Name_function_global I.ok.kind d (Calls.loadGlobal_global (by rw[I.ok.glob];exact I.mod.glob.keeps I.bk) b h) c
def zCy {E:Value->Shared->Prop}{a:List (Addr×Obj)}{s:Shared}{B:St}{H:Hp}{x:Str}{u:Value}{pos:Pos}{Q:Value->Shared->Prop}(I:Inv X a B H s)(c:Gl X x)(d:X.mg x=none)(e:bootBuiltins x=some u)(h:Q u s)
  (b:x ≠ "__name__":=by decide) (f:(x==("__debug__":Str))=false:=by decide):wpAny (model X.prog X.w) X.A (eval (.Name x pos) X.env) Q E s:=by
 obtain⟨g,h1,h2⟩:=I.mod.blt;exact Calls.Name_function_global I.ok.kind c (Calls.loadGlobal_builtin (by rw[I.ok.glob];exact I.mod.glob.keeps I.bk) d (by rw[I.ok.blt];exact h1.keeps I.bk) ((h2 x b).trans e) h) f
def zO7 (b:Gl X x)(a:X.mg x=some u)(r:RelV v u)(c:(x==("__debug__":Str))=false:=by decide):PE X (.Name x pos) (tC v) :=
 λ_ _ _ H _ I h=>zET I b a ⟨v,H,I,r,h⟩ c
def zPA {x:Str}{v:V}{u:Value}{pos:Pos}(d:Gl X x)(e:X.mg x=none)(a:bootBuiltins x=some u)(r:RelV v u)(c:x ≠ "__name__":=by decide)(b:(x==("__debug__":Str))=false:=by decide):PE X (.Name x pos) (tC v) :=
 λ_ _ _ H _ I h=>zCy I d e a ⟨v,H,I,r,h⟩ c b
variable {a b:Expr}{ta tb:TE}{pos:Pos}
def tB (t:TE):TT:=λB H Q=>t B H λx H1=>∃ c,x=.bl c/\Q c H1
def zN3 (h:PE X e t)(i:∀ whole,isTrue e X.env whole=(do let v<-whole;standAt e.pos;holding [v] (truthy v)):=by intro _;rfl):PT X e (tB t):=by
 intro a s B H Q I j;refine isTrue_plain (thn (h a s B H _ I j) λv k b=>?_) (i _);obtain⟨x,f,c,r1,g⟩:=b;obtain⟨d,rfl,q⟩:=g;cases r1;exact wpAny_truthy_bool ⟨f,c,q⟩
variable {tA tB':TT}{rest:List Expr}
def tAnd (t u:TT):TT:=λB H Q=>t B H λc H1=>if c=true then u B H1 Q else Q false H1
def tOr (t u:TT):TT:=λB H Q=>t B H λc H1=>if c=true then Q true H1 else u B H1 Q
def tNot (t:TT):TT:=λB H Q=>t B H λc H1=>Q (!c) H1
def zJu (d:PT X a tA):PW X (.BoolOp .And [a] pos) tA:=by
 intro f b s B H Q I h;refine isTrue_and (thn (d b s B H Q I h) λc g e=>?_);cases c with
 | true=>exact isTrue_and_nil e
 | false=>exact e
def zN1 (d:PT X a tA):PW X (.BoolOp .Or [a] pos) tA:=by
 intro g b s B H Q I h;refine isTrue_or (thn (d b s B H Q I h) λc f e=>?_);cases c with
 | false=>exact isTrue_or_nil e
 | true=>exact e
def zN2 (j:PT X a tA)(l:PW X (.BoolOp .And (b::rest) pos) tB'):PW X (.BoolOp .And (a::b::rest) pos) (tAnd tA tB'):=by
 intro m d s B H Q I h;refine isTrue_and (thn (j d s B H _ I h) λc k e=>?_);obtain⟨f,g,i⟩:=e;cases c with
 | true=>exact l m d k B f Q g i
 | false=>exact⟨f,g,i⟩
def zRf (j:PT X a tA)(k:PW X (.BoolOp .Or (b::rest) pos) tB'):PW X (.BoolOp .Or (a::b::rest) pos) (tOr tA tB'):=by
 intro l d s B H Q I h;refine isTrue_or (thn (j d s B H _ I h) λc m e=>?_);obtain⟨i,g,f⟩:=e;cases c with
 | true=>exact⟨i,g,f⟩
 | false=>exact k l d m B i Q g f
def zN4 (c:PT X a tA):PT X (.UnaryOp .Not a pos) (tNot tA):=by
 intro b s B H Q I h;exact isTrue_not (c b s B H _ I h)
def zUA (ta tb:TE):TE:=λB H Q=>ta B H λx H1=>∃ c,x=.bl c/\if c=true then tb B H1 Q else Q (.bl false) H1
def tOrV (ta tb:TE):TE:=λB H Q=>ta B H λx H1=>∃ c,x=.bl c/\if c=true then Q (.bl true) H1 else tb B H1 Q
def zT7 (ta:TE):TE:=λB H Q=>ta B H λx H1=>∃ c,x=.bl c/\Q (.bl (!c)) H1
def zRr (j:PE X a ta)(l:PE X (.BoolOp .And (b::rest) pos) tb):PE X (.BoolOp .And (a::b::rest) pos) (zUA ta tb):=by
 intro d s B H Q I h;refine BoolOp_and (thn (j d s B H _ I h) λv k f=>?_);obtain⟨x,i,g,r1,e⟩:=f;obtain⟨c,rfl,e⟩:=e;cases r1;refine wpAny_truthy_bool ?_;cases c with
 | true=>exact l d k B i Q g e
 | false=>exact⟨.bl false,i,g,rfl,e⟩
def zUF (l:PE X a ta)(k:PE X (.BoolOp .Or (b::rest) pos) tb):PE X (.BoolOp .Or (a::b::rest) pos) (tOrV ta tb):=by
 intro d s B H Q I h;refine BoolOp_or (thn (l d s B H _ I h) λv j f=>?_);obtain⟨x,i,g,r1,e⟩:=f;obtain⟨c,rfl,e⟩:=e;cases r1;refine wpAny_truthy_bool ?_;cases c with
 | false=>exact k d j B i Q g e
 | true=>exact⟨.bl true,i,g,rfl,e⟩
def zRn (f:PE X a ta):PE X (.UnaryOp .Not a pos) (zT7 ta):=by
 intro b s B H Q I h;refine UnaryOp_ (thn (f b s B H _ I h) λv j d=>?_);obtain⟨x,i,g,r1,e⟩:=d;obtain⟨c,rfl,e⟩:=e;cases r1;exact not_of (wpAny_truthy_bool ⟨.bl _,i,g,rfl,e⟩)
def tIf (t:TT)(ta tb:TE):TE:=λB H Q=>t B H λc H1=>if c=true then ta B H1 Q else tb B H1 Q
def zMT (l:PT X c tA)(m:PE X a ta)(n:PE X b tb):PE X (.IfExp c a b pos) (tIf tA ta tb):=by
 intro e s B H Q I h;refine wpAny_IfExp (thn (l e s B H _ I h) λd i f=>?_);obtain⟨j,k,g⟩:=f;cases d with
 | true=>exact m e i B j Q k g
 | false=>exact n e i B j Q k g
end
def SqL (K:W.Frag)(H:Hp)(a:Addr)(xs:List V):Prop :=
 Rd H a (.lst xs) \/
  ∃ (o:Obj) (its:Array Value) (n:Nat),K.lookup a=some o/\o.cls=.type "list"/\o.dict=none/\o.data=.seq its n/\its.size<=sizeLine/\Vals xs its.toList
def SqT (K:W.Frag)(H:Hp)(a:Addr)(xs:List V):Prop :=
 Rd H a (.tup xs) \/
  ∃ (o:Obj) (its:Array Value) (n:Nat),K.lookup a=some o/\o.cls=.type "tuple"/\o.data=.seq its n/\its.size<=sizeLine/\Vals xs its.toList
noncomputable def absV:Value->Option V
 | .none=>some .non
 | .bool b=>some (.bl b)
 | .int i _=>some (.int i)
 | .str x _=>some (.str x)
 | .bytes b _=>some (.byt b)
 | .float b _=>some (.flt b)
 | .ref a=>some (.ref a)
 | .type n=>some (.ty n)
 | _=>none
def RelV.abs (r:RelV x u):absV u=some x:=by
 cases x with
 | non=>cases r;rfl
 | bl _=>cases r;rfl
 | int _=>obtain⟨t,rfl⟩:=r;rfl
 | str _=>obtain⟨t,rfl⟩:=r;rfl
 | byt _=>obtain⟨t,rfl⟩:=r;rfl
 | flt _=>obtain⟨t,rfl⟩:=r;rfl
 | ref _=>cases r;rfl
 | ty _=>cases r;rfl
def RelV.inj (r:RelV x u)(q:RelV y u):x=y:=xQ (r.abs.symm.trans q.abs)
theorem Vals.inj:∀ {xs ys:List V} {us:List Value},Vals xs us->Vals ys us->xs=ys
 | _,_,_,.nil,.nil=>rfl
 | _,_,_,.cons r t,.cons r' t'=>by rw[r.inj r',Vals.inj t t']
section
variable {X:Cx}{pins:List (Addr×Obj)}{B:St}{H:Hp}{s:Shared}{a:Addr}{xs ys:List V}
def SqL.of {K:W.Frag}(h:H a=some (.lst xs)):SqL K H a xs:=.inl (.inl h)
def SqT.of {K:W.Frag}(h:H a=some (.tup xs)):SqT K H a xs:=.inl (.inl h)
def Inv.list (I:Inv X pins B H s)(h:SqL X.K H a xs):∃ its:List Value,Vals xs its/\PlainL s.heap a its.toArray/\xs.length<=sizeLine:=by
 rcases h with h | ⟨o,its,n,hk,hc,hd,hs,hz,r⟩
 .obtain ⟨z,its,n,r,e⟩:=h.ok I.hok;exact⟨its,r,⟨_,n,e,rfl,rfl,rfl⟩,z⟩
 .refine ⟨its.toList,r,⟨o,n,I.kIn a o hk,hc,hd,by simpa using hs⟩,?_⟩;have e:=r.length;grind
def Inv.tuple (I:Inv X pins B H s)(h:SqT X.K H a xs):∃ its:List Value,Vals xs its/\IsTup s.heap a its.toArray/\xs.length<=sizeLine:=by
 rcases h with h | ⟨o,its,n,hk,hc,hs,hz,r⟩
 .obtain ⟨z,its,r,p⟩:=h.ok I.hok;exact⟨its,r,p,z⟩
 .refine ⟨its.toList,r,⟨o,I.kIn a o hk,hc,n,by simpa using hs⟩,?_⟩;have e:=r.length;grind
def Inv.list_inj (I:Inv X pins B H s)(h:SqL X.K H a xs)(h':SqL X.K H a ys):xs=ys:=by
 obtain⟨c,r,⟨o,n,e,_,_,d⟩,_⟩:=I.list h;obtain⟨b,f,⟨i,k,j,_,_,g⟩,_⟩:=I.list h'
 simp_all
 exact r.inj f
def Inv.tuple_inj (I:Inv X pins B H s)(h:SqT X.K H a xs)(h':SqT X.K H a ys):xs=ys:=by
 obtain⟨f,r,⟨o,e,_,n,d⟩,_⟩:=I.tuple h;obtain⟨b,c,⟨g,k,_,i,j⟩,_⟩:=I.tuple h'
 simp_all
 exact r.inj c
end
abbrev Cx.wish (X:Cx) (E:Value->Shared->Prop):Cx:={ X with xe:=E }
abbrev Cx.nox (X:Cx):Cx:=X.wish λ_ _=>False
def Cx.Ok.wish {X:Cx}(ok:X.Ok)(E:Value->Shared->Prop):(X.wish E).Ok :=
 ⟨ok.mod,ok.kind,ok.glob,ok.blt,ok.above,ok.inj,ok.has,ok.cab,ok.hd,ok.frames,ok.stk,ok.exf,ok.bs,ok.bsz,ok.noex,ok.exfs,ok.funs,ok.frf,ok.pyl,ok.tabs⟩
def Cx.Ok.unwish {X:Cx}(ok:(X.wish E).Ok):X.Ok :=
 ⟨ok.mod,ok.kind,ok.glob,ok.blt,ok.above,ok.inj,ok.has,ok.cab,ok.hd,ok.frames,ok.stk,ok.exf,ok.bs,ok.bsz,ok.noex,ok.exfs,ok.funs,ok.frf,ok.pyl,ok.tabs⟩
section
variable {X:Cx}{pins:List (Addr×Obj)}{B:St}{H:Hp}{s:Shared}{E:Value->Shared->Prop}
def Inv.wish (I:Inv X pins B H s)(E:Value->Shared->Prop):Inv (X.wish E) pins B H s:=⟨I.ok.wish E,I.os,I.bare,I.base,I.loc,I.cell,I.free,I.freeC,I.pin,I.hok,I.len⟩
def Inv.unwish (I:Inv (X.wish E) pins B H s):Inv X pins B H s:=⟨I.ok.unwish,I.os,I.bare,I.base,I.loc,I.cell,I.free,I.freeC,I.pin,I.hok,I.len⟩
def SP.unwish (h:SP (X.wish E) pins D f s'):SP X pins D f s':=by
 cases f with
 | next=>obtain⟨b,a,I,q⟩:=h;exact⟨b,a,I.unwish,q⟩
 | brk=>obtain⟨b,a,I,q⟩:=h;exact⟨b,a,I.unwish,q⟩
 | cont=>obtain⟨b,a,I,q⟩:=h;exact⟨b,a,I.unwish,q⟩
 | ret u=>obtain⟨v,b,a,I,r,q⟩:=h;exact⟨v,b,a,I.unwish,r,q⟩
def PE.nox (h:PE X.nox e t):PE X e t:=λpins s B H Q I f =>
 wpAny_mono (h pins s B H Q (I.wish _) f) (λ_ _ a=>by obtain⟨v,c,d,r,q⟩:=a;exact⟨v,c,d.unwish,r,q⟩) λ_ _ z=>False.elim z
def PSs.nox {st:List Stmt}(h:PSs X.nox st t):PSs X st t:=λpins s B H D I b =>
 wpAny_mono (h pins s B H D (I.wish _) b) (λ_ _ q=>q.unwish) λ_ _ z=>False.elim z
end
section
variable {X:Cx}{st:Stmt}{rest:List Stmt}{t u:TS}{e:Expr}{te:TE}{pos:Pos}
def zT8:TS:=λD B H=>D.nx B H
def tSeq (t u:TS):TS:=λD B H=>t { D with nx:=u D } B H
def zHE:PSs X [] zT8:=λ_ _ B H _ I h=>wpAny_execs_nil ⟨B,H,I,h⟩
def zFe (h1:PS X st t)(h2:PSs X rest u):PSs X (st::rest) (tSeq t u):=by
 intro a s B H D I h;refine wpAny_execs_cons (thn (h1 a s B H { D with nx:=u D } I h) λf b q=>?_);cases f with
 | next =>
  obtain⟨e,c,d,q⟩:=q;exact h2 a b e c D d q
 | ret v=>exact q
 | brk=>exact q
 | cont=>exact q
def Inv.quiet {a:List (Addr×Obj)}{B:St}{H:Hp}{s:Shared}(I:Inv X a B H s):interactive X.env=false:=by simp[interactive,I.ok.kind]
def zT9 (te:TE):TS:=λD B H=>te B H λ_ H1=>D.nx B H1
def zHF (c:PE X e te)(g:swapsWith e none pos.line X.env=pure false:=by rfl):PS X (.Expr e pos) (zT9 te):=by
 intro b s B H D I h;exact wpAny_Expr_any (thn (c b s B H _ I h) λv j a=>by obtain⟨x,f,d,r1,i⟩:=a;exact⟨B,f,d,i⟩) I.quiet g
def tRet (te:TE):TS:=λD B H=>te B H D.rt
def zJv (g:PE X e te):PS X (.Return (some e) pos) (tRet te):=by
 intro b s B H D I h;exact wpAny_Return_some (thn (g b s B H _ I h) λv i a=>by obtain⟨x,f,d,r1,c⟩:=a;exact⟨x,B,f,d,r1,c⟩)
def tIfS (c:TT)(t u:TS):TS:=λD B H=>c B H λb H1=>if b=true then t D B H1 else u D B H1
def zRh (l:PT X c tc)(m:PSs X a t)(n:PSs X b u):PS X (.If c a b pos) (tIfS tc t u):=by
 intro e s B H D I h;refine wpAny_If (thn (l e s B H _ I h) λd j f=>?_);obtain⟨k,i,g⟩:=f;cases d with
 | true=>exact m e j B k D i g
 | false=>exact n e j B k D i g
def zRK:TS:=λ_ _ _=>False
def zFf:PS X st zRK:=λ_ _ _ _ _ _ h=>h.elim
end
abbrev TG:=V->St->Hp->(St->Hp->Prop)->Prop
def PG (X:Cx)(target:Expr)(t:TG):Prop :=
 ∀ (pins:List (Addr×Obj)) (s:Shared) (B:St) (H:Hp) (v:V) (u:Value) (Q:St->Hp->Prop),Inv X pins B H s->RelV v u->t v B H Q ->
  wpAny (model X.prog X.w) X.A (assign target X.env u) (λ_ s'=>∃ B' H',Inv X pins B' H' s'/\Q B' H') X.xe s
abbrev TIp:=V->V->Hp->VK->Prop
def PIp (X:Cx)(op:Operator)(t:TIp):Prop :=
 ∀ (pins:List (Addr×Obj)) (s:Shared) (B:St) (H:Hp) (x y:V) (v u:Value) (Q:VK),Inv X pins B H s->RelV x v->RelV y u->t x y H Q ->
  wpAny (model X.prog X.w) X.A (inplaceOp op v u) (EP X pins B Q) X.xe s
section
variable {X:Cx}{pos:Pos}
def zTC (i:Nat):TG:=λv B H Q=>Q (B.set i (some v)) H
def zFh (b:X.N.Nodup)(d:X.N[i]?=some x)(e:Loc X.env.scope x)(f:X.fn x=true\/X.env.scope.names.lookup x=some .local:=by walk_at "i"):PG X (.Name x pos) (zTC i):=by
 intro a s B H v u Q I r h;exact wpAny_assign_Name (zFW I b d e r (λs' c=>⟨_,H,c,h⟩) f)
def tAsg (te:TE)(g:TG):TS:=λD B H=>te B H λx H1=>g x B H1 D.nx
def zN5 (l:X.N.Nodup)(j:X.N[i]?=some x)(c:Loc X.env.scope x)(g:PE X e te)(f:swapsWith e (some (.Name x pos')) pos.line X.env=pure false:=by rfl)(m:X.fn x=true\/X.env.scope.names.lookup x=some .local:=by walk_at "i") :
  PS X (.Assign [.Name x pos'] e pos) (tAsg te (zTC i)):=by
 intro b s B H D I h;refine wpAny_Assign_Name (thn (g b s B H _ I h) λv p a=>?_) f;obtain⟨y,k,d,r1,n⟩:=a;exact zFW d l j c r1 (λs2 o=>⟨_,k,o,n⟩) m
def tAug (i:Nat)(te:TE)(ti:TIp):TS:=λD B H=>∃ x,B[i]?=some (some x)/\te B H λy H1=>ti x y H1 λz H2=>D.nx (B.set i (some z)) H2
def zRj (p:X.N.Nodup)(o:X.N[i]?=some x)(g:Loc X.env.scope x)(t:PE X e te)(M:PIp X op ti)(F:X.fn x=true\/X.env.scope.names.lookup x=some .local:=by walk_at "i") :
  PS X (.AugAssign (.Name x pos') op e pos) (tAug i te ti):=by
 intro a s B H D I h;obtain⟨v,O,h⟩:=h;obtain⟨m,R,E⟩:=I.loc;have j:Vis X.env.scope x:=by rcases g with k | k;exact .inl k;exact .inr (.inl k)
 obtain⟨u,r,l⟩:=E i x v o O j;refine wpAny_AugAssign_Name ?_;have n:wpAny (model X.prog X.w) X.A (eval e X.env) (λw C=>wpAny (model X.prog X.w) X.A (inplaceOp op u w) (λr N=>wpAny (model X.prog X.w) X.A (storeName X.env x r) (λ_=>SP X a D .next) X.xe N) X.xe C) X.xe s:=by
  refine thn (t a s B H _ I h) λw z d=>?_
  obtain⟨y,A,K,r1,P⟩:=d;refine thn (M a z B A v y u w _ K r r1 P) λz T f=>?_
  obtain⟨S,J,G,r2,L⟩:=f;exact zFW G p o g r2 (λs3 Q=>⟨_,J,Q,L⟩) F
 rcases l with ⟨b,q⟩ | ⟨b,c,hc,hcell⟩
 .exact wpAny_loadName_local I.ok.kind b R q n
 .rcases b with b | b
  .exact wpAny_loadName_cell I.ok.kind b hc hcell n
  .rcases g with k | k
   .have:X.env.scope.names.lookup x=some .free:=b;rw[k] at this;cases this
   .have:X.env.scope.names.lookup x=some .free:=b;rw[k] at this;cases this
end
section
variable {X:Cx}{pos:Pos}
def zRI (c:TT)(tb:TS):TS:=λD B H=>∃ W:Nat->St->Hp->Prop,(∃ m,W m B H)/\∀ m B H,W m B H ->
 c B H λb H1=>if b=true then ∃ N:St->Hp->Prop,(∀ B' H',N B' H'->∃ m',m' < m/\W m' B' H')/\tb { D with nx:=N,ct:=N,bk:=D.nx } B H1 else D.nx B H1
def zMP (t:PassesOwn (model X.prog X.w) X.A X.env X.xe)(E:PT X c tc)(C:PSs X body tb):PS X (.While c body [] pos) (zRI tc tb):=by
 intro a s B H D I h;obtain⟨W,⟨A,K⟩,turn⟩:=h;refine wpAny_While (codeAny_whileLoop (λn G=>∃ B' H',Inv X a B' H' G/\W n B' H') ?_ A ⟨B,H,I,K⟩);rintro n J ⟨i,r,F,y⟩;refine wpAny_passesOwn t (thn (E a J i r _ F (turn n i r y)) λb z g=>?_);obtain⟨w,u,j⟩:=g;cases b with
 | true =>
  obtain⟨N,x,j⟩:=j;rw[if_pos rfl];refine wpAny_passesOwn t (thn (C a z i w _ u j) λf L k=>?_);cases f with
  | next =>
   obtain⟨d,e,l,o⟩:=k;obtain⟨q,p,m⟩:=x d e o;exact⟨q,p,d,e,l,m⟩
  | cont =>
   obtain⟨d,e,l,o⟩:=k;obtain⟨q,p,m⟩:=x d e o;exact⟨q,p,d,e,l,m⟩
  | brk=>exact k
  | ret v=>exact k
 | false =>
  rw[if_neg qY];exact wpAny_execs_nil ⟨i,w,u,j⟩
end
structure It where
 go:Nat->Hp->Prop
 yld:Nat->Hp->V->Hp->Prop
 stop:Nat->Hp->Prop
def FpOk (X:Cx)(pins:List (Addr×Obj))(H:Hp)(b:Addr):Prop :=
 H b=none/\b≠X.env.locals/\b∉X.fs/\(b∈X.ex\/X.O6.heap.objs.size<=b)/\(∀ x c,X.env.cells.lookup x=some c->c≠b)/\∀ p∈X.pn++pins,p.1≠b
def Inv.fpOk {X:Cx}{a:List (Addr×Obj)}{B:St}{H f:Hp}{s:Shared}{b:Addr}(I:Inv X a B H s)(d:s.heap.objs.size<=b)(g:f b=none):FpOk X a f b:=by
 refine⟨g,Nat.ne_of_gt (xX I.lt d),I.nofs d,.inr (le_trans I.sz d),λx c e z=>?_,λp h z=>?_⟩
 .obtain ⟨v,q⟩:=I.cell x c e;exact absurd (xX q.lt (by simp_all)) (lt_irrefl _)
 .exact absurd (xX (lt_size (I.pin p h).1) (by simp_all)) (lt_irrefl _)
structure Turn (P:Program)(w:World)(K:W.Frag)(tg:Expr)(J:It)(fp:List Addr)(it:Addr)(tn:Nat->Heap->Prop):Prop where
 mem:it∈fp
 obj:∀ i h,tn i h->∀ b∈fp,∃ o,h.get? b=some o/\∀ v,o.data≠.cell v
 keep:∀ i h h',tn i h->(∀ b∈fp,∀ o,h.get? b=some o->h'.get? b=some o)->tn i h'
 item:∀ (X:Cx),X.prog=P->X.w=w->X.K=K->X.calm=true->∀ (i:Nat) (pins:List (Addr×Obj)) (s:Shared) (B:St) (H:Hp) (E:Value->Shared->Prop),Inv X pins B H s->(∀ b∈fp,FpOk X pins H b)->tn i s.heap->J.go i H ->
  wpAny (model P w) X.A (pyNext (.ref it)) (λr s1=>∃ u,r=some u /\
   wpAny (model P w) X.A (letOwnedTupleGo tg (.ref it) u) (λ_ s2=>∃ x H',Inv X pins B H' s2/\RelV x u/\J.yld i H x H'/\tn (i+1) s2.heap/\∀ b∈fp,H' b=none) E s1) E s
 done:∀ (X:Cx),X.prog=P->X.w=w->X.K=K->X.calm=true->∀ (i:Nat) (pins:List (Addr×Obj)) (s:Shared) (B:St) (H:Hp) (E:Value->Shared->Prop),Inv X pins B H s->(∀ b∈fp,FpOk X pins H b)->tn i s.heap->J.stop i H ->
  wpAny (model P w) X.A (pyNext (.ref it)) (λr s1=>r=none/\Inv X pins B H s1) E s
 self:∀ (A:Around) (i:Nat) (s:Shared) (Q:Value->Shared->Prop) (E:Value->Shared->Prop),tn i s.heap->Q (.ref it) s->wpAny (model P w) A (pyIter (.ref it)) Q E s
abbrev TI:=St->Hp->(It->Hp->Prop)->Prop
def PIE (X:Cx)(pins:List (Addr×Obj))(B:St)(tg:Expr)(R:It->Hp->Prop)(itv:Value)(s2:Shared):Prop :=
 ∃ (it:Addr) (fp:List Addr) (tn:Nat->Heap->Prop) (J:It) (H':Hp),itv=.ref it/\Inv X pins B H' s2/\Turn X.prog X.w X.K tg J fp it tn/\tn 0 s2.heap/\(∀ b∈fp,FpOk X pins H' b)/\R J H'
def PI (X:Cx)(tg iter:Expr)(wi:TI):Prop :=
 ∀ (pins:List (Addr×Obj)) (s:Shared) (B:St) (H:Hp) (R:It->Hp->Prop),Inv X pins B H s->wi B H R ->
  wpAny (model X.prog X.w) X.A (eval iter X.env) (λv s1=>wpAny (model X.prog X.w) X.A (pyIter v) (PIE X pins B tg R) X.xe s1) X.xe s
def zM4 (c:s.heap.get? it=some o)(b:o.cls=.type n)(d:o.data=.fields vs)
  (e:["enumerate","zip","dict_itemiterator","dict_reverseitemiterator","odict_iterator","itertools.zip_longest","itertools.pairwise"].contains n=false) (a:Q () s):wpAny M A (letOwnedTupleGo tg (.ref it) u) Q E s:=by
 cases tg<;>first
  | exact xq a
  | cases u<;>first
    | exact xq a
    | (refine qX (wpAny_load c ?_);rw[b,d];show wpAny M A (if _=true then _ else _) Q E s;rw[if_neg (by grind)];exact xq a)
noncomputable def Itl (K:W.Frag)(a:Addr):It :=
 ⟨λi H=>∃ xs x,SqL K H a xs/\xs[i]?=some x,λi H x H'=>H'=H/\∀ xs,SqL K H a xs->xs[i]?=some x,λi H=>∃ xs,SqL K H a xs/\xs.length<=i⟩
noncomputable def Itt (K:W.Frag)(a:Addr):It :=
 ⟨λi H=>∃ xs x,SqT K H a xs/\xs[i]?=some x,λi H x H'=>H'=H/\∀ xs,SqT K H a xs->xs[i]?=some x,λi H=>∃ xs,SqT K H a xs/\xs.length<=i⟩
noncomputable def Itr (lo:Int)(n:Nat):It:=⟨λi _=>i < n,λi H x H'=>H'=H/\x=.int (lo+i),λi _=>n<=i⟩
def zJR {P:Program}{w:World}{K:W.Frag}{N:Expr}(a it:Addr):Turn P w K N (Itl K a) [it] it (λi h=>h.IsListIter it a i) where
 mem:=by simp
 obj:=λi h f b j=>by
  have e:b=it:=by simpa using j
  subst e;obtain⟨o,e,c,d⟩:=f;exact⟨o,e,λv z=>by rw[d] at z;cases z⟩
 keep:=λi h h' f k=>f.at λo e=>k it (by simp) o e
 item:=by
  intro X r D A L i g s B H E I m f J;subst r D A;obtain⟨R,x,hq,C⟩:=J;obtain⟨q,y,p,O⟩:=I.list hq;obtain⟨u,T,Y⟩:=y.get C;obtain⟨F,G,V,v,t,n⟩:=m it (by simp);refine wpAny_pyNext_list_item f p.isList (x:=u) (by simpa using T) λh' l Z=>?_
  have Q:Inv X g B H { s with heap:=h' }:=I.turned (t':=s.toks) (λb o j e=>(Z.2 b j).trans e) F G v t n;obtain⟨o,e,c,d⟩:=id l;exact⟨u,rfl,zM4 (s:={ s with heap:=h' }) e c d (by decide) ⟨x,H,Q,Y,⟨rfl,λys U=>by rw[I.list_inj U hq];exact C⟩,l,λb j=>(m b j).1⟩⟩
 done:=by
  intro X r D A L i g s B H E I m f J;subst r D A;obtain⟨R,hq,C⟩:=J;obtain⟨q,y,p,O⟩:=I.list hq;obtain⟨F,G,V,v,t,n⟩:=m it (by simp);have hl:=y.length;exact wpAny_pyNext_list_end (I.ok.hd L) f p.isList (by simp;omega) λh' S=>⟨rfl,I.turned (t':=s.toks) (λb o j e=>S b o j e) F G v t n⟩
 self:=λ_ _ _ _ _ f h=>wpAny_pyIter_listiter f h
def zIi {P:Program}{w:World}{K:W.Frag}{V:Expr}(a it:Addr):Turn P w K V (Itt K a) [it] it (λi h=>h.IsTupleIter it a i) where
 mem:=by simp
 obj:=λi h f b j=>by
  have e:b=it:=by simpa using j
  subst e;obtain⟨o,e,c,d⟩:=f;exact⟨o,e,λv z=>by rw[d] at z;cases z⟩
 keep:=λi h h' f k=>f.at λo e=>k it (by simp) o e
 item:=by
  intro X F J y M i g s B H E I n f D;subst F J y;obtain⟨R,x,hq,A⟩:=D;obtain⟨l,t,p,O⟩:=I.tuple hq;obtain⟨u,Q,Y⟩:=t.get A;obtain⟨C,q,N,v,r,G⟩:=n it (by simp);refine wpAny_pyNext_tuple_item f (show s.heap.IsTuple a l.toArray from p) (x:=u) (by simpa using Q) λh' m Z=>?_
  have U:Inv X g B H { s with heap:=h' }:=I.turned (t':=s.toks) (λb o j e=>(Z.2 b j).trans e) C q v r G;obtain⟨o,e,c,d⟩:=id m;exact⟨u,rfl,zM4 (s:={ s with heap:=h' }) e c d (by decide) ⟨x,H,U,Y,⟨rfl,λys S=>by rw[I.tuple_inj S hq];exact A⟩,m,λb j=>(n b j).1⟩⟩
 done:=by
  intro X F J y M i g s B H E I n f D;subst F J y;obtain⟨R,hq,A⟩:=D;obtain⟨l,t,p,O⟩:=I.tuple hq;obtain⟨C,q,N,v,r,G⟩:=n it (by simp);have hl:=t.length;exact wpAny_pyNext_tuple_end (I.ok.hd M) f (show s.heap.IsTuple a l.toArray from p) (by simp;omega) λh' T=>⟨rfl,I.turned (t':=s.toks) (λb o j e=>T b o j e) C q v r G⟩
 self:=λ_ _ _ _ _ f h=>wpAny_pyIter_tupleiter f h
def zIj {P:Program}{w:World}{K:W.Frag}{G:Expr}(it:Addr)(g:Int)(n:Nat):Turn P w K G (Itr g n) [it] it (λi h=>IsRangeIter h it (g+(i:Nat)*1) ((n:Int) - (i:Nat)) 1) where
 mem:=by simp
 obj:=λi h c b d=>by
  simp_all
 keep:=λi h l c k=>k it (by simp) _ c
 item:=by
  intro X m x v u i a s B H E I j c z;subst m x v;obtain⟨q,p,L,r,A,y⟩:=j it (by simp);have W:=Walks.range (prog:=X.prog) (w:=X.w) (I.ok.hd u) it g 1 n;refine W.item i s _ _ z c λv l C F f M=>?_
  obtain⟨t,rfl⟩:=F;have J:Inv X a B H { s with heap:=l,toks:=C }:=I.turned (λb o d e=>M b o (by simpa using d) e) q p r A y;refine⟨_,rfl,zM4 (s:={ s with heap:=l,toks:=C }) (n := "range_iterator") f rfl rfl (by decide) ⟨.int (g+i),H,J,⟨t,?_⟩,⟨rfl,rfl⟩,f,λb d=>(j b d).1⟩⟩;rw[Int.mul_one]
 done:=by
  intro X m x v u i a s B H E I j c z;subst m x v;obtain⟨q,p,L,r,A,y⟩:=j it (by simp);exact wpAny_pyNext_range_end (I.ok.hd u) c (by have:n<=i:=z;omega) λh' D=>⟨rfl,I.turned (t':=s.toks) (λb o d e=>D b o d e) q p r A y⟩
 self:=λ_ _ _ _ _ c h=>wpAny_pyIter_rangeiter c h
section
variable {X:Cx}{tg:Expr}
def zHz {a:Int}(I:Inv X pins B H s)(h1:-(2^62)<=a)(h2:a < 2^62)(h3:-(2^62)<=hi)(h4:hi < 2^62)
  (q:R (Itr a (hi - a).toNat) H):wpAny (model X.prog X.w) X.A (pyIter (.ref s.heap.objs.size)) (PIE X pins B tg R) E { s with heap:=s.heap.push { cls:=.type "range",data:=.fields #[.int a t,.int hi u,.int 1 v] },toks:=tk }:=by
 refine wpAny_pyIter_range (IsRange.new ..) (small_one h1 h2 h3 h4) ?_;have c:Inv X pins B H { s with heap:=s.heap.push { cls:=.type "range",data:=.fields #[.int a t,.int hi u,.int 1 v] },toks:=tk }:=I.kept λb o e=>get?_push_of_some _ e
 refine⟨(s.heap.push { cls:=.type "range",data:=.fields #[.int a t,.int hi u,.int 1 v] }).objs.size,[(s.heap.push { cls:=.type "range",data:=.fields #[.int a t,.int hi u,.int 1 v] }).objs.size],_,_,H,rfl,
  c.kept λb o e=>get?_push_of_some _ e,zIj _ a (hi - a).toNat,?_,λb f=>?_,q⟩
 .have d:a+((0:Nat):Int)*1=a:=by simp
  have g:(((hi - a).toNat:Nat):Int) - ((0:Nat):Int)=Builtin.Range.rangeSize a hi 1:=by rw[rangeSize_one];split<;>omega
  rw[d,g];exact get?_push_size _ rfl
 .have e:b=(s.heap.push { cls:=.type "range",data:=.fields #[.int a t,.int hi u,.int 1 v] }).objs.size:=by simpa using f
  subst e;exact c.fpOk (le_refl _) (c.hok.fresh (le_refl _))
def zUi (ta:TA):TI:=λB H R=>ta B H λvs H1=>∃ j:Int,vs=[.int j]/\-(2^62)<=j/\j < 2^62/\R (Itr 0 j.toNat) H1
def zUh (ta:TA):TI:=λB H R=>ta B H λvs H1=>∃ i j:Int,vs=[.int i,.int j]/\(-(2^62)<=i/\i < 2^62/\-(2^62)<=j/\j < 2^62)/\R (Itr i (j - i).toNat) H1
def zGT (k:Gl X "range")(l:X.mg "range"=none)(f:PA X [a] ta)(n:starEach [a] X.env=[(false,eval a X.env)]:=by rfl):PI X tg (.Call (.Name "range" p) [a] [] pos) (zUi ta):=by
 intro b s B H R I h;refine Call_ (zCy I k l boot_range (PyProof.Rows.callWith_type1 (thn (f pos b s B H _ I h) λus o c=>?_) n rfl));obtain⟨v,u,g,r1,d⟩:=c;obtain⟨j,e,d,m,q⟩:=d;subst e;cases r1 with
 | cons r i =>
  cases i;obtain⟨t,rfl⟩:=r;exact call_range_1 (zHz g (by omega) (by omega) d m (by simpa using q))
def zJz {a b:Expr}{l:TA}{p pos:Pos}(z:Gl X "range")(v:X.mg "range"=none)(m:PA X [a,b] l)(y:starEach [a,b] X.env=[(false,eval a X.env),(false,eval b X.env)]:=by rfl)(d:starEach [b] X.env=[(false,eval b X.env)]:=by rfl) :
  PI X tg (.Call (.Name "range" p) [a,b] [] pos) (zUh l):=by
 intro c s B H R I h;refine Call_ (zCy I z v boot_range (PyProof.Rows.callWith_type1 (thn (m pos c s B H _ I h) λus E f=>?_) (by rw[y,d]) (by rw[d];rfl)));obtain⟨D,A,w,r1,k⟩:=f;obtain⟨i,j,e,⟨k,n,o,x⟩,q⟩:=k;subst e;cases r1 with
 | cons r g =>
  cases g with
  | cons u g =>
   cases g;obtain⟨t,rfl⟩:=r;obtain⟨C,rfl⟩:=u;exact call_range_2 (zHz w k n o x q)
def tFor (wi:TI)(g:TG)(tb:TS):TS:=λD B H=>wi B H λJ H1=>∃ W:Nat->Nat->St->Hp->Prop,(∃ m,W 0 m B H1)/\∀ i m B H,W i m B H ->
 (J.stop i H/\D.nx B H)\/(J.go i H/\∃ N:St->Hp->Prop,(∀ B' H',N B' H'->∃ m',m' < m/\W (i+1) m' B' H')/\∀ x H',J.yld i H x H'->g x B H' λB2 H2=>tb { D with nx:=N,ct:=N,bk:=D.nx } B2 H2)
noncomputable def zCP (fp:List Addr)(h:Heap):List (Addr×Obj):=fp.filterMap λb=>(h.get? b).map λo=>(b,o)
def zCp (a:b∈fp)(e:h.get? b=some o):(b,o)∈zCP fp h:=List.mem_filterMap.mpr ⟨b,a,by rw[e];rfl⟩
def zGY (c:p∈zCP fp h):p.1∈fp/\h.get? p.1=some p.2:=by
 obtain⟨b,d,e⟩:=List.mem_filterMap.mp c;cases q:h.get? b with
 | none=>rw[q] at e;cases e
 | some o =>
  rw[q] at e;have a:=xQ e;subst a;exact⟨d,q⟩
def Inv.pinned {a:List (Addr×Obj)}{B:St}{H:Hp}{s:Shared}{fp:List Addr}(I:Inv X a B H s)(g:∀ b∈fp,FpOk X a H b)(f:∀ b∈fp,∃ o,s.heap.get? b=some o/\∀ v,o.data≠.cell v):Inv X (a++zCP fp s.heap) B H s :=
 I.pins_of λp d=>(mem_append.mp d).elim (λz=>I.pin p (xy _ z)) λz=>by
  obtain⟨c,e⟩:=zGY z;obtain⟨h,j,i,_⟩:=g p.1 c;obtain _:=f p.1 c
  simp_all
def Inv.unpinned {a pl:List (Addr×Obj)}{B:St}{H:Hp}{s:Shared}(I:Inv X (a++pl) B H s):Inv X a B H s:=I.pins_of λp b=>I.pin p (xy _ (List.mem_append_left _ b))
def zN6 (K:PassesOwn (model X.prog X.w) X.A X.env X.xe)(Z:X.calm=true)(hi:PI X tg iter wi)(hg:PG X tg g)(p:PSs X body tb)
  (hs:∀ x,foldedSetIterable iter X.env x=pure x:=by intro _;rfl):PS X (.For tg iter body [] pos) (tFor wi g tb):=by
 intro a s B H D I h;refine wpAny_For (thn (hi a s B H _ I h) λv s1 h1=>thn h1 λitv s2 h2=>?_) hs;obtain⟨it,F,tn,J,H2,e,I2,T,S,f2,W,⟨m0,w0⟩,turn⟩:=h2;subst e;have q:∀ {H':Hp},(∀ b∈F,H' b=none)->∀ b∈F,FpOk X a H' b:=λhn b p=>⟨hn b p,(f2 b p).2⟩
 refine codeAny_forLoop_any (λn V=>∃ i B' H',Inv X a B' H' V/\tn i V.heap/\(∀ b∈F,H' b=none)/\W i n B' H') ?_ m0 ⟨0,B,H2,I2,S,λb p=>(f2 b p).1,w0⟩;rintro n s3 ⟨i,E,O,I3,M,C,w3⟩;rcases turn i n E O w3 with ⟨L,qn⟩ | ⟨go,N,hN,step⟩
 .refine wpAny_passesOwn K (thn (T.done X rfl rfl rfl Z i a s3 E O X.xe I3 (q C) M L) λr s4 y=>?_);obtain⟨U,I4⟩:=y;subst U;exact wpAny_execs_nil ⟨E,O,I4,qn⟩
 .refine wpAny_passesOwn K (thn (T.item X rfl rfl rfl Z i a s3 E O X.xe I3 (q C) M go) λr s4 z=>?_);obtain⟨u,U,h4⟩:=z;subst U;refine wpAny_passesOwn K (thn h4 λ_ Y w=>?_);obtain⟨x,H5,I5,r5,y5,t,Q⟩:=w;have R:=I5.pinned (q Q) (T.obj _ _ t);refine wpAny_passesOwn K (thn (hg _ Y E H5 x u _ R r5 (step x H5 y5)) λ_ s6 G=>?_);obtain⟨B6,H6,I6,q6⟩:=G;refine wpAny_passesOwn K (thn (p _ s6 B6 H6 _ I6 q6) λf P r=>?_);have l:∀ {k:St} {c:Hp},Inv X (a++zCP F Y.heap) k c P->N k c->∃ m,m < n/\∃ i B' H',Inv X a B' H' P/\tn i P.heap/\(∀ b∈F,H' b=none)/\W i m B' H':=λ{k c} j A=>by
   obtain⟨m',hm,w7⟩:=hN k c A;refine⟨m',hm,i+1,k,c,j.unpinned,T.keep _ _ _ t λb p o e=>(j.pin (b,o) (xy _ (xy _ (zCp p e)))).1,λb p=>?_,w7⟩;obtain⟨o,e,d⟩:=T.obj _ _ t b p;exact(j.pin (b,o) (xy _ (xy _ (zCp p e)))).2.1
  cases f with
  | next=>obtain⟨k,c,j,A⟩:=r;exact l j A
  | cont=>obtain⟨k,c,j,A⟩:=r;exact l j A
  | brk=>obtain⟨k,c,j,r⟩:=r;exact⟨k,c,j.unpinned,r⟩
  | ret v=>obtain⟨x7,k,c,j,r7,r⟩:=r;exact⟨x7,k,c,j.unpinned,r7,r⟩
end
abbrev R2:=V->V->Hp->VK->Prop
def OpR (X:Cx)(f:Value->Value->Sem Value)(r:R2):Prop :=
 ∀ (pins:List (Addr×Obj)) (s:Shared) (B:St) (H:Hp) (x y:V) (v u:Value) (Q:VK),Inv X pins B H s->RelV x v->RelV y u->r x y H Q ->
  wpAny (model X.prog X.w) X.A (f v u) (EP X pins B Q) X.xe s
def UnR (X:Cx)(f:Value->Sem Value)(r:V->Hp->VK->Prop):Prop :=
 ∀ (pins:List (Addr×Obj)) (s:Shared) (B:St) (H:Hp) (x:V) (v:Value) (Q:VK),Inv X pins B H s->RelV x v->r x H Q ->
  wpAny (model X.prog X.w) X.A (f v) (EP X pins B Q) X.xe s
def zEs (X:Cx)(f:Value)(r:List V->Hp->VK->Prop):Prop :=
 ∀ (pins:List (Addr×Obj)) (s:Shared) (B:St) (H:Hp) (xs:List V) (us:List Value) (Q:VK),Inv X pins B H s->Vals xs us->r xs H Q ->
  wpAny (model X.prog X.w) X.A (call f us) (EP X pins B Q) X.xe s
def tOp (r:R2)(ta tb:TE):TE:=λB H Q=>ta B H λx H1=>tb B H1 λy H2=>r x y H2 Q
def tUn (r:V->Hp->VK->Prop)(ta:TE):TE:=λB H Q=>ta B H λx H1=>r x H1 Q
def rI (C:Int->Int->Prop)(g:Int->Int->V):R2:=λx y H Q=>∃ i j,x=.int i/\y=.int j/\C i j/\Q (g i j) H
def rI0 (g:Int->Int->V):R2:=λx y H Q=>∃ i j,x=.int i/\y=.int j/\Q (g i j) H
def rU (g:Int->V):V->Hp->VK->Prop:=λx H Q=>∃ i,x=.int i/\Q (g i) H
section
variable {X:Cx}{a b c:Expr}{ta tb tc:TE}{pos:Pos}
def binT (j:PE X a ta)(e:PE X b tb){R:V->V->Hp->Prop}(I:Inv X pins B H s)
  (h:ta B H λx H1=>tb B H1 λy H2=>R x y H2)  {f:Value->Value->Sem Value}
  (k:∀ v u s2 x y H2,Inv X pins B H2 s2->RelV x v->RelV y u->R x y H2->wpAny (model X.prog X.w) X.A (f v u) Q X.xe s2) :
  wpAny (model X.prog X.w) X.A (eval a X.env) (λv O2=>wpAny (model X.prog X.w) X.A (eval b X.env) (λu Y1=>wpAny (model X.prog X.w) X.A (f v u) Q X.xe Y1) X.xe O2) X.xe s:=by
 refine thn (j pins s B H _ I h) λv i c=>?_
 obtain⟨x,H1,g,r1,l⟩:=c;refine thn (e pins i B H1 _ g l) λu s2 d=>?_
 obtain⟨y,H2,m,r2,n⟩:=d;exact k v u s2 x y H2 m r1 r2 n
def zUG (i:OpR X (binaryOp op) r)(d:PE X a ta)(g:PE X b tb):PE X (.BinOp a op b pos) (tOp r ta tb):=by
 intro c s B H Q I h;exact wpAny_BinOp (binT d g I h λv u e x y l j f k q=>i c e B l x y v u Q j f k q)
def zUE (e:UnR X (unaryOp op) r)(d:PE X a ta):PE X (.UnaryOp op a pos) (tUn r ta):=by
 intro b s B H Q I h;exact UnaryOp_ (thn (d b s B H _ I h) λv g c=>by obtain⟨x,j,i,r1,f⟩:=c;exact e b g B j x v Q i r1 f)
def opI {g:Int->Int->Int}
  (a:∀ (i j:Int) (t u:Tok) (s:Shared) (Q:Value->Shared->Prop) (E:Value->Shared->Prop),C i j->Q (.int (g i j) s.toks) { s with toks:=s.toks+1 }->wpAny (model X.prog X.w) X.A (f (.int i t) (.int j u)) Q E s) :
  OpR X f (rI C λi j=>.int (g i j)):=by
 intro b s B H x y v u Q I e c h;obtain⟨i,j,rfl,rfl,k,q⟩:=h;obtain⟨t,rfl⟩:=e;obtain⟨d,rfl⟩:=c;exact a i j t d s _ _ k ⟨.int _,H,I.tok _,⟨_,rfl⟩,q⟩
def opI0 {g:Int->Int->Int}
  (a:∀ (i j:Int) (t u:Tok) (s:Shared) (Q:Value->Shared->Prop) (E:Value->Shared->Prop),Q (.int (g i j) s.toks) { s with toks:=s.toks+1 }->wpAny (model X.prog X.w) X.A (f (.int i t) (.int j u)) Q E s) :
  OpR X f (rI0 λi j=>.int (g i j)):=by
 intro b s B H x y v u Q I e d h;obtain⟨i,j,rfl,rfl,q⟩:=h;obtain⟨t,rfl⟩:=e;obtain⟨c,rfl⟩:=d;exact a i j t c s _ _ ⟨.int _,H,I.tok _,⟨_,rfl⟩,q⟩
def opB0 {g:Int->Int->Bool}
  (a:∀ (i j:Int) (t u:Tok) (s:Shared) (Q:Value->Shared->Prop) (E:Value->Shared->Prop),Q (.bool (g i j)) s->wpAny (model X.prog X.w) X.A (f (.int i t) (.int j u)) Q E s) :
  OpR X f (rI0 λi j=>.bl (g i j)):=by
 intro b s B H x y v u Q I d e h;obtain⟨i,j,rfl,rfl,q⟩:=h;obtain⟨t,rfl⟩:=d;obtain⟨c,rfl⟩:=e;exact a i j t c s _ _ ⟨.bl _,H,I,rfl,q⟩
def CPow (i j:Int):Prop:=0<=j/\j<=1000000/\i.natAbs < 2^64
def CMul (i j:Int):Prop:=(-(2^64) < i/\i < 2^64)\/(-(2^64) < j/\j < 2^64)
def CMul.ok (h:CMul i j):IntMulOk i j:=by
 rcases h with ⟨h1,h2⟩ | ⟨h1,h2⟩
 .exact .of_left (intBits_le_64 h1 h2)
 .exact .of_right (intBits_le_64 h1 h2)
def zR7:OpR X (binaryOp .Add) (rI0 λi j=>.int (i+j)):=opI0 λ_ _ _ _ _ _ _ q=>add_int q
def zRy:OpR X (binaryOp .Pow) (rI CPow λi j=>.int (i^j.toNat)):=opI λ_ _ _ _ _ _ _ a q=>pow_int_small a.1 a.2.1 a.2.2 q
def unI {g:Int->Int}
  (a:∀ (i:Int) (t:Tok) (s:Shared) (Q:Value->Shared->Prop) (E:Value->Shared->Prop),Q (.int (g i) s.toks) { s with toks:=s.toks+1 }->wpAny (model X.prog X.w) X.A (f (.int i t)) Q E s) :
  UnR X f (rU λi=>.int (g i)):=by
 intro b s B H x v Q I c h;obtain⟨i,rfl,q⟩:=h;obtain⟨t,rfl⟩:=c;exact a i t s _ _ ⟨.int _,H,I.tok _,⟨_,rfl⟩,q⟩
end
section
variable {X:Cx}{a b c:Expr}{ta tb tc:TE}{pos:Pos}
def zOO {a:List (Addr×Obj)}{B:St}{H:Hp}{s:Shared}{Q:VK}{k b:Bool}(I:Inv X a B H s)(q:Q (.bl k) H)(e:k=b):EP X a B Q (.bool b) s:=by
 subst e;exact⟨.bl k,H,I,rfl,q⟩
def zR0:OpR X (compareOp .Lt) (rI0 λi j=>.bl (decide (i < j))):=opB0 λ_ _ _ _ _ _ _ q=>lt_int q
def zR1:OpR X (compareOp .LtE) (rI0 λi j=>.bl (decide (i<=j))):=opB0 λ_ _ _ _ _ _ _ q=>le_int q
def zR3:OpR X (compareOp .Gt) (rI0 λi j=>.bl (decide (j < i))):=opB0 λ_ _ _ _ _ _ _ q=>gt_int q
def zR5:OpR X (compareOp .GtE) (rI0 λi j=>.bl (decide (j<=i))):=opB0 λ_ _ _ _ _ _ _ q=>ge_int q
def zR2:OpR X (compareOp .Is) (λx y H Q=>y=.non/\Q (.bl (decide (x=.non))) H):=by
 intro a s B H x y v u Q I b c h;obtain⟨rfl,q⟩:=h;cases c;refine is_none_gen (zOO I q ?_);cases x<;>first
  | rfl
  | obtain⟨t,rfl⟩:=b;rfl
def zPH:OpR X (compareOp .IsNot) (λx y H Q=>y=.non/\Q (.bl (!decide (x=.non))) H):=by
 intro a s B H x y v u Q I b c h;obtain⟨rfl,q⟩:=h;cases c;refine isnot_none_gen (zOO I q ?_);cases x<;>first
  | rfl
  | obtain⟨t,rfl⟩:=b;rfl
def OpR.or (h:OpR X f r)(h':OpR X f r'):OpR X f (λx y H Q=>r x y H Q\/r' x y H Q):=by
 intro a s B H x y v u Q I b c q;rcases q with q | q
 .exact h a s B H x y v u Q I b c q
 .exact h' a s B H x y v u Q I b c q
def zDM (b:Expr)(h:op≠.In:=by decide)(h2:op≠.NotIn:=by decide):behindInMarks op b=false:=by
 have a:(op==CmpOp.In)=false:=by cases op<;>first | rfl | exact absurd rfl h
 have c:(op==CmpOp.NotIn)=false:=by cases op<;>first | rfl | exact absurd rfl h2
 cases b<;>simp[behindInMarks,a,c]
def zO8 (d:OpR X (compareOp op) r)(m:PE X a ta)(j:PE X b tb)(e:behindInMarks op b=false):PE X (.Compare a [op] [b] pos) (tOp r ta tb):=by
 intro c s B H Q I h;exact wpAny_Compare1 (binT m j I h λv u f x y g l k i q=>d c f B g x y v u Q l k i q) e
def zRJ (t:TE):TT:=λB H Q=>t B H λx H'=>∃ k,x=.bl k/\Q k H'
def zO1 (p:OpR X (compareOp op) r)(i:PE X a ta)(C:PE X b tb)(l:behindInMarks op b=false):PT X (.Compare a [op] [b] pos) (zRJ (tOp r ta tb)):=by
 intro c s B H Q I h;refine wpAny_isTrue_Compare1 (thn (i c s B H _ I h) λv A ⟨x,t,o,r1,g⟩=>thn (C c A B t _ o g) λu m ⟨y,j,q,r2,f⟩ =>
  thn (p c m B j x y v u _ q r1 r2 f) λc D ⟨z,n,d,r3,k,e,w⟩=>?_) l
 subst e;cases r3;exact wpAny_truthy_bool ⟨n,d,w⟩
def zJU (r r':R2)(ta tb tc:TE):TE:=λB H Q=>ta B H λx H1=>tb B H1 λy H2=>r x y H2 λz H3=>∃ k,z=.bl k /\
 (if k=true then tc B H3 λw' H4=>r' y w' H4 Q else Q (.bl false) H3)
def zMU (M:OpR X (compareOp op) r)(g:OpR X (compareOp op') r')(w:PE X a ta)(N:PE X b tb)(D:PE X c tc)
  (P:lastMarks [op,op'] [b,c]=false:=by with_unfolding_all rfl):PE X (.Compare a [op,op'] [b,c] pos) (zJU r r' ta tb tc):=by
 intro d s B H Q I h;refine Compare_chain (thn (w d s B H _ I h) λv F ⟨x,O,p,r1,E⟩=>chain_link (thn (N d F B O _ p E) λu K ⟨y,t,C,r2,G⟩ =>
  thn (M d K B t x y v u _ C r1 r2 G) λd o ⟨z,j,l,r3,k,e,i⟩=>?_)) P
 subst e;cases r3;refine wpAny_truthy_bool ?_;cases k with
 | false=>exact ite_ff ⟨.bl false,j,l,rfl,i⟩
 | true=>exact ite_tt (chain_last (thn (D d o B j _ l i) λw' n f=>by obtain⟨J,m,L,q,A⟩:=f;exact g d n B m y J u w' Q L r2 q A))
def zMO (L:OpR X (compareOp op) r)(g:OpR X (compareOp op') r')(p:PE X a ta)(F:PE X b tb)(T:PE X c tc)
  (A:lastMarks [op,op'] [b,c]=false:=by with_unfolding_all rfl):PT X (.Compare a [op,op'] [b,c] pos) (zRJ (zJU r r' ta tb tc)):=by
 intro d s B H Q I h;refine isTrue_chain (thn (p d s B H _ I h) λv m ⟨x,w,G,r1,V⟩=>test_link (thn (F d m B w _ G V) λu n ⟨y,o,Y,r2,P⟩ =>
  thn (L d n B o x y v u _ Y r1 r2 P) λd N ⟨z,l,i,r3,k,e,j⟩=>?_)) A
 subst e;cases r3;refine wpAny_truthy_bool ?_;cases k with
 | false =>
  obtain⟨k',O,R⟩:=j;cases O;exact ite_ff ⟨l,i,R⟩
 | true =>
  refine ite_tt (test_last (thn (T d N B l _ i j) λw' C ⟨J,E,S,t,U⟩=>thn (g d C B E y J u w' _ S r2 t U) λd' s5 f=>?_));obtain⟨Z,q,D,K,k2,W,M⟩:=f;subst W;cases K;exact wpAny_truthy_bool ⟨q,D,M⟩
def zKa:(sizeLine:Nat) < 2^63:=by decide
def zIh (r:Vals [x] us):∃ u,us=[u]/\RelV x u:=by
 cases r with
 | cons r1 r2=>cases r2;exact⟨_,rfl,r1⟩
def zOj (r:Vals [x,y] us):∃ u w',us=[u,w']/\RelV x u/\RelV y w':=by
 cases r with
 | cons r1 r2 =>
  cases r2 with
  | cons r3 a=>cases a;exact⟨_,_,rfl,r1,r3⟩
def zLk (b:X.calm=true):zEs X (.builtin "max") (λxs H Q=>∃ i j,xs=[.int i,.int j]/\Q (.int (if j>i then j else i)) H):=by
 intro a s B H xs us Q I r h;obtain⟨i,j,rfl,q⟩:=h;obtain⟨u,d,rfl,⟨t,rfl⟩,⟨t',rfl⟩⟩:=zOj r;refine max_two_ints (I.ok.hd b) λh' c k=>⟨_,H,I.kept k,?_,q⟩
 by_cases hj:j>i
 .rw [if_pos hj,if_pos hj];exact⟨_,rfl⟩
 .rw [if_neg hj,if_neg hj];exact⟨_,rfl⟩
end
structure ObjM (h:Heap)(x dx C:Addr)(mA:Str->Option Value):Prop where
 obj:h.get? x=some (W.instObj C dx)
 ns:h.Ns1 dx mA
 ne:dx≠x
def zKX {h:Heap}(n:h.Ns1 dx mA):∃ od,h.get? dx=some od/\∀ name,W.lookIn name od=some (mA name):=by
 obtain⟨o,es,j,c,g,i,_,d⟩:=n;refine⟨o,c,λname=>?_⟩;have e:=d name;unfold nsFind findBy at e;unfold W.lookIn;rw[g];dsimp only;split
 .grind
 .rename_i q;have a:es.toList.any (·.refKey)=false:=by
   rw[List.any_eq_false];intro y f;obtain⟨z,t,b⟩:=i y (Array.mem_toList_iff.mp f);simp[DictEntry.refKey,b]
  grind
def ObjM.look (I:ObjM h x dx C mA):∃ od,W.InstAt h x (W.instObj C dx) C (some od)/\∀ name,W.lookIn name od=some (mA name) :=
 let ⟨od,ho,hl⟩:=zKX I.ns
 ⟨od,⟨I.obj,rfl,rfl,ho⟩,hl⟩
section
variable {prog:Program}{w:World}{A:Around}{E:Value->Shared->Prop}{s:Shared}{K:W.Frag}{x dx C f:Addr}{mA:Str->Option Value}{name:Str}{v:Value}
def zQG (X:K.In s.heap)(I:ObjM s.heap x dx C mA)(b:W.plainGet K C name=true)(d:W.hasDictIn K C=true)
  (c:W.findIn K (.ref C) name=some none) (e:mA name=some v) (a:W.handedIn v=true) (h:Q v { s with toks:=s.toks+1 }) :
  wpAny (model prog w) A (getAttr (.ref x) name expr) Q E s:=by
 obtain⟨g,J,f⟩:=I.look;exact W.get_value X J (W.plainGet_of b).1 (W.findObj_own d c rfl (by simp_all)) a h
def zM6 (X:K.In s.heap)(I:ObjM s.heap x dx C mA)(a:W.plainGet K C name=true)
  (e:W.findIn K (.ref C) name=some (some (.ref f))) (d:W.isFn K (.ref f)=true) (g:mA name=none) (h:Q (.ref f,[.ref x]) s) :
  wpAny (model prog w) A (getMethod (.ref x) name pl) Q E s:=by
 obtain⟨b,J,c⟩:=I.look;exact W.method_fn X J (W.plainGet_of a).1 (W.plainGet_of a).2 e (beq_iff_eq.mp d) (by show (W.lookIn name b).map (·.isSome)=some false;rw[c,g];rfl) h
def zOq (X:K.In s.heap)(I:ObjM s.heap x dx C mA)
  (o:W.findIn K (.ref C) "__setattr__"=some (some (.builtin "object.__setattr__"))) (p:W.plainOver K C=true) (n:W.takerIn K C name=some none) (i:W.hasDictIn K C=true)
  (m:PySem.Within mA ns) (hsz:ns.length<=sizeLine)
  (h:∀ h',ObjM h' x dx C (λy=>if y=name then some v else mA y)->Heap.SameBut dx s.heap h'->Q () { s with heap:=h',toks:=s.toks+2 }) :
  wpAny (model prog w) A (setAttr (.ref x) name v) Q E s:=by
 obtain⟨q,J,u⟩:=I.look;refine W.set_plain X J o (W.osa_open (s:={ s with toks:=s.toks+1 }) (r:=none) X J p n λb=>?_);obtain⟨z,j,g⟩:=W.any_some i;refine qX (xq (qX (qX (wpAny_loadPart I.obj (qX (W.Looks.here (s:={ s with toks:=s.toks+1 }) (W.looks_clsIn X j) ?_))))));rw[g];refine xq (a:=some dx) (qX (xq (qX ?_)));refine wpAny_nsSet1 (s:={ s with toks:=s.toks+1 }) I.ns λh' b c=>?_
 obtain⟨t,l,k,e,f,d⟩:=b.count (PySem.Within.cons name v m);refine qX (wpAny_lookBehind e (by rw[f];exact pastItsLine_dict (le_trans d (by rw[xJ];omega))) ?_);exact xq (h _ ⟨(c.2 _ (Ne.symm I.ne)).trans I.obj,b,I.ne⟩ c)
def zMf (X:K.In s.heap)(b:W.makesIn K C=true)
  (c:W.findIn K (.ref C) "__init__"=some (some (.ref f))) (d:W.typeIn K (.ref f)=some (.type "function"))
  (h:codeAny (model prog w) (A.under (.builtin "type.__call__" ⟨.ref C::vs,kw⟩)) (.call (.ref f) ⟨.ref (s.heap.objs.size+1)::vs,kw⟩) (W.InitBack (s.heap.objs.size+1) R)
   { s with heap:=(s.heap.push W.emptyDict).push (W.instObj C s.heap.objs.size) }) :
  codeAny (model prog w) A (.call (.ref C) ⟨vs,kw⟩) R s:=W.make_core (W.makes_of X b) (W.looks_findIn X c) (λself=>W.bind_fn X self d) (.inl rfl) h
end
noncomputable def putF (f:Str)(v:V):List (Str×V)->List (Str×V)
 | []=>[(f,v)]
 | (g,x)::r=>if g=f then (g,v)::r else (g,x)::putF f v r
theorem zB9 (f g:Str)(v:V):∀ fs:List (Str×V),(putF f v fs).lookup g=if g=f then some v else fs.lookup g
 | []=>by
  show List.lookup g [(f,v)]=_;by_cases h:g=f
  .have hb:(g==f)=true:=beq_iff_eq.mpr h;simp only[List.lookup,hb,if_pos h]
  .have hb:(g==f)=false:=beq_eq_false_iff_ne.mpr h;simp only[List.lookup,hb,if_neg h]
 | (k,x)::r=>by
  have ih:=zB9 f g v r;rw[show putF f v ((k,x)::r)=(if k=f then (k,v)::r else (k,x)::putF f v r) from rfl];by_cases hk:k=f
  .rw [if_pos hk];by_cases h:g=k
   .have hb:(g==k)=true:=beq_iff_eq.mpr h;simp only[List.lookup,hb,if_pos (h.trans hk)]
   .have hb:(g==k)=false:=beq_eq_false_iff_ne.mpr h;simp only[List.lookup,hb,if_neg (λe:g=f=>h (e.trans hk.symm))]
  .rw [if_neg hk];by_cases h:g=k
   .have hb:(g==k)=true:=beq_iff_eq.mpr h;simp only[List.lookup,hb,if_neg (λe:g=f=>hk (h.symm.trans e))]
   .have hb:(g==k)=false:=beq_eq_false_iff_ne.mpr h;simp only[List.lookup,hb];exact ih
theorem zEV (f:Str)(v:V):∀ fs:List (Str×V),f∈(putF f v fs).map (·.1)/\∀ g,g∈fs.map (·.1)->g∈(putF f v fs).map (·.1)
 | []=>⟨by simp[putF],λg h=>by simp at h⟩
 | (k,x)::r=>by
  obtain⟨i1,i2⟩:=zEV f v r;rw[show putF f v ((k,x)::r)=(if k=f then (k,v)::r else (k,x)::putF f v r) from rfl];by_cases hk:k=f
  .rw [if_pos hk];subst hk;exact⟨by simp,λg h=>by simpa using h⟩
  .rw [if_neg hk];refine⟨?_,λg h=>?_⟩
   .rw [map_cons];exact qJ _ i1
   .rw [map_cons] at h ⊢;rcases mem_cons.mp h with e | e
    .exact mem_cons.mpr (.inl e)
    .exact qJ _ (i2 g e)
theorem zES (f:Str)(v:V):∀ fs:List (Str×V),(putF f v fs).length<=fs.length+1
 | []=>by simp[putF]
 | (k,x)::r=>by
  have ih:=zES f v r;rw[show putF f v ((k,x)::r)=(if k=f then (k,v)::r else (k,x)::putF f v r) from rfl];by_cases hk:k=f
  .rw [if_pos hk,xJ,xJ];omega
  .rw [if_neg hk,xJ,xJ];omega
def RelO.some_of (r:RelO (some v) o):∃ u,o=some u/\RelV v u:=by
 cases o with
 | none=>exact r.elim
 | some u=>exact⟨u,rfl,r⟩
def RelO.none_of (r:RelO none o):o=none:=by
 cases o with
 | none=>rfl
 | some u=>exact r.elim
def zKl (r:RelV v u):W.handedIn u=true:=by
 cases v with
 | non=>cases r;rfl
 | bl b=>cases r;rfl
 | int i=>obtain⟨t,e⟩:=r;cases e;rfl
 | str x=>obtain⟨t,e⟩:=r;cases e;rfl
 | byt b=>obtain⟨t,e⟩:=r;cases e;rfl
 | flt b=>obtain⟨t,e⟩:=r;cases e;rfl
 | ref a=>cases r;rfl
 | ty n=>cases r;rfl
section
variable {P:Program}{w:World}{H H':Hp}{h h':Heap}{a C dx:Addr}{fs fs':List (Str×V)}
def zHU (b:HOk P w H h)(e:H a=some (.ins C dx fs)):∃ mA,ObjM h a dx C mA/\(∀ f,RelO (fs.lookup f) (mA f))/\PySem.Within mA (fs.map (·.1))/\fs.length<=1000/\H dx=some (.own a):=by
 obtain⟨d,z,c,ob,mA,n,r,q⟩:=b a _ e;exact⟨mA,⟨ob,n,c⟩,r,q,z,d⟩
end
structure Cls (K:W.Frag)(C:Addr):Prop where
 pg:W.plainGet K C Str.empty=true
 hd:W.hasDictIn K C=true
 po:W.plainOver K C=true
 sa:W.findIn K (.ref C) "__setattr__"=some (some (.builtin "object.__setattr__"))
def Cls.get {K:W.Frag}(c:Cls K C)(f:Str):W.plainGet K C f=true:=c.pg
def zBT (K:W.Frag)(C:Addr)(f:Str):Prop:=W.findIn K (.ref C) f=some none
def zBT.taker {K:W.Frag}(n:zBT K C f):W.takerIn K C f=some none:=by
 unfold W.takerIn;rw[show W.findIn K _ f=some none from n]
 rfl
structure Meth (K:W.Frag)(C:Addr)(m:Str)(f:Addr):Prop where
 at_:W.findIn K (.ref C) m=some (some (.ref f))
 fn:W.isFn K (.ref f)=true
 kp:W.keepIn K (.ref f)=true
section
variable {X:Cx}{pins:List (Addr×Obj)}{B:St}{H:Hp}{s:Shared}{a C dx:Addr}{fs:List (Str×V)}{f:Str}{v:V}{A:Around}{E:Value->Shared->Prop}
def zI9 (I:Inv X pins B H s)(e:H a=some (.ins C dx fs))(c:Cls X.K C)(n:zBT X.K C f)(l:fs.lookup f=some v)
  (h:∀ u s',Inv X pins B H s'->RelV v u->Q u s'):wpAny (model X.prog X.w) A (getAttr (.ref a) f b) Q E s:=by
 obtain⟨i,O,r,_,_,_⟩:=zHU I.hok e;obtain⟨u,g,d⟩:=RelO.some_of (by rw[<- l];exact r f);exact zQG I.kIn O (c.get f) c.hd n g (zKl d) (h u _ (I.tok _) d)
def zFB (I:Inv X pins B H s)(e:H a=some (.ins C dx fs))(c:Cls X.K C)(k:Meth X.K C m g)(l:fs.lookup m=none)
  (h:Q (.ref g,[.ref a]) s):wpAny (model X.prog X.w) A (getMethod (.ref a) m pl) Q E s:=by
 obtain⟨b,O,r,_,_,_⟩:=zHU I.hok e;exact zM6 I.kIn O (c.get m) k.at_ k.fn (RelO.none_of (by rw[<- l];exact r m)) h
def zIn (I:Inv X pins B H s)(e:H a=some (.ins C dx fs))(c:Cls X.K C)(n:zBT X.K C f)(v:fs.length < 1000)(m:RelV y u)
  (h:∀ s',Inv X pins B (upd H a (.ins C dx (putF f y fs))) s'->Q () s'):wpAny (model X.prog X.w) A (setAttr (.ref a) f u) Q E s:=by
 obtain⟨k,O,r,j,_,i⟩:=zHU I.hok e;refine zOq I.kIn O c.sa c.po n.taker c.hd j (by rw[qy,sizeLine_eq];omega) λh' d p=>h _ ?_
 refine I.write (x:=a) (e:=dx) (by rw[e];exact True.intro) (.inr i) (λb q t z=>(p.2 b t).trans z) (let ⟨o,_,_,e',_⟩:=d.ns;⟨o,e'⟩) ?_;refine⟨by rw[zAS O.ne];exact i,?_,O.ne,d.obj,_,d.ns,λg=>?_,λg l=>?_⟩
 .have:=zES f y fs;omega
 .show RelO ((putF f y fs).lookup g) (if g=f then some u else k g);rw[zB9];by_cases q:g=f
  .rw [if_pos q,if_pos q];exact m
  .rw [if_neg q,if_neg q];exact r g
 .by_cases q:g=f
  .rw [q];exact(zEV f y fs).1
  .refine (zEV f y fs).2 g (j g λz=>l ?_);grind
def Inv.made (I:Inv X pins B H s):Inv X pins B (upd (upd H s.heap.objs.size (.own (s.heap.objs.size+1))) (s.heap.objs.size+1) (.ins C s.heap.objs.size []))
  { s with heap:=(s.heap.push W.emptyDict).push (W.instObj C s.heap.objs.size) }:=by
 have b:(s.heap.push W.emptyDict).get? s.heap.objs.size=some W.emptyDict:=get?_push_size s.heap rfl;have d:((s.heap.push W.emptyDict).push (W.instObj C s.heap.objs.size)).get? (s.heap.objs.size+1)=some (W.instObj C s.heap.objs.size):=by
  have:=get?_push_size (s.heap.push W.emptyDict) (o:=W.instObj C s.heap.objs.size) rfl
  simp_all
 refine(I.laid (o:=.own _) (t':=s.toks) (λb u q=>get?_push_of_some _ q) (le_refl _) ⟨_,b⟩).laid (λb u q=>get?_push_of_some _ q) (Nat.le_of_eq (Heap.size_push _ _)) ?_;have a:s.heap.objs.size≠s.heap.objs.size+1:=ne_of_lt (Nat.lt_succ_self _);refine⟨by rw[zAS a,zAd],zero_le _,a,d,λ_=>none,(Heap.Ns1.of_empty (⟨W.emptyDict,#[],_,b,rfl,λe e=>absurd e (by simp),λ_=>rfl⟩)).at λo q=>get?_push_of_some _ q,λ_=>True.intro,λy c=>absurd rfl c⟩
end
def tFld (K:W.Frag)(ta:TE)(f:Str):TE:=λB H Q=>ta B H λx H1=>∃ a C dx fs v,x=.ref a/\H1 a=some (.ins C dx fs)/\Cls K C/\zBT K C f/\fs.lookup f=some v/\Q v H1
def sFld (K:W.Frag)(ta tv:TE)(f:Str):TS:=λD B H=>tv B H λy H1=>ta B H1 λx H2=>∃ a C dx fs,x=.ref a/\H2 a=some (.ins C dx fs)/\Cls K C/\zBT K C f/\fs.length < 1000 /\
 D.nx B (upd H2 a (.ins C dx (putF f y fs)))
section
variable {X:Cx}{o e value:Expr}{f:Str}{pos pos' tpos:Pos}{ta tv:TE}
def zN9 (t:PE X e ta)(p:attributeBase e f X.env (eval e X.env)=eval e X.env):PE X (.Attribute e f pos) (tFld X.K ta f):=by
 intro d s B H Q I h;refine (Attribute_any_ (thn (t d s B H _ I h) λu w b=>?_) (by rw[arm_eval_Attribute,p]));obtain⟨x,i,g,j,a,C,z,fs,v,k,m,c,n,l,q⟩:=b;subst k;obtain rfl:u=Value.ref a:=j;exact zI9 g m c n l λu' y o r=>⟨v,i,o,r,q⟩
def zRi (ha:PE X o ta)(e:PE X value tv)(z:swapsWith value (some (.Attribute o f pos')) pos.line X.env=pure false):PS X (.Assign [.Attribute o f pos'] value pos) (sFld X.K ta tv f):=by
 intro b s B H D I h;refine plainObj_wpAny_Assign_Attribute (thn (e b s B H _ I h) λu m ⟨y,w,p,i,q⟩=>thn (ha b m B w _ p q) λov A d=>?_) z;obtain⟨x,F,k,t,a,C,E,fs,r,g,c,n,l,j⟩:=d;subst r;obtain rfl:ov=Value.ref a:=t;exact zIn k g c n l i λs3 v=>⟨B,_,v,j⟩
end
section
variable {X:Cx}{pins:List (Addr×Obj)}{B:St}{H:Hp}{s:Shared}{A:Around}{E:Value->Shared->Prop}{Q:Value->Shared->Prop}{c:Value}{b:Bool}
inductive TyOf (K:W.Frag) (H:Hp):V->Value->Prop where
 | non:TyOf K H .non (.type "NoneType")
 | bl (x:Bool):TyOf K H (.bl x) (.type "bool")
 | int (i:Int):TyOf K H (.int i) (.type "int")
 | str (x:Str):TyOf K H (.str x) (.type "str")
 | flt (x:UInt64):TyOf K H (.flt x) (.type "float")
 | lst {a:Addr} {xs:List V} (e:H a=some (.lst xs)):TyOf K H (.ref a) (.type "list")
 | frz {a:Addr} {o:Obj} {xs:List V} (e:H a=some (.frz o (.lst xs))):TyOf K H (.ref a) (.type "list")
 | tup {a:Addr} {xs:List V} (e:H a=some (.tup xs)):TyOf K H (.ref a) (.type "tuple")
 | dK {a:Addr} {kvs:List (Key×V)} (e:H a=some (.dK kvs)):TyOf K H (.ref a) (.type "dict")
 | dT {a:Addr} {kvs:List (List Key×V)} (e:H a=some (.dT kvs)):TyOf K H (.ref a) (.type "dict")
 | ins {a C dx:Addr} {fs:List (Str×V)} (e:H a=some (.ins C dx fs)) (cl:Cls K C) (ha:W.findIn K (.ref C) "__class__"=some (some (.builtin "object.__class__")))
   (hn:W.specialIn K (.builtin "object.__class__") "__get__"=some (some (.builtin "getset_descriptor.__get__"))) (htk:W.takesIn K (.builtin "object.__class__")=some true)
   (hm:W.mroIn K C (.type "object")=some true):TyOf K H (.ref a) (.ref C)
end
structure Room (k:Nat)(A:Around):Prop where
 hd:A.handled=none
 dp:A.depth+3*k+105 < recursionLimit
 un:A.units+16*k+200 < cLine
def Room.mono (r:Room k A)(h:j<=k):Room j A:=⟨r.hd,by have:=r.dp;omega,by have:=r.un;omega⟩
def Room.deeper (r:Room (k+1) A)(env:Env):Room k (A.deeper env) :=
 ⟨r.hd,by have:=r.dp;show A.depth+1+3*k+105 < _;omega,by have:=r.un;show A.units+3+16*k+200 < _;omega⟩
def zI2 {A:Around}:(A.under (.builtin "type.__call__" ⟨.ref C::us,kw⟩)).depth=A.depth+1:=rfl
def zI1 {A:Around}:(A.under (.builtin "type.__call__" ⟨.ref C::us,kw⟩)).units=A.units+1:=rfl
def Room.make (r:Room (k+1) A)(C:Addr)(us:List Value)(kw:List (Str×Value)):Room k (A.under (.builtin "type.__call__" ⟨.ref C::us,kw⟩)) :=
 ⟨r.hd,by have:=r.dp;rw[zI2];omega,by have:=r.un;rw[zI1];omega⟩
def Room.depth (r:Room k A):A.depth < recursionLimit:=by have:=r.dp;omega
def Room.units (r:Room k A):A.units+64 < cLine:=by have:=r.un;omega
def tNil:TA:=λ_ H Q=>Q [] H
def zRO (ta:TE)(tr:TA):TA:=λB H Q=>ta B H λx H1=>tr B H1 λxs H2=>Q (x::xs) H2
section
variable {X:Cx}{e:Expr}{es:List Expr}{te:TE}{t:TA}{pos:Pos}
def zBE:PA X [] tNil:=λ_ _ _ _ H Q I h=>Calls.spliced_nil ⟨[],H,I,.nil,h⟩
def zAX (l:PE X e te)(k:PA X es t)(i:starEach (e::es) X.env=(false,eval e X.env)::starEach es X.env:=by rfl):PA X (e::es) (zRO te t):=by
 intro c a s B H Q I h;rw[i];show wpAny _ _ (spliced ((false,eval e X.env)::backTo c (starEach es X.env))) _ _ s;refine Calls.spliced_cons (thn (l a s B H _ I h) λu g d=>?_);obtain⟨x,j,f,r1,o⟩:=d;exact thn (k c a g B j _ f o) λus r b=>by obtain⟨m,n,p,r2,q⟩:=b;exact⟨x::m,n,p,.cons r1 r2,q⟩
def tTup (t:TA):TE:=λB H Q=>t B H λxs H1=>xs.length<=sizeLine/\∀ p,H1 p=none->Q (.ref p) (upd H1 p (.tup xs))
def tLst (t:TA):TE:=λB H Q=>t B H λxs H1=>xs.length<=sizeLine/\∀ p,H1 p=none->Q (.ref p) (upd H1 p (.lst xs))
def zRk {x1}(h:PA X es t):PE X (.Tuple es x1 pos) (tTup t):=by
 intro a s B H Q I hq;refine wpAny_Tuple_spliced (thn (h pos a s B H _ I hq) λus b ⟨f,d,c,r,z,q⟩=>⟨by rw[<- r.length];exact z,?_⟩);refine⟨.ref b.heap.objs.size,upd d b.heap.objs.size _,c.laid (λb u e=>get?_push_of_some _ e) (le_refl _) ?_,rfl,q _ (c.hok.fresh (le_refl _))⟩;exact⟨z,us,r,⟨_,get?_push_size _ rfl,rfl,_,rfl⟩⟩
def zN8 (h:PA X es t):PE X (.List es pos) (tLst t):=by
 intro a s B H Q I hq;refine wpAny_List_spliced (thn (h pos a s B H _ I hq) λus b ⟨f,d,c,r,z,q⟩=>⟨by rw[<- r.length];exact z,?_⟩);refine⟨.ref b.heap.objs.size,upd d b.heap.objs.size _,c.laid (λb u e=>get?_push_of_some _ e) (le_refl _) ?_,rfl,q _ (c.hok.fresh (le_refl _))⟩;exact⟨z,us,0,r,get?_push_size _ rfl⟩
end
abbrev Sp:=List V->Hp->VK->XK->Prop
abbrev CXT:=List Env->Hp->Shared->XK->Value->Shared->Prop
structure Env0 (P:Program)(w:World)(K:W.Frag)(mg:Str->Option Value)(base:Heap)(A:Around)(outer:List Env)(s:Shared)(H:Hp):Prop where
 frames:A.frames=some outer
 mod:Mod K mg base
 bs:∀ b o,base.get? b=some o->s.heap.get? b=some o/\H b=none
 bsz:base.objs.size<=s.heap.objs.size
 funs:s.heap.FunFrames base outer
 frf:∀ b∈frs outer,H b=none
 hok:HOk P w H s.heap
 bare:AllBare s.gens
 tree:(model P w).prog.given.tree=none
 tabs:zIc K H
def CE (outer:List Env)(P:Program)(w:World)(H:Hp)(s:Shared)(Q:VK)(u:Value)(s':Shared):Prop :=
 ∃ v H',s'.os=s.os/\AllBare s'.gens/\Un (frs outer) [] H H' s.heap s'.heap/\HOk P w H' s'.heap/\RelV v u/\Q v H'
def CR (CX:CXT)(outer:List Env)(P:Program)(w:World)(H:Hp)(s:Shared)(Q:VK)(E:XK)(r:Result)(s':Shared):Prop :=
 match r with
 | .ok (.ret u)=>CE outer P w H s Q u s'
 | .ok _=>False
 | .error e=>CX outer H s E e s'
structure FnOk (P:Program)(w:World)(K:W.Frag)(mg:Str->Option Value)(base:Heap)(CX:CXT)(k:Nat)(f:Addr)(fd:FuncData)(ps:List Str)(sp:Sp):Prop where
 len:∀ vs H Q E,sp vs H Q E->vs.length=ps.length
 run:∀ (A:Around) (outer:List Env) (s:Shared) (H:Hp) (args:Args) (us:List Value) (vs:List V) (Q:VK) (E:XK),Room k A->Env0 P w K mg base A outer s H->BindsTo s fd args (ps.zip us)->Vals vs us->sp vs H Q E ->
  codeAny (model P w) A (.call (.ref f) args) (CR CX outer P w H s Q E) s
def FnOk.mono {K:W.Frag}(F:FnOk P w K mg base CX j f fd ps sp)(h:j<=k) :
  FnOk P w K mg base CX k f fd ps sp:=⟨F.len,λA a s H b us d Q E c=>F.run A a s H b us d Q E (c.mono h)⟩
def FnOk.imp {K:W.Frag}(F:FnOk P w K mg base CX k f fd ps sp)
  (h:∀ vs H Q E,sp' vs H Q E->sp vs H Q E):FnOk P w K mg base CX k f fd ps sp' :=
 ⟨λvs H Q E q=>F.len vs H Q E (h _ _ _ _ q),λA a s H b us vs Q E d e g c i=>F.run A a s H b us vs Q E d e g c (h _ _ _ _ i)⟩
def Env0.make {K:W.Frag}(e:Env0 P w K mg base A outer s H)(C:Addr)(us:List Value)(kw:List (Str×Value)) :
  Env0 P w K mg base (A.under (.builtin "type.__call__" ⟨.ref C::us,kw⟩)) outer s H:=⟨by first | exact e.frames | simpa using e.frames,e.mod,e.bs,e.bsz,e.funs,e.frf,e.hok,e.bare,e.tree,e.tabs⟩
section
variable {X:Cx}{pins:List (Addr×Obj)}{B:St}{H:Hp}{s s':Shared}
def Inv.env0 (I:Inv X pins B H s):Env0 X.prog X.w X.K X.mg X.base X.A X.stack s H :=
 ⟨I.ok.frames,I.ok.mod,I.bs,le_trans I.ok.bsz I.sz,I.stack,I.stkFree,I.hok,I.bare,I.ok.pyl.2.1,I.tabs⟩
def Inv.after (I:Inv X pins B H s)(h:CE X.stack X.prog X.w H s Q u s'):EP X pins B Q u s':=by
 obtain⟨v,c,i,a,un,b,r,q⟩:=h;obtain⟨f,g,d,t,e⟩:=s'
 simp_all
 exact⟨v,c,I.call un b a λb z=>absurd z (by simp),r,q⟩
end
def zME (sp:Sp)(dvs:List V)(E:XK)(t:TA):TE:=λB H Q=>t B H λvs H1=>sp (vs++dvs) H1 Q E
def zRL (C:Addr)(m:Str)(sp:Sp)(dvs:List V)(E:XK)(ta:TE)(t:TA):TE:=λB H Q=>ta B H λx H1=>∃ a dx fs,x=.ref a/\H1 a=some (.ins C dx fs)/\fs.lookup m=none /\
 t B H1 λvs H2=>sp (x::(vs++dvs)) H2 Q E
def zBJ (K:W.Frag)(fd:FuncData)(ps:List Str)(ds:List Value):Prop :=
 ∀ (s:Shared) (us:List Value),K.In s.heap->(us++ds).length=ps.length->BindsTo s fd ⟨us,[]⟩ (ps.zip (us++ds))
def zBJ.all {K:W.Frag}(h:∀ us:List Value,us.length=ps.length->bindArgs fd ⟨us,[]⟩=pure (ps.zip us)):zBJ K fd ps []:=λs us _ a=>by
 simp_all
 exact .of_eq (h us a)
def zFP (CX:CXT)(X:Cx)(E:XK):Prop:=∀ (pins:List (Addr×Obj)) (B:St) (H:Hp) (s:Shared) (e:Value) (s':Shared),Inv X pins B H s->CX X.stack H s E e s'->X.xe e s'
section
variable {X:Cx}{CX:CXT}{k:Nat}{f C:Addr}{fd:FuncData}{ps:List Str}{sp:Sp}{dvs:List V}{ds:List Value}{E:XK}{x m:Str}{p pos apos:Pos}{e o:Expr}{es:List Expr}{ta:TE}{t:TA}
def zE1 {a:List (Addr×Obj)}{B:St}{H:Hp}{s:Shared}{Q:VK}{us:List Value}{vs:List V}(F:FnOk X.prog X.w X.K X.mg X.base CX k f fd ps sp)(b:Room k X.A)(g:zBJ X.K fd ps ds)(j:Vals dvs ds)(c:zFP CX X E)
  (I:Inv X a B H s) (r:Vals vs us) (h:sp (vs++dvs) H Q E):wpAny (model X.prog X.w) X.A (call (.ref f) us) (EP X a B Q) X.xe s:=by
 have r2:=r.append j;refine wpAny_call (codeAny_mono (F.run X.A X.stack s H _ _ _ Q E b I.env0 (g s us I.kIn (by rw[<- r2.length];exact F.len _ _ _ _ h)) r2 h) λr d hq=>?_);cases r with
 | error e=>exact c a B H s e d I hq
 | ok i =>
  cases i with
  | ret u=>exact I.after hq
  | next=>exact False.elim hq
  | brk=>exact False.elim hq
  | cont=>exact False.elim hq
def zJ0 (F:FnOk X.prog X.w X.K X.mg X.base CX k f fd ps sp)(m:Room k X.A)(v:Gl X x)(j:X.mg x=some (.ref f))(o:W.keepIn X.K (.ref f)=true)(i:zBJ X.K fd ps ds)(l:Vals dvs ds)(u:zFP CX X E)
  (g:PA X (e::es) t) (c:(x==("__debug__":Str))=false:=by decide) (n:starEach (e::es) X.env=(false,eval e X.env)::starEach es X.env:=by rfl) (b:(backTo pos (starEach es X.env)).any (·.1)=false:=by rfl) :
  PE X (.Call (.Name x p) (e::es) [] pos) (zME sp dvs E t):=by
 intro a s B H Q I h;refine wpAny_Call_Name_kw (zET I v j ?_ c);refine W.callWith_K I.ok.mod.kin o (thn (g pos a s B H _ I h) λus w ⟨z,y,d,r,q⟩=>⟨d.kIn,?_⟩) n b;exact zE1 F m i l u d r q
def zMV (F:FnOk X.prog X.w X.K X.mg X.base CX k f fd ps sp)(c:Room k X.A)(d:Gl X x)(e:X.mg x=some (.ref f))(l:W.keepIn X.K (.ref f)=true)(i:zBJ X.K fd ps ds)(g:Vals dvs ds)(j:zFP CX X E)
  (a:(x==("__debug__":Str))=false:=by decide):PE X (.Call (.Name x p) [] [] pos) (zME sp dvs E tNil):=by
 intro b s B H Q I h;refine wpAny_Call_Name_kw (zET I d e ?_ a);exact W.callWith_K0 I.kIn l (zE1 F c i g j I .nil h)
theorem zO6 {pl:Sem Bool}(he:PE X o ta)(c:Cls X.K C)(hm:Meth X.K C m f)(F:FnOk X.prog X.w X.K X.mg X.base CX k f fd ps sp)(hr:Room k X.A)(hb:zBJ X.K fd ps ds)(hd:Vals dvs ds)(hx:zFP CX X E)(ha:PA X (e::es) t)
  (hst:starEach (e::es) X.env=(false,eval e X.env)::starEach es X.env:=by rfl) (hpl:(backTo pos (starEach es X.env)).any (·.1)=false:=by rfl)
  (ht:eval (.Call (.Attribute o m apos) (e::es) [] pos) X.env=(do
   let ov<-eval o X.env
   standAt apos.atName
   let (f,first)<-holding [ov] (getMethod ov m pl)
   callWith pos f first (backTo pos (starEach (e::es) X.env)) (backToKw pos (keywordEach [] X.env))):=by rfl) :
  PE X (.Call (.Attribute o m apos) (e::es) [] pos) (zRL C m sp dvs E ta t):=by
 intro pins s B H Q I h;refine W.methodCall_KW (pl:=pl) (thn (he pins s B H _ I h) λu s1 zz27=>?_) ht;obtain⟨x,H1,I1,rx,a,dx,fs,ex,ea,l,q⟩:=zz27;subst ex;obtain rfl:u=Value.ref a:=rx;refine zFB I1 ea c hm l ?_;refine W.callWith_K (first:=[.ref a]) (h₀:=X.base) I.ok.mod.kin hm.kp (thn (ha pos pins s1 B H1 _ I1 q) λus s2 ⟨vs,H2,I2,r,q2⟩=>⟨I2.kIn,?_⟩) hst hpl;exact zE1 (us:=.ref a::us) (vs:=.ref a::vs) F hr hb hd hx I2 (.cons rfl r) q2
theorem zMS {pl:Sem Bool}(he:PE X o ta)(c:Cls X.K C)(hm:Meth X.K C m f)(F:FnOk X.prog X.w X.K X.mg X.base CX k f fd ps sp)(hr:Room k X.A)(hb:zBJ X.K fd ps ds)(hd:Vals dvs ds)(hx:zFP CX X E)
  (ht:eval (.Call (.Attribute o m apos) [] [] pos) X.env=(do
   let ov<-eval o X.env
   standAt apos.atName
   let (f,first)<-holding [ov] (getMethod ov m pl)
   callWith pos f first (backTo pos (starEach [] X.env)) (backToKw pos (keywordEach [] X.env))):=by rfl) :
  PE X (.Call (.Attribute o m apos) [] [] pos) (zRL C m sp dvs E ta tNil):=by
 intro pins s B H Q I h;refine W.methodCall_KW (pl:=pl) (thn (he pins s B H _ I h) λu s1 zz28=>?_) ht;obtain⟨x,H1,I1,rx,a,dx,fs,ex,ea,l,q⟩:=zz28;subst ex;obtain rfl:u=Value.ref a:=rx;refine zFB I1 ea c hm l ?_;exact W.callWith_K0 (first:=[.ref a]) I1.kIn hm.kp (zE1 (us:=[.ref a]) (vs:=[.ref a]) F hr hb hd hx I1 (.cons rfl .nil) q)
structure Mk (K:W.Frag)(C f:Addr):Prop where
 makes:W.makesIn K C=true
 init:W.findIn K (.ref C) "__init__"=some (some (.ref f))
 fn:W.isFn K (.ref f)=true
 kp:W.keepIn K (.ref C)=true
end
structure zAa (N P:List Str)(sc:Scope):Prop where
 kind:sc.kind=.function
 co:sc.isCoroutine=false
 gen:sc.isGenerator=false
 nd:N.Nodup
 pre:N.take P.length=P
 par:∀ x∈P,sc.names.lookup x=some .local\/sc.names.lookup x=some .cell
 nofree:∀ y∈sc.names,y.2≠.free
def zGx {a:Str->Option NameKind}:∀ {binds:List (Str×Value)} {m:Str->Option Value},(∀ v,(x,v)∉binds)->bindL a binds m x=m x
 | [],_,_=>rfl
 | (n,v)::r,m,h=>by
  unfold bindL;rw[zGx λw hw=>h w (qJ _ hw)];split
  .have:x≠n:=by rintro rfl;exact h v q9
   simp[this]
  .rfl
def zGz {a:Str->Option NameKind}:∀ {binds:List (Str×Value)} {m:Str->Option Value},(∀ v,(x,v)∉binds)->bindC a binds m x=m x
 | [],_,_=>rfl
 | (n,v)::r,m,h=>by
  unfold bindC;rw[zGz λw hw=>h w (qJ _ hw)];split
  .rfl
  .have:x≠n:=by rintro rfl;exact h v q9
   simp[this]
theorem zGy {kindOf:Str->Option NameKind}:∀ {P:List Str} {vs:List Value} {i:Nat} {m:Str->Option Value},P.Nodup->P[i]?=some x->vs[i]?=some v->kindOf x=some .local ->
  bindL kindOf (P.zip vs) m x=some v
 | [],_,_,_,_,h,_,_=>by simp at h
 | _::_,[],_,_,_,_,h,_=>by simp at h
 | p::P,w::vs,0,m,nd,h1,h2,hk=>by
  simp at h1 h2;subst h1;subst h2;show bindL kindOf ((p,w)::P.zip vs) m p=_;unfold bindL;rw[zGx λv hv=>(nodup_cons.mp nd).1 (of_mem_zip hv).1,if_pos hk];simp
 | p::P,w::vs,i+1,m,nd,h1,h2,hk=>by
  show bindL kindOf ((p,w)::P.zip vs) m x=_;unfold bindL;exact zGy (i:=i) (nodup_cons.mp nd).2 (by simpa using h1) (by simpa using h2) hk
theorem zG0 {kindOf:Str->Option NameKind}:∀ {P:List Str} {vs:List Value} {i:Nat} {m:Str->Option Value},P.Nodup->P[i]?=some x->vs[i]?=some v->kindOf x≠some .local ->
  bindC kindOf (P.zip vs) m x=some v
 | [],_,_,_,_,h,_,_=>by simp at h
 | _::_,[],_,_,_,_,h,_=>by simp at h
 | p::P,w::vs,0,m,nd,h1,h2,hk=>by
  simp at h1 h2;subst h1;subst h2;show bindC kindOf ((p,w)::P.zip vs) m p=_;unfold bindC;rw[zGz λv hv=>(nodup_cons.mp nd).1 (of_mem_zip hv).1,if_neg hk];simp
 | p::P,w::vs,i+1,m,nd,h1,h2,hk=>by
  show bindC kindOf ((p,w)::P.zip vs) m x=_;unfold bindC;exact zG0 (i:=i) (nodup_cons.mp nd).2 (by simpa using h1) (by simpa using h2) hk
noncomputable def zBy (N:List Str)(vs:List V):St:=vs.map some++List.replicate (N.length - vs.length) none
noncomputable def cxOf (CX:CXT)(P:Program)(w:World)(K:W.Frag)(mg:Str->Option Value)(base:Heap)(N:List Str)(qual:Str)(scope:Scope)(f:Addr)(cd:Value)(A:Around)(outer:List Env)(s:Shared)(H:Hp)(E:XK):Cx where
 prog:=P
 w:=w
 K:=K
 mg:=mg
 base:=base
 A:=A.deeper (envOfC qual scope s.heap.objs.size f cd)
 N:=N
 O6:=s
 Y6:=H
 env:=envOfC qual scope s.heap.objs.size f cd
 outer:=outer
 stack:=envOfC qual scope s.heap.objs.size f cd::outer
 ex:=[]
 calm:=true
 fn:=λ_=>true
 pn:=[]
 xe:=λe s'=>wpAny (model P w) (A.deeper (envOfC qual scope s.heap.objs.size f cd)) (leaving (envOfC qual scope s.heap.objs.size f cd) e) (λ_ s''=>CX outer H s E e s'') (λe' s''=>CX outer H s E e' s'') s'
def zIX {sc:Scope}(h:sc.names.lookup x=some .cell):∃ c,(cellsFrom n sc.names []).lookup x=some c:=Option.isSome_iff_exists.mp (W.cellsFrom_some sc.names n [] (.inl h))
def zGg {K:W.Frag}
  (S:zAa N ps scope) (F:A.handled=none) (o:A.depth+1+Builtin.pylongFrames < recursionLimit) (a:Env0 P w K mg base A outer s H) (I:vs.length=ps.length) (r:Vals vs us)
  (x:InCallC s s.heap.objs.size (bindL (envOfC qual scope s.heap.objs.size f cd).kindOf (ps.zip us) λ_=>none) (cellsFrom (s.heap.objs.size+1) scope.names []) (bindC (envOfC qual scope s.heap.objs.size f cd).kindOf (ps.zip us) λ_=>none) s1) :
  Inv (cxOf CX P w K mg base N qual scope f cd A outer s H E) [] (zBy N vs) H s1:=by
 have D:ps.length<=N.length:=by have:=congrArg List.length S.pre;rw[length_take] at this;omega
 obtain⟨h1,J,rfl,B⟩:=x.done;have g:∀ b:Addr,b∉(cxOf CX P w K mg base N qual scope f cd A outer s H E).ex:=λb z=>absurd (show b∈([]:List Addr) from z) (by simp)
 refine⟨⟨a.mod,S.kind,rfl,rfl,le_refl _,λy z c h1 h2=>?_,λy d=>?_,λy c _ h=>?_,λ_=>F,Around.frames_deeper a.frames,.inr ⟨rfl,rfl⟩,λb z=>absurd z (g b),a.bs,a.bsz,λb _ _=>g b,λb z=>absurd z (g b),a.funs,a.frf,⟨o,a.tree,_,_,rfl,S.gen,S.co,rfl,rfl⟩,a.tabs⟩,
  rfl,a.bare,Un.kept B,⟨_,x.toInCall.ns,λi y v h1 h2 h3=>?_⟩,λy c h=>⟨_,x.cell y c h⟩,a.hok.fresh (le_refl _),λy c h=>?_,λp l=>absurd (show p∈([]:List (Addr×Obj)) from l) (by simp),a.hok.kept B,?_⟩
 .exact name_of_addr x.apart (PySem.mem_of_lookup h1) (PySem.mem_of_lookup h2)
 .have d:=d;rcases d with d | d
  .exact zIX d
  .exact absurd rfl (S.nofree _ (PySem.mem_of_lookup d))
 .exact Nat.le_of_lt (x.above y c (PySem.mem_of_lookup h))
 .have m:i < vs.length:=by
   unfold zBy at h2;by_cases m:i < vs.length
   .exact m
   .rw [getElem?_append_right (by simpa using m)] at h2;rw[getElem?_replicate] at h2;split at h2<;>cases h2
  have G:vs[i]?=some v:=by
   unfold zBy at h2;rw[getElem?_append_left (by simpa using m),getElem?_map] at h2
   simp_all
  obtain⟨u,t,C⟩:=r.get G;have l:ps[i]?=some y:=by
   rw[<- S.pre,List.getElem?_take_of_lt (by omega)];exact h1
  have j:ps.Nodup:=by rw[<- S.pre];exact S.nd.sublist (List.take_sublist _ _)
  refine⟨u,C,?_⟩;rcases S.par y (mem_of_getElem? l) with k | k
  .exact .inl ⟨k,zGy j l t k⟩
  .obtain ⟨c,e⟩:=zIX (n:=s.heap.objs.size+1) k;refine .inr ⟨.inl k,c,e,?_⟩;have q:=x.cell y c e;rw[zG0 j l t (by show scope.names.lookup y≠_;rw[k];decide)] at q;exact q
 .exact a.hok.fresh (Nat.le_of_lt (x.above y c (PySem.mem_of_lookup h)))
 .unfold zBy;show _=N.length;rw[qQ,qy,length_replicate];omega
def zTI {K:W.Frag}{kV:Value}
     (R:K.lookup f=some ⟨oc,od,.func (W.fnOf name qual params body scope dV kV doc pm an cdv ct),osl⟩) (z:W.codeIn K cdv qual=true) (S:zAa N ps scope)
  (len:∀ vs H Q E,sp vs H Q E->vs.length=ps.length)
  (c:∀ (A:Around) (outer:List Env) (s:Shared) (H:Hp) (vs:List V) (Q:VK) (E:XK),Room k (A.deeper (envOfC qual scope s.heap.objs.size f cdv))->sp vs H Q E ->
   ∃ t,PSs (cxOf CX P w K mg base N qual scope f cdv A outer s H E) body t/\t { nx:=λ_ H'=>Q .non H',rt:=Q } (zBy N vs) H) :
  FnOk P w K mg base CX (k+1) f (W.fnOf name qual params body scope dV kV doc pm an cdv ct) ps sp:=by
 refine⟨len,λA outer s H C us vs Q E j g L r i=>?_⟩;have T:=len _ _ _ _ i;have F:K.In s.heap:=g.mod.kin.keeps λb o e=>(g.bs b o e).1
 have m:s.heap.NoLimit:=g.mod.nolimit.keeps λb o e=>(g.bs b o e).1
 have a:∀ y∈ps.zip us,scope.names.lookup y.1=some .local\/(scope.names.lookup y.1=some .cell/\((cellsFrom (s.heap.objs.size+1) scope.names []).lookup y.1).isSome=true):=λzz29 M=>by
  obtain⟨n,v⟩:=zz29;rcases S.par n (of_mem_zip M).1 with q | q
  .exact .inl q
  .exact .inr ⟨q,W.cellsFrom_some _ _ _ (.inl q)⟩
 refine codeAny_call_function j.depth (F _ _ R) rfl S.co S.gen rfl (W.codeRec_of F z) (L _ _ _ _ ?_);refine wpAny_newFunctionEnv_cells S.kind a λenv U G x=>?_
 subst U;refine⟨m.keeps x.toInCall.keep,codeAny_func ?_⟩;obtain⟨t,O,hq⟩:=c A outer s H vs Q E (j.deeper _) i;have I:Inv (cxOf CX P w K mg base N qual scope f cdv A outer s H E) [] (zBy N vs) H G:=zGg S j.hd (by have:=j.dp;show A.depth+1+100 < _;omega) g T r x;refine wpAny_mono (O [] G (zBy N vs) H _ I hq) (λfl B d=>?_) λe B d=>d
 have h:∀ {l:St} {H':Hp} {v:V} {u:Value},Inv (cxOf CX P w K mg base N qual scope f cdv A outer s H E) [] l H' B->RelV v u->Q v H'->CE outer P w H s Q u B :=
  λ{l H' v u} J p q=>⟨v,H',J.os,J.bare,J.base,J.hok,p,q⟩
 cases fl with
 | ret u =>
  obtain⟨v,l,H',J,p,q⟩:=d;exact h J p q
 | next =>
  obtain⟨l,H',J,q⟩:=d;exact h (v:=V.non) (u:=Value.none) J rfl q
 | brk =>
  obtain⟨_,_,_,q⟩:=d;exact False.elim q
 | cont =>
  obtain⟨_,_,_,q⟩:=d;exact False.elim q
section
variable {X:Cx}{x:Str}{p pos:Pos}{e:Expr}{es:List Expr}{t:TA}{id T:String}{r:List V->Hp->VK->Prop}
def tCB (r:List V->Hp->VK->Prop)(t:TA):TE:=λB H Q=>t B H λvs H1=>r vs H1 Q
def zFi (m:zEs X (.builtin id) r)(k:Gl X x)(v:X.mg x=none)(f:bootBuiltins x=some (.builtin id))(n:PA X (e::es) t)(g:x ≠ "__name__":=by decide)(d:(x==("__debug__":Str))=false:=by decide)
  (o:starEach (e::es) X.env=(false,eval e X.env)::starEach es X.env:=by rfl) (c:(backTo pos (starEach es X.env)).any (·.1)=false:=by rfl):PE X (.Call (.Name x p) (e::es) [] pos) (tCB r t):=by
 intro a s B H Q I h;refine wpAny_Call_Name_kw (zCy I k v f ?_ g d);exact PyProof.Rows.callWith_builtin1 (thn (n pos a s B H _ I h) λus j b=>by obtain⟨l,u,i,r1,q⟩:=b;exact m a j B u l us Q i r1 q) o c
def zGU (k:zEs X (.type T) r)(q:Gl X x)(j:X.mg x=none)(o:bootBuiltins x=some (.type T))(f:PA X (e::es) t)(l:x ≠ "__name__":=by decide)(d:(x==("__debug__":Str))=false:=by decide)
  (v:starEach (e::es) X.env=(false,eval e X.env)::starEach es X.env:=by rfl) (c:(backTo pos (starEach es X.env)).any (·.1)=false:=by rfl):PE X (.Call (.Name x p) (e::es) [] pos) (tCB r t):=by
 intro a s B H Q I h;refine wpAny_Call_Name_kw (zCy I q j o ?_ l d);exact PyProof.Rows.callWith_type1 (thn (f pos a s B H _ I h) λus n b=>by obtain⟨u,i,g,r1,m⟩:=b;exact k a n B i u us Q g r1 m) v c
end
end L2
namespace HT
open PySem PyProof.Rows
section
open PySem.SeqAt
open PySem.AutoSeq1 (wpAny_loadPart')
open PySem.MeetsSeq PySem.MeetsSeq2 PySem.MeetsSeq3
end
section
variable {prog:Program}{w:World}{A:Around}{E:Value->Shared->Prop}{s:Shared}
def zQv (i:IsTup s.heap t vs.toArray)(h:IsTup s.heap b ws.toArray)(e:vs≠[])
  (h1:ws=[]->Q (.ref t) s) (h2:ws≠[]->Q (.ref s.heap.objs.size) { s with heap:=s.heap.push { cls:=.type "tuple",data:=.seq (vs++ws).toArray } })
  (hsz:vs.length+ws.length<=sizeLine):wpAny (model prog w) A (binaryOp .Add (.ref t) (.ref b)) Q E s:=by
 obtain⟨⟨cls,f,data,sl⟩,ho,hc,n,hd⟩:=id i;obtain⟨⟨g,a,d,c⟩,ho2,hc2,n2,hd2⟩:=id h
 simp_all
 by_cases hw:ws=[]
 .exact concat_meets ⟨_,ho,rfl⟩ ⟨_,ho2,rfl⟩ noFill_tuple_add seq_tuple_add PySem.F.slot_tuple_add PySem.F.entry_tuple_add (PySem.F.args_tuple_add_2 _ _)
   (tuple_addW1 t b vs.toArray ws.toArray n n2 f a sl c (by simpa using e) (by simp[hw])) ⟨ho,ho2,h1 hw⟩
 .refine concat_meets ⟨_,ho,rfl⟩ ⟨_,ho2,rfl⟩ noFill_tuple_add seq_tuple_add PySem.F.slot_tuple_add PySem.F.entry_tuple_add (PySem.F.args_tuple_add_2 _ _)
   (tuple_addW2 t b vs.toArray ws.toArray n n2 f a sl c (by simpa using e) (by simpa using hw) (by omega)) ⟨ho,ho2,?_⟩
  simp_all
noncomputable def sIx (n d:Nat):Option Int->Nat
 | none=>d
 | some v=>if v < 0 then (v+(n:Int)).toNat else min v.toNat n
def zHx (n d:Nat):sIx n d none=d:=rfl
def zJm (n d k:Nat):sIx n d (some (k:Int))=min k n:=rfl
def zRW (n d:Nat)(a:d<=n)(o:Option Int):sIx n d o<=n:=by
 cases o with
 | none=>exact a
 | some v =>
  show (if v < 0 then (v+_).toNat else min v.toNat n)<=n;grind
def zLg (v:Int)(n d:Nat):(if v < 0 then max (v+(n:Int)) 0 else min v (n:Int))=((sIx n d (some v):Nat):Int):=by
 show _=((if v < 0 then (v+_).toNat else min v.toNat n:Nat):Int);grind
def zJJ (a b:Option Int)(n:Nat):Builtin.Slice.sliceAdjust a b 1 (n:Int)=(((sIx n 0 a:Nat):Int),((sIx n n b:Nat):Int)):=by
 refine Prod.ext ?_ ?_
 .cases a with
  | none=>rfl
  | some v=>exact zLg v n 0
 .cases b with
  | none=>rfl
  | some v=>exact zLg v n n
def zIt (i j:Nat):Builtin.Slice.slicePlaces (i:Int) (j:Int) 1=j - i:=by
 unfold Builtin.Slice.slicePlaces;grind
def zE0 (p:IsPart v o)(h:Q o s):wpAny (model prog w) A (Builtin.Slice.slicePartIndex v) Q E s:=by
 cases p with
 | none=>exact slicePart_none h
 | int i t=>exact slicePart_int h
def zD1 {c d:Option Int}{n:Nat}{Q:Int×Int×Nat->Shared->Prop}(f:s.heap.IsSliceOf sl vl vu .none)(pl:IsPart vl c)(e:IsPart vu d)
  (h:Q (((sIx n 0 c:Nat):Int),1,sIx n n d - sIx n 0 c) s):wpAny (model prog w) A (Builtin.Slice.sliceApplied (.ref sl) (pure (n:Int))) Q E s:=by
 obtain⟨i,b,g,a⟩:=id f;refine qX (qX (wpAny_field b a (x:=vl) rfl (qX (wpAny_field b a (x:=vu) rfl (qX (wpAny_field b a rfl (xq ?_)))))));refine qX (slicePart_none ?_);refine qX (zE0 pl (qX (zE0 e (qX (xq ?_)))));simp;rw[zJJ c d n];simp;rw[zIt];exact xq h
def zMQ (xs:Array Value)(i k:Nat):((List.range k).filterMap λ(m:Nat)=>xs[((i:Int)+(m:Int)*1).toNat]?).toArray=((xs.toList.drop i).take k).toArray:=by
 have e:(λ(m:Nat)=>xs[((i:Int)+(m:Int)*1).toNat]?)=λm=>xs[i+m]?:=by
  funext m;have:((i:Int)+(m:Int)*1).toNat=i+m:=by omega
  rw[this]
 rw[e];have:=pick_run xs i k
 simp_all
 assumption
def zDl {b:Option Int}(c:IsTup s.heap t items)(i:s.heap.IsSliceOf sl vl vu .none)(pl:IsPart vl b)(k:IsPart vu hi)
  (o:¬ (sIx items.size 0 b=0/\sIx items.size items.size hi=items.size))
  (h:Q (.ref s.heap.objs.size) { s with heap:=s.heap.push { cls:=.type "tuple",data:=.seq ((items.toList.drop (sIx items.size 0 b)).take (sIx items.size items.size hi - sIx items.size 0 b)).toArray } })
  (hsz:items.size<=sizeLine):wpAny (model prog w) A (getItem (.ref t) (.ref sl)) Q E s:=by
 have a:sizeOk (.seq ((items.toList.drop (sIx items.size 0 b)).take (sIx items.size items.size hi - sIx items.size 0 b)).toArray):=by
  show ((items.toList.drop (sIx items.size 0 b)).take (sIx items.size items.size hi - sIx items.size 0 b)).toArray.size<=sizeLine;rw[xj,length_take,List.length_drop,Array.length_toList];omega
 have n:sIx items.size items.size hi<=items.size:=zRW _ _ (le_refl _) hi;obtain⟨j,f,e,l⟩:=id i;have g:s.TypeIs (.ref sl) "slice":=⟨j,f,e⟩;unfold getItem
 try with_reducible refine wpAny_holding ?_
 first | refine qX (xq ?_) | skip
 refine qX (wpAny_sequenceKey c.typeIs (by decide) ?_);refine qX (wpAny_callSpecial?_slot (name:=Str.ofString "__getitem__") c.typeIs PyProof.Rows.slot_tuple_getitem
  (wpAny_call_entry PyProof.Rows.slot_tuple_getitem c.typeIs entry_tuple_getitem ?_ (args_tuple_getitem _ _)))
 show wpAny _ _ (Builtin.Tuple.tupleItemsOf (.ref t)>>=_) _ _ s;refine qX (tupleItemsOf_ c ?_);refine qX (wpAny_typeOf g ?_);rw[if_pos (by decide)];refine qX (zD1 i pl k ?_);have d:¬ ((((sIx items.size 0 b:Nat):Int)==0&&(1:Int)==1&&(sIx items.size items.size hi - sIx items.size 0 b)==items.size)=true):=by
  grind
 show wpAny _ _ (if _=true then _ else _) _ _ s;rw[if_neg d,zMQ]
 first
  | exact qX (m:=Builtin.Tuple.tupleExact _) (wpAny_newObj_type (xq ⟨_,rfl,xq h⟩) a)
  | exact qX (m:=Builtin.Tuple.tupleExact _) (wpAny_newObj_type (qX (xq (xq ⟨_,rfl,xq h⟩))) a)
  | exact qX (qX (m:=Builtin.Tuple.tupleExact _) (wpAny_newObj_type (xq (xq ⟨_,rfl,xq h⟩)) a))
  | exact qX (qX (m:=Builtin.Tuple.tupleExact _) (wpAny_newObj_type (xq ⟨_,rfl,xq h⟩) a))
end
end HT
namespace L2
open PySem Spec PyProof.Rows
abbrev TO:=St->Hp->(Option Int->Hp->Prop)->Prop
def PO (X:Cx)(e:Option Expr)(t:TO):Prop :=
 ∀ (pins:List (Addr×Obj)) (s:Shared) (B:St) (H:Hp) (Q:Option Int->Hp->Prop),Inv X pins B H s->t B H Q ->
  wpAny (model X.prog X.w) X.A (evalPart e X.env) (λu s'=>∃ o H',Inv X pins B H' s'/\IsPart u o/\Q o H') X.xe s
def zOo:TO:=λ_ H Q=>Q none H
def zT6 (t:TE):TO:=λB H Q=>t B H λx H1=>∃ i,x=.int i/\Q (some i) H1
section
variable {X:Cx}{e:Expr}{te:TE}{lo hi:Option Expr}{tl th:TO}{pos p2:Pos}
def zO3 (h:PE X e te):PO X (some e) (zT6 te):=by
 intro a s B H Q I d;rw[evalPart_some];refine thn (h a s B H _ I d) λu j b=>?_
 obtain⟨x,g,f,r1,c⟩:=b;obtain⟨i,rfl,q⟩:=c;obtain⟨t,rfl⟩:=r1;exact⟨some i,g,f,.int i t,q⟩
def SlR (X:Cx)(r:V->Option Int->Option Int->Hp->VK->Prop):Prop :=
 ∀ (pins:List (Addr×Obj)) (s:Shared) (B:St) (H:Hp) (x:V) (v vl vu:Value) (lo hi:Option Int) (sl:Addr) (Q:VK),Inv X pins B H s->RelV x v->s.heap.IsSliceOf sl vl vu .none->IsPart vl lo->IsPart vu hi->r x lo hi H Q ->
  ∃ T id,typeLookup (.type T) "__getitem__"=pure (some (.builtin id))/\s.TypeIs v T/\wpAny (model X.prog X.w) X.A (getItem v (.ref sl)) (EP X pins B Q) X.xe s
def SlR.or (h:SlR X r)(h':SlR X r'):SlR X (λx lo hi H Q=>r x lo hi H Q\/r' x lo hi H Q):=by
 intro a s B H x v b e lo hi sl Q I g f d c q;rcases q with q | q
 .exact h a s B H x v b e lo hi sl Q I g f d c q
 .exact h' a s B H x v b e lo hi sl Q I g f d c q
def tSl (r:V->Option Int->Option Int->Hp->VK->Prop)(te:TE)(tl th:TO):TE:=λB H Q=>te B H λx H1=>tl B H1 λl H2=>th B H2 λu H3=>r x l u H3 Q
def zMR (D:SlR X r)(M:PE X e te)(L:PO X lo tl)(k:PO X hi th):PE X (.Subscript e (.Slice lo hi none p2) pos) (tSl r te tl th):=by
 intro a s B H Q I h;refine Subscript_ (thn (M a s B H _ I h) λv z c=>?_);obtain⟨x,J,p,r1,m⟩:=c;refine wpAny_Slice (thn (L a z B J _ p m) λvl G ⟨l,n,w,F,j⟩=>thn (k a G B n _ w j) λvu b d=>?_);obtain⟨u,i,C,E,K⟩:=d;rw[evalPart_none];refine xq ?_;have t:Inv X a B i { b with heap:=b.heap.push { cls:=.type "slice",data:=.fields #[vl,vu,.none] } }:=C.kept (t':=b.toks) λb ob q=>get?_push_of_some _ q
 obtain⟨T,N,o,A,y⟩:=D a { b with heap:=b.heap.push { cls:=.type "slice",data:=.fields #[vl,vu,.none] } } B i x v vl vu l u b.heap.objs.size Q t r1 (Heap.IsSliceOf.new ..) F E K;show wpAny (model X.prog X.w) X.A (subscriptTail e (.Slice lo hi none p2) v (.ref b.heap.objs.size)) (EP X a B Q) X.xe { b with heap:=b.heap.push { cls:=.type "slice",data:=.fields #[vl,vu,.none] } };exact tail_any (ops:=[.ref b.heap.objs.size,v]) A o y (by with_unfolding_all rfl)
noncomputable def cutV (xs:List V)(lo hi:Option Int):List V:=(xs.drop (HT.sIx xs.length 0 lo)).take (HT.sIx xs.length xs.length hi - HT.sIx xs.length 0 lo)
def zEf (xs:List V)(a b:Option Int):(cutV xs a b).length<=xs.length:=by
 unfold cutV;simp;omega
def rSlT (K:W.Frag):V->Option Int->Option Int->Hp->VK->Prop:=λx lo hi H Q=>∃ a xs,x=.ref a/\SqT K H a xs /\
 ¬ (HT.sIx xs.length 0 lo=0/\HT.sIx xs.length xs.length hi=xs.length)/\∀ p,H p=none->Q (.ref p) (upd H p (.tup (cutV xs lo hi)))
def zRT:SlR X (rSlT X.K):=by
 intro f s B H x v t p g i sl Q I j k m l h;obtain⟨a,d,rfl,n,u,q⟩:=h;cases j;obtain⟨c,r,e,o⟩:=I.tuple n;have b:c.toArray.size=d.length:=by rw[xj];exact r.length.symm
 refine⟨"tuple",_,PyProof.Rows.slot_tuple_getitem.lookup,e.typeIs,?_⟩;refine HT.zDl e k m l (by grind) ?_ (by simp_all);rw[b];refine⟨.ref s.heap.objs.size,_,I.laid (λb ob q=>get?_push_of_some _ q) (le_refl _) ?_,rfl,q _ (I.hok.fresh (le_refl _))⟩;exact⟨le_trans (zEf d g i) o,_,(r.drop _).take _,IsTup.new _ _⟩
def zRd (K:W.Frag):R2:=λx y H Q=>∃ a b xs ys,x=.ref a/\y=.ref b/\SqT K H a xs/\SqT K H b ys/\xs≠[]/\xs.length+ys.length<=sizeLine /\
 (ys=[]->Q (.ref a) H)/\(ys≠[]->∀ p,H p=none->Q (.ref p) (upd H p (.tup (xs++ys))))
def Vals.nil_iff (r:Vals xs us):us=[]<->xs=[]:=by
 cases r with
 | nil=>simp
 | cons _ _=>simp
end
end L2
namespace L2
open PySem Spec PyProof.Rows
noncomputable def ixN (n:Nat)(i:Int):Option Nat:=if 0<=i then (if i < n then some i.toNat else none) else if -(n:Int)<=i then some (i+n).toNat else none
noncomputable def atI {T:Type}(xs:List T)(i:Int):Option T:=(ixN xs.length i).bind λj=>xs[j]?
def zPr (h:ixN n i=some j):seqIndex? i n=some j/\j < n/\-(n:Int)<=i/\i < n:=by
 unfold ixN at h;by_cases h0:0<=i
 .rw [if_pos h0] at h;by_cases h1:i < n
  .rw [if_pos h1] at h;have e:i.toNat=j:=xQ h;exact⟨by rw[seqIndex_of h0 h1,e],by omega,by omega,h1⟩
  .simp_all
 .rw [if_neg h0] at h;by_cases h1:-(n:Int)<=i
  .rw [if_pos h1] at h;have e:(i+n).toNat=j:=xQ h;exact⟨by rw[seqIndex_neg (by omega) h1,e],by omega,h1,by omega⟩
  .simp_all
def zLn {T:Type}{xs:List T}{i:Int}{v:T}(h:atI xs i=some v):∃ j,seqIndex? i xs.length=some j/\xs[j]?=some v/\j < xs.length/\-(xs.length:Int)<=i/\i < xs.length:=by
 unfold atI at h;cases e:ixN xs.length i with
 | none=>rw[e] at h;cases h
 | some j =>
  simp_all
  obtain⟨h1,h2,h3,h4⟩:=zPr e;exact⟨j,h1,h,h2,h3,h4⟩
def zAv {T:Type}{xs:List T}{j:Nat}{v:T}(h:xs[j]?=some v):atI xs (j:Int)=some v:=by
 have a:=(zzg h).1;have e:ixN xs.length j=some j:=by
  unfold ixN
  simp_all
 unfold atI;rw[e];exact h
def zGD (b:Expr):Prop:=∀ o i,subscripted b false o i=operate [o,i] (getItem o i)
def IxR (X:Cx)(r:R2):Prop :=
 ∀ (value slice:Expr) (pins:List (Addr×Obj)) (s:Shared) (B:St) (H:Hp) (x y:V) (v u:Value) (Q:VK),Inv X pins B H s->RelV x v->RelV y u->r x y H Q ->
  subscripted slice false v u=operate [v,u] (getItem v u)->wpAny (model X.prog X.w) X.A (subscriptTail value slice v u) (EP X pins B Q) X.xe s
def MtR (X:Cx)(id:String)(r:V->List V->Hp->VK->Prop):Prop :=
 ∀ (pins:List (Addr×Obj)) (s:Shared) (B:St) (H:Hp) (x:V) (xs:List V) (v:Value) (us:List Value) (Q:VK),Inv X pins B H s->RelV x v->Vals xs us->r x xs H Q ->
  wpAny (model X.prog X.w) X.A (call (.builtin id) (v::us)) (EP X pins B Q) X.xe s
section
variable {X:Cx}{a b:Expr}{ta tb:TE}{pos:Pos}
def IxR.or (h:IxR X r)(h':IxR X r'):IxR X (λx y H Q=>r x y H Q\/r' x y H Q):=by
 intro b a c s B H x y v u Q I e f q d;rcases q with q | q
 .exact h b a c s B H x y v u Q I e f q d
 .exact h' b a c s B H x y v u Q I e f q d
def zRp (j:IxR X r)(d:PE X a ta)(l:PE X b tb)(m:zGD b):PE X (.Subscript a b pos) (tOp r ta tb):=by
 intro c s B H Q I h;exact Subscript_ (binT d l I h λv u f x y e i k g q=>j a b c f B e x y v u Q i k g q (m _ _))
def rIxL (K:W.Frag):R2:=λx y H Q=>∃ p xs i v,x=.ref p/\y=.int i/\SqL K H p xs/\atI xs i=some v/\Q v H
def rIxT (K:W.Frag):R2:=λx y H Q=>∃ p xs i v,x=.ref p/\y=.int i/\SqT K H p xs/\atI xs i=some v/\Q v H
def zKh:IxR X (rIxL X.K):=by
 intro g c a s B H x y v u Q I o A h m;obtain⟨p,F,i,z,rfl,rfl,hq,n,q⟩:=h;cases o;obtain⟨t,rfl⟩:=A;obtain⟨d,r,f,D⟩:=I.list hq;obtain⟨j,h1,h2,h3,h4,h5⟩:=zLn n;obtain⟨w,l,e⟩:=r.get h2;have C:=r.length;have E:=zKa;have b:EP X a B Q w s:=⟨z,H,I,e,q⟩;by_cases h0:0<=i
 .have k:i.toNat=j:=by
   rw[seqIndex_of h0 h5] at h1;exact xQ h1
  exact item_listR f.isList h0 (by omega) (by rw[k];simpa using l) b m
 .have k:(i+(d.toArray.size:Int)).toNat=j:=by
   rw[seqIndex_neg (by omega) h4] at h1
   simp_all
  exact subscriptTail_builtinR (x:=w) f.isList.typeIs slot_list_getitem.lookup
   (wpAny_getItem_list_neg f.isList (by omega) (by rw[xj]<;>omega) (by omega) (by rw[k];simpa using l) ⟨rfl,b⟩) m
def zOH:IxR X (rIxT X.K):=by
 intro a b e s B H x y v u Q I f n h g;obtain⟨p,o,i,z,rfl,rfl,hq,l,q⟩:=h;cases f;obtain⟨t,rfl⟩:=n;obtain⟨m,r,d,D⟩:=I.tuple hq;obtain⟨j,h1,h2,h3,h4,h5⟩:=zLn l;obtain⟨w,k,c⟩:=r.get h2;have A:=r.length;have C:=zKa;exact subscriptTail_builtinR d.typeIs slot_tuple_getitem.lookup
  (getItem_tuple (j:=j) d (by omega) (by omega) (by simp_all) (by simpa using k) ⟨rfl,(⟨z,H,I,c,q⟩)⟩) g
def Inv.lst {b:List (Addr×Obj)}{B:St}{H:Hp}{s:Shared}{p:Addr}{xs:List V}(I:Inv X b B H s)(h:H p=some (.lst xs)) :
  ∃ (a:List Value) (n:Nat),Vals xs a/\s.heap.get? p=some { cls:=.type "list",data:=.seq a.toArray n }/\xs.length<=sizeLine:=by
 obtain⟨z,a,n,r,e⟩:=I.hok p _ h;exact⟨a,n,r,e,z⟩
def zGM (a b:Option Int)(n:Nat):(sliceBounds a b none n).1=((HT.sIx n 0 a:Nat):Int)/\(sliceBounds a b none n).2.1=((HT.sIx n n b:Nat):Int)/\(sliceBounds a b none n).2.2=1:=by
 refine⟨?_,?_,rfl⟩
 .cases a with
  | none=>simp[sliceBounds,HT.sIx]
  | some i =>
   simp only[sliceBounds,HT.sIx,Option.getD_none,show (1:Int)>0 by decide,if_true];by_cases h:i < 0
   .simp only [h,if_true]<;>omega
   .simp only [h,if_false]<;>omega
 .cases b with
  | none=>simp[sliceBounds,HT.sIx]
  | some i =>
   simp only[sliceBounds,HT.sIx,Option.getD_none,show (1:Int)>0 by decide,if_true];by_cases h:i < 0
   .simp only [h,if_true]<;>omega
   .simp only [h,if_false]<;>omega
def zFX (a:List Value)(b c:Option Int):slicePick a.toArray b c none=((a.drop (HT.sIx a.length 0 b)).take (HT.sIx a.length a.length c - HT.sIx a.length 0 b)).toArray:=by
 obtain⟨h1,h2,h3⟩:=zGM b c a.toArray.size;unfold slicePick;rw[h1,h2,h3];simp only[sliceRange_one,pick_run]<;>rfl
def rSlL (K:W.Frag):V->Option Int->Option Int->Hp->VK->Prop:=λx lo hi H Q=>∃ a xs,x=.ref a/\SqL K H a xs/\∀ p,H p=none->Q (.ref p) (upd H p (.lst (cutV xs lo hi)))
def zOp:SlR X (rSlL X.K):=by
 intro c s B H x v t p f g sl Q I e i o m h;obtain⟨a,j,rfl,n,q⟩:=h;cases e;obtain⟨k,r,d,l⟩:=I.list n;have b:=r.length;refine⟨"list",_,slot_list_getitem.lookup,d.isList.typeIs,?_⟩;refine wpAny_getItem_list_slice d.isList i o m .none (by simp) ?_ (by grind);rw[zFX,<- b];refine⟨.ref s.heap.objs.size,_,I.laid (λb ob q=>get?_push_of_some _ q) (le_refl _) ?_,rfl,q _ (I.hok.fresh (le_refl _))⟩;exact⟨le_trans (zEf j f g) l,_,0,(r.drop _).take _,get?_push_size _ rfl⟩
def zGu:zEs X (.builtin "len") (λxs H Q=>∃ p ys,xs=[.ref p]/\(SqL X.K H p ys\/SqT X.K H p ys)/\Q (.int ys.length) H):=by
 intro e s B H xs us Q I r h;obtain⟨p,ys,rfl,hq,q⟩:=h;obtain⟨u,rfl,g⟩:=zIh r;cases g;have i:=zKa;rcases hq with hq | hq
 .obtain ⟨d,c,b,f⟩:=I.list hq;have a:=c.length;exact Calls.call_len_list b.isList (by simp only[xj]<;>omega) ⟨.int ys.length,H,I.tok _,⟨s.toks+1,by rw[xj,a]⟩,q⟩
 .obtain ⟨d,c,b,f⟩:=I.tuple hq;have a:=c.length;exact len_tuple b (by simp only[xj]<;>omega) ⟨.int ys.length,H,I.tok _,⟨s.toks+1,by rw[xj,a]⟩,q⟩
def zDz:zEs X (.type "list") (λxs H Q=>∃ p ys,xs=[.ref p]/\(SqL X.K H p ys\/SqT X.K H p ys)/\∀ l,H l=none->Q (.ref l) (upd H l (.lst ys))):=by
 intro f s B H xs us Q I r h;obtain⟨p,ys,rfl,hq,q⟩:=h;obtain⟨u,rfl,x⟩:=zIh r;cases x;have j:∀ (its:List Value),Vals ys its->ys.length<=sizeLine->∀ (h':Heap) (c:Nat),_ ->
   h'.get? s.heap.objs.size=some { cls:=.type "list",dict:=none,data:=.seq its.toArray c,slots:=#[] }->EP X f B Q _ { s with heap:=h' }:=λits b i h' c k e =>
  ⟨.ref s.heap.objs.size,_,I.laid (t':=s.toks) k (le_refl _) (show zCj X.prog X.w _ h' _ (.lst ys) from ⟨i,its,c,b,e⟩),rfl,q _ (I.hok.fresh (le_refl _))⟩
 rcases hq with hq | hq
 .obtain ⟨its,b,m,i⟩:=I.list hq;have g:=b.length;obtain⟨o,v,t,n,w⟩:=m.isList;exact call_list_seq p (.inl rfl) v t w (λh' c k e=>j its b i h' c k e) (by simp_all)
 .obtain ⟨its,b,m,i⟩:=I.tuple hq;have g:=b.length;obtain⟨o,v,t,n,w⟩:=m;exact call_list_seq p (.inr rfl) v t w (λh' c k e=>j its b i h' c k e) (by grind)
def zF8:zEs X (.type "tuple") (λxs H Q=>∃ p ys,xs=[.ref p]/\((SqL X.K H p ys/\∀ l,H l=none->Q (.ref l) (upd H l (.tup ys)))\/(SqT X.K H p ys/\Q (.ref p) H))):=by
 intro d s B H xs us Q I r h;obtain⟨p,ys,rfl,h⟩:=h;obtain⟨u,rfl,m⟩:=zIh r;cases m;rcases h with ⟨hq,q⟩ | ⟨hq,q⟩
 .obtain ⟨a,c,b,g⟩:=I.list hq;have f:=c.length;refine call_tuple_list b.isList (λh' j=>?_) (by grind);have i:=I.kept (t':=s.toks) j;have k :=
   i.laid (t':=s.toks) (λb o e=>get?_push_of_some _ e) (le_refl _) (show zCj X.prog X.w _ _ _ (.tup ys) from ⟨g,a,c,IsTup.new _ _⟩)
  exact⟨.ref h'.objs.size,_,k,rfl,q _ (i.hok.fresh (le_refl _))⟩
 .obtain ⟨a,c,b,g⟩:=I.tuple hq;exact call_tuple_same b ⟨.ref p,H,I,rfl,q⟩
def tyV (K:W.Frag)(T:String)(x:V)(H:Hp):Prop:=match x with
 | .str _=>T = "str"
 | .int _=>T = "int"
 | .ref p=>(T = "list"/\∃ xs,SqL K H p xs)\/(T = "tuple"/\∃ o,K.lookup p=some o/\o.cls=.type "tuple"/\o.dict=none) \/
   (T = "dict"/\((∃ kvs,H p=some (.dK kvs))\/∃ kvs,H p=some (.dT kvs)))\/(T = "set"/\∃ S n,H p=some (.set S n))
 | _=>False
def zRE {f:List (Addr×Obj)}{B:St}{H:Hp}{s:Shared}{T:String}{x:V}{v:Value}(I:Inv X f B H s)(r:RelV x v)(ty:tyV X.K T x H) :
  s.TypeIs v T/\∀ a,v=.ref a->∃ ob,s.heap.get? a=some ob/\ob.dict=none:=by
 cases x with
 | str z =>
  obtain⟨t,rfl⟩:=r;cases ty;exact⟨typeIs_str s z t,λ_ e=>nomatch e⟩
 | int i =>
  obtain⟨t,rfl⟩:=r;cases ty;exact⟨typeIs_int s i t,λ_ e=>nomatch e⟩
 | ref p =>
  cases r;rcases ty with ⟨rfl,m,hq⟩ | ⟨rfl,o,b,hc,g⟩ | ⟨rfl,b⟩ | ⟨rfl,S,n,b⟩
  .obtain ⟨l,_,k,_⟩:=I.list hq;refine⟨k.isList.typeIs,λa e=>?_⟩;cases e;obtain⟨o,n,e,c,g,_⟩:=k;exact⟨o,e,g⟩
  .refine ⟨⟨o,I.kIn p o b,hc⟩,λa e=>?_⟩;cases e;exact⟨o,I.kIn _ o b,g⟩
  .have z:∃ o,s.heap.get? p=some o/\o.ExactDict:=by
    rcases b with ⟨h,b⟩ | ⟨h,b⟩
    .obtain ⟨_,_,_,_,o,_,_,e,d,_⟩:=I.hok p _ b;exact⟨o,e,d⟩
    .obtain ⟨_,_,_,_,o,_,_,e,d,_⟩:=I.hok p _ b;exact⟨o,e,d⟩
   obtain⟨o,e,d⟩:=z;refine⟨⟨o,e,d.1⟩,λa j=>?_⟩;cases j;exact⟨o,e,d.2.1⟩
  .obtain ⟨o,_,_,_,e,d,_⟩:=I.hok p _ b;refine⟨⟨o,e,d.1⟩,λa j=>?_⟩;cases j;exact⟨o,e,d.2.1⟩
 | _=>exact False.elim ty
def tBM (K:W.Frag)(T:String)(r:V->List V->Hp->VK->Prop)(to:TE)(t:TA):TE:=λB H Q=>to B H λx H1=>tyV K T x H1/\t B H1 λxs H2=>r x xs H2 Q
variable {o e:Expr}{es:List Expr}{to:TE}{t:TA}{name:Str}{apos cpos:Pos}{T id:String}{r:V->List V->Hp->VK->Prop}
def zO9 (pa:PlainAttrs T)(j:Slot T name id)(k:typeOf (.builtin id)=pure (.type "method_descriptor"))(n:MtR X id r)(C:PE X o to)(D:PA X (e::es) t)
  (d:attributeBase o name X.env (eval o X.env)=eval o X.env:=by rfl)
  (i:((backTo cpos (starEach (e::es) X.env)).all (λx=>!x.1)&&(backToKw cpos (keywordEach [] X.env)).all (λx=>x.1.isSome)
   && decide ((e::es).length+([]:List Keyword).length+(if ([]:List Keyword).isEmpty then 0 else 1) < 30))=true:=by rfl)
  (c:(apos.endLine==cpos.line)=true:=by rfl) (F:starEach (e::es) X.env=(false,eval e X.env)::starEach es X.env:=by rfl) (b:(backTo cpos (starEach es X.env)).any (·.1)=false:=by rfl) :
  PE X (.Call (.Attribute o name apos) (e::es) [] cpos) (tBM X.K T r to t):=by
 intro a s B H Q I h;refine wpAny_Call_method_late d i c rfl (thn (C a s B H _ I h) λv A g=>?_);obtain⟨x,E,m,r1,ty,z⟩:=g;obtain⟨h1,h2⟩:=zRE m r1 ty;refine⟨T,id,pa,j,k,h1,h2,?_⟩;have l:=D cpos a A B E _ m z;rw[F] at l ⊢;refine Calls.callWith_builtin (by show (false||(backTo cpos (starEach es X.env)).any (·.1))=false;rw[b]<;>rfl) (Calls.evalArgs_plain ?_);exact thn l λus q f=>by obtain⟨p,w,y,r2,u⟩:=f;exact n a q B w x p v us Q y r1 r2 u
end
def MtM (X:Cx)(id:String)(r:V->List V->Hp->VK->Prop):Prop :=
 ∀ (pins:List (Addr×Obj)) (s:Shared) (B:St) (H:Hp) (x:V) (xs:List V) (v:Value) (us:List Value) (Q:VK),Inv X pins B H s->RelV x v->Vals xs us->r x xs H Q ->
  wpAny (model X.prog X.w) X.A (call (.builtin id) (v::us)) (EP X pins B Q) X.xe s
theorem Vals.one:∀ {x:V} {us:List Value},Vals [x] us->∃ u,us=[u]/\RelV x u
 | _,_,.cons r .nil=>⟨_,rfl,r⟩
def Vals.two (h:Vals [x,y] us):∃ u v,us=[u,v]/\RelV x u/\RelV y v:=by
 cases h with
 | cons r t =>
  cases t with
  | cons q a =>
   cases a;exact⟨_,_,rfl,r,q⟩
theorem Vals.zero:∀ {us:List Value},Vals [] us->us=[]
 | _,.nil=>rfl
def Vals.dropLast (h:Vals xs us):Vals xs.dropLast us.dropLast:=by
 induction h with
 | nil=>exact .nil
 | cons r t a =>
  cases t with
  | nil=>exact .nil
  | cons q b=>exact .cons r a
def Vals.reverse (h:Vals xs us):Vals xs.reverse us.reverse:=by
 induction h with
 | nil=>exact .nil
 | cons r t a=>rw[reverse_cons,reverse_cons];exact Vals.append a (.cons r .nil)
section
variable {X:Cx}{pins:List (Addr×Obj)}{B:St}{H:Hp}{s:Shared}{l b:Addr}{xs ys zs:List V}
def Inv.lset {a:List Value}(I:Inv X pins B H s)(c:H l=some (.lst xs))
  (e:s.heap.get? l=some { cls:=.type "list",data:=.seq a.toArray n }) (h:f a.toArray=its'.toArray) (b:Vals ys its') (hz:ys.length<=sizeLine) :
  Inv X pins B (upd H l (.lst ys)) { s with heap:=s.heap.update l (Obj.mapSeq f),toks:=t' }:=by
 have q:=PySem.IsL.update e f
 simp_all
 refine I.write (by rw[c];exact trivial) (.inl rfl) (λb' u d g=>(Heap.get?_update_other s.heap _ (Ne.symm d)).trans g) ⟨_,q⟩ ?_;exact⟨hz,its',_,b,q⟩
def Inv.lnew (I:Inv X pins B H s)(a:Vals ys its)(hz:ys.length<=sizeLine) :
  Inv X pins B (upd H s.heap.objs.size (.lst ys)) { s with heap:=s.heap.push { cls:=.type "list",data:=.seq its.toArray },toks:=t' } :=
 I.laid (λ_ _ q=>get?_push_of_some _ q) (le_refl _) ⟨hz,its,0,a,get?_push_size _ rfl⟩
def Inv.fresh (I:Inv X pins B H s):H s.heap.objs.size=none:=I.hok.fresh (le_refl _)
def Inv.lstM (I:Inv X pins B H s)(b:H l=some (.lst xs)):xs.length<=sizeLine/\∃ (a:List Value) (n:Nat),Vals xs a/\xs.length=a.length/\s.heap.get? l=some { cls:=.type "list",data:=.seq a.toArray n }:=by
 obtain⟨z,a,n,r,e⟩:=I.hok l _ b;exact⟨z,a,n,r,r.length,e⟩
def zMb (h:n<=sizeLine):Builtin.List.listTooLong n=false:=decide_eq_false (by omega)
end
section
variable {X:Cx}
def zO0:V->List V->Hp->VK->Prop:=λx vs H Q=>∃ l xs y,x=.ref l/\vs=[y]/\H l=some (.lst xs)/\xs.length < sizeLine/\Q .non (upd H l (.lst (xs++[y])))
def zGZ:MtM X "list.append" zO0:=by
 intro c s B H x m v us Q I d f h;obtain⟨l,i,y,rfl,rfl,b,k,q⟩:=h;cases d;obtain⟨u,rfl,g⟩:=f.one;obtain⟨z,a,n,r,j,e⟩:=I.lstM b;refine call_meets F.slot_list_append ⟨_,e,rfl⟩ F.entry_list_append (F.args_list_append_2 _ _) (PySem.list_append l a.toArray n u (by grind)) ⟨e,?_⟩;refine⟨.non,_,I.lset b e (by simp) (r.append (.cons g .nil)) ?_,rfl,q⟩;grind
def zOz:V->List V->Hp->VK->Prop:=λx vs H Q=>∃ l b xs zs,x=.ref l/\vs=[.ref b]/\H l=some (.lst xs)/\H b=some (.lst zs)/\xs.length+zs.length<=sizeLine/\Q .non (upd H l (.lst (xs++zs)))
def zKN:MtM X "list.extend" zOz:=by
 intro g s B H x A v us Q I p k h;obtain⟨l,b,E,D,rfl,rfl,i,m,C,q⟩:=h;cases p;obtain⟨u,rfl,w⟩:=k.one;cases w;obtain⟨z,its,n,r,y,e⟩:=I.lstM i;obtain⟨G,a,o,r2,j,t⟩:=I.lstM m;have f:its.toArray.size+a.toArray.size<=sizeLine:=by rw[xj,xj];omega
 have c:¬ (!its.toArray.isEmpty&&Builtin.List.listTooLong (its.toArray.size+a.toArray.size))=true:=by
  rw[zMb f,Bool.and_false];exact qY
 refine call_meets F.slot_list_extend ⟨_,e,rfl⟩ F.entry_list_extend (F.args_list_extend_2 _ _)
  (AutoSeq1.list_extend_list_list_0 l its.toArray n b a.toArray o c (by omega) (by omega)) ⟨e,t,?_⟩
 refine⟨.non,_,I.lset i e (by simp) (r.append r2) ?_,rfl,q⟩
 simp_all
def zHT {T:Type}(xs:List T)(k:Nat):(List.replicate k xs).flatten.length=k*xs.length:=by simp
end
end L2
namespace Att
open PySem PySem.W PySem.Calls PyProof.Rows
def zEW :∀ (ns:List Int) (vs:List Value),WellAll P h vs (ns.map WData.int)->IntsAre vs ns:=by
 intro ns
 induction ns with
 | nil =>
  intro vs w;cases w;exact .nil
 | cons n ns c =>
  intro vs w;cases w with
  | cons a b =>
   cases a;exact .cons _ _ (c _ b)
theorem zIa:∀ {ns:List Int},WData.weightAll (ns.map WData.int)<=2^20->∀ x∈ns,Builtin.Int.intBits x<=2^20
 | n::ns,h,x,hx=>by
  rw[map_cons,WData.weightAll,WData.weight] at h;rcases mem_cons.mp hx with rfl | hx
  .unfold Builtin.Int.intBits;omega
  .exact zIa (by omega) x hx
def zJj {l:OpenLaw}(j:l.most=some n)
  (b:l.row.toRowW.claim.pre args=true) (g:WellAll P h vals args) (e:WData.layableAll args=true) :
  ∃ a vs ns,vals=[Value.ref a]/\args=[WData.list (ns.map WData.int)]/\h.get? a=some { cls:=.type "list",data:=.seq vs.toArray }/\IntsAre vs ns/\(ns.length<=n/\∀ x∈ns,Builtin.Int.intBits x<=2^20):=by
 have i:=(pre_splitW b).2;obtain⟨d,r,rfl,h1,h2⟩:=hasAllW_cons ((pre_splitW b).1);obtain rfl:=hasAllW_nil h2;obtain⟨p,rfl,h3⟩:=hasW_list h1;obtain⟨ns,rfl⟩:=items_int h3;have f:ns.length<=n:=by
  have h4:(WTm.not (.lt (.lit (.int (n:Int))) (.len (.arg 0)))).holds [] { args:=[.list (ns.map .int)] }=true:=by
   have h4:=(holds_andW i).1;rw[j] at h4;exact h4
  have h5:=condW_of h4 (w_not (w_lt w_lit (w_len_list (w_arg rfl))));grind
 cases g with
 | cons k o =>
  cases o;cases k with
  | list m c=>exact⟨_,_,ns,rfl,rfl,m,zEW ns _ c,f,zIa (of_decide_eq_true (Bool.and_eq_true_iff.mp (W.layW_cons e).1).2)⟩
def zJw (l:OpenLaw)(args:List WData):l.row.toRowW.claim.post args (.bool true) args=true :=
 postW_of
  rfl
  (w_eq_bool (w_res rfl) w_lit) rfl
def zHr {l:OpenLaw}
  (B:l.most=some n) (i:d.params.defaults=[])
  (call:∀ (w:World) (O6 O2:Shared) (mg mb:Str->Option Value) (fa:Addr) (o:Obj) (pm cd doc:Value) (a:Addr) (vs:List Value) (ns:List Int),
   Ground q loose [] XP w O6 mg mb O2.heap->YP w O2.heap ->
   O2.heap.get? fa=some o->o.data=.func (docDef d.name d.params d.body d.scope pm cd doc)->O2.heap.CodeRec cd d.name->mg d.name=some (.ref fa) ->
   O2.heap.get? a=some { cls:=.type "list",data:=.seq vs.toArray }->IntsAre vs ns->(ns.length<=n/\∀ x∈ns,Builtin.Int.intBits x<=2^20)->O2.gens=#[] ->
   codeAny (model l.prog w) callerA (.call (.ref fa) ⟨[.ref a],[]⟩) (λr s'=>r=.ok (.ret (.bool true))/\OldK O2.heap s'.heap/\s'.os=O2.os/\AllBare s'.gens) O2) :
  WalkO q loose XP YP l.row.toRowW d [] (λf vs=>PySem.call f vs):=by
 intro w O6 O2 mg mb G Y fa o pm cd doc D kV v A j hD k u s p C e c y m z;obtain rfl:=Dflts.none hD i;obtain rfl:kV=.none:=Dflts.noKw hD;obtain⟨a,vs,ns,rfl,rfl,g,b,h⟩:=zJj B e m c;refine enter_call (codeAny_mono (call w O6 O2 mg mb fa o pm cd doc a vs ns G Y v (fd_plain A) j k g b h u) λr s' hq=>?_);obtain⟨rfl,h2,h3,h4⟩:=hq;exact⟨.inl ⟨.bool true,.bool true,[],rfl,λ_=>rfl,.bool true,zJw l _,λ_=>⟨List.Pairwise.nil,λ_ t=>(nomatch t)⟩⟩,h2,h3,h4⟩
section
variable {prog:Program}{w:World}{A:Around}{E:Value->Shared->Prop}{s:Shared}{K:Frag}
end
end Att
namespace L2
open PySem Spec PyProof.Rows
theorem zDD:∀ {vs:List Value} {ns:List Int},IntsAre vs ns->Vals (ns.map V.int) vs
 | _,_,.nil=>.nil
 | _,_,.cons n t h=>.cons ⟨t,rfl⟩ (zDD h)
def Only (H:Hp):Prop:=∀ b,H b=none\/∃ o xs,H b=some (.frz o (.lst xs))
noncomputable def tblT (tl:List (Str×Addr×Addr)):List (Addr×Str):=tl.map λt=>(t.2.2,lamQ t.1)
noncomputable def hpT (tl:List (Str×Addr×Addr))(H:Hp):Hp:=λb=>match (tblT tl).lookup b with
 | some q=>some (.tbl q)
 | none=>H b
theorem zGc {M:Type}:∀ {l:List (Addr×M)} {a:Addr} {b:M},l.lookup a=some b->(a,b)∈l
 | [],_,_,e=>by cases e
 | (c,x)::r,a,b,e=>by
  rw[lookup_cons] at e;cases hb:a==c with
  | true=>rw[hb] at e;cases e;rw[eq_of_beq hb];exact .head _
  | false=>rw[hb] at e;exact .tail _ (zGc e)
theorem zE8:∀ {tl:List (Str×Addr×Addr)} {x:Str} {c P:Addr},(tl.map λt=>t.2.2).Nodup->(x,c,P)∈tl->(tblT tl).lookup P=some (lamQ x)
 | t::tl,x,c,P,nd,h=>by
  rcases mem_cons.mp h with e | h
  .cases e;unfold tblT;rw[map_cons,lookup_cons,beq_self_eq_true]
  .have n:=(nodup_cons.mp (show ((t.2.2)::tl.map λt=>t.2.2).Nodup from nd));have ne:(P==t.2.2)=false:=by
    refine beq_eq_false_iff_ne.mpr λz=>n.1 ?_
    rw[<- z];exact mem_map.mpr ⟨_,h,rfl⟩
   unfold tblT;rw[map_cons,lookup_cons,ne];exact zE8 n.2 h
def zMp {K:W.Frag}{A:List (Str×Addr×Addr)}
  (KX:K.In O2.heap) (a9:O2.heap.Ns mainGlobals mg) (D:O2.heap.Ns builtinsNs mb) (d3:∀ x:Str,x ≠ "__name__"->mb x=bootBuiltins x) (b6:O2.heap.NoLimit) (G:O2.heap.NoSeer) (c6:(model P w).prog.given.tree=none) (hg:O2.gens=#[])
  (Q:O2.heap.get? a=some { cls:=.type "list",data:=.seq vs.toArray }) (hi:IntsAre vs ns) (hl:ns.length<=sizeLine) (hr:Room k callerA)
  (F:∀ base:Heap,K.In base->base.Ns mainGlobals mg->FnOk P w K mg base CX k fa fd [x] sp) (O:∀ (s:Shared) (u:Value),BindsTo s fd ⟨[u],[]⟩ [(x,u)])
  (c4:∃ bm ob,mg "__builtins__"=some (.ref bm)/\bm≠builtinsNs/\O2.heap.get? bm=some ob/\ob.cls=.type "module"/\ob.dict=some builtinsNs/\ob.data=.plain) (J:∀ t∈A,W.CodeHd O2.heap t.2.1 t.2.2/\O2.heap.get? t.2.2=some (W.tabObj #[])) (Z:∀ x∈zBt,tabQ K x=A.lookup x) (d2:(A.map λt=>t.2.2).Nodup) (c8:W.noTabs K=true)
  (c0:∀ H:Hp,(∀ xs,H a≠some (.lst xs))->SqL K H a (ns.map V.int)->sp [.ref a] H (λv _=>v=.bl true) λ_ _ _=>False)
  (c5:∀ H e s',CX [] H O2 (λ_ _ _=>False) e s'->False) :
  codeAny (model P w) callerA (.call (.ref fa) ⟨[.ref a],[]⟩) (λr s'=>r=.ok (.ret (.bool true))/\OldK O2.heap s'.heap/\s'.os=O2.os/\AllBare s'.gens) O2:=by
 have rv:=zDD hi;have a0:=hi.length;have p:∀ {b:Addr} {l:Str},(tblT A).lookup b=some l->∃ c,W.CodeHd O2.heap c b/\O2.heap.get? b=some (W.tabObj #[]):=λ{b l} e=>by
  obtain⟨t,mt,et⟩:=mem_map.mp (zGc e);cases et;exact⟨t.2.1,J t mt⟩
 have a4:(tblT A).lookup a=none:=by
  cases e:(tblT A).lookup a with
  | none=>rfl
  | some l =>
   obtain⟨_,_,g⟩:=p e;rw[Q] at g;cases g
 have I:∀ E:Hp,Only E->SqL K E a (ns.map V.int)->HOk P w E O2.heap->(∀ b,E b≠none->b=a)->(E a≠none->K.lookup a=none) ->
   codeAny (model P w) callerA (.call (.ref fa) ⟨[.ref a],[]⟩) (λr s'=>r=.ok (.ret (.bool true))/\OldK O2.heap s'.heap/\s'.os=O2.os/\AllBare s'.gens) O2:=by
  intro E a5 b9 a6 a2 c2;obtain⟨H,eH⟩:∃ H:Hp,H=hpT A E:=⟨_,rfl⟩;have M:∀ {b:Addr} {l:Str},(tblT A).lookup b=some l->H b=some (.tbl l):=λ{b l} e=>by rw[eH];unfold hpT;rw[e]
  have j:∀ {b:Addr},(tblT A).lookup b=none->H b=E b:=λ{b} e=>by rw[eH];unfold hpT;rw[e]
  have B:∀ {b:Addr} {u:HO},E b=some u->H b=some u:=λ{b u} e=>by
   have z:b=a:=a2 b (by rw[e];simp);rw[j (by rw[z];exact a4)];exact e
  have hS:SqL K H a (ns.map V.int):=by
   rcases b9 with (z | ⟨o,z⟩) | z
   .exact .inl (.inl (B z))
   .exact .inl (.inr ⟨o,B z⟩)
   .exact .inr z
  have hL:∀ xs,H a≠some (.lst xs):=λxs e=>by
   rw[j a4] at e;rcases a5 a with z | ⟨o,ys,z⟩
   .rw [z] at e;cases e
   .rw [z] at e;cases e
  have Y:HOk P w H O2.heap:=λb u e=>by
   cases z:(tblT A).lookup b with
   | some l =>
    rw[M z] at e;cases e;obtain⟨_,_,g⟩:=p z;exact⟨#[],g,trivial,λpos cv z=>by cases (show (none:Option Value)=some cv from z)⟩
   | none =>
    rw[j z] at e;exact(a6 b u e).stay (λ_ _ _ q=>q) (λ_ q=>B q) (λ_ _ q=>B q) λ_ _ _ q _=>B q
  have hT:zIc K H:=λx hx c P e=>M (by
   have g:=Z x hx;rw[e] at g;exact zE8 d2 (PySem.mem_of_lookup g.symm))
  have split:∀ {b:Addr},H b≠none->((tblT A).lookup b=none/\b=a/\E a≠none)\/∃ l,(tblT A).lookup b=some l:=λ{b} e=>by
   cases z:(tblT A).lookup b with
   | some l=>exact .inr ⟨l,rfl⟩
   | none =>
    rw[j z] at e;have:=a2 b e;exact .inl ⟨rfl,this,by rw[<- this];exact e⟩
  have f:∀ {b:Addr} {o:Obj},O2.heap.get? b=some o->H b=none->(hidT O2.heap H).get? b=some o:=λe n=>zMw e n
  have d1:∀ {b:Addr} {o:Obj} {es:Array DictEntry} {S:Nat},O2.heap.get? b=some o->o.data=.dict es S->H b=none:=λ{b o es S} e d=>by
   cases q:H b with
   | none=>rfl
   | some u =>
    rcases split (b:=b) (by rw[q];simp) with ⟨_,N,_⟩ | ⟨l,z⟩
    .subst N;rw[Q] at e;cases e;have d':Data.seq vs.toArray _=Data.dict es S:=d;cases d'
    .obtain ⟨_,_,g⟩:=p z;rw[g] at e;cases e;cases (show Data.fields #[]=Data.dict es S from d)
  have b7:∀ {b:Addr} {o:Obj},O2.heap.get? b=some o->o.cls=.type "module"->H b=none:=λ{b o} e d=>by
   cases q:H b with
   | none=>rfl
   | some u =>
    rcases split (b:=b) (by rw[q];simp) with ⟨_,N,_⟩ | ⟨l,z⟩
    .subst N;rw[Q] at e;cases e;exact absurd (show Value.type "list"=Value.type "module" from d) (by decide)
    .obtain ⟨_,_,g⟩:=p z;rw[g] at e;cases e;exact absurd (show Value.none=Value.type "module" from d) (by decide)
  have i:∀ {b:Addr} {m:Str->Option Value},O2.heap.Ns b m->(hidT O2.heap H).Ns b m:=λ{b m} ⟨o,es,S,e,d,r⟩=>⟨o,es,S,f e (d1 e d),d,r⟩
  have X:K.In (hidT O2.heap H):=λb o e=>f (KX b o e) (by
   cases q:H b with
   | none=>rfl
   | some u =>
    rcases split (b:=b) (by rw[q];simp) with ⟨_,N,n0⟩ | ⟨l,z⟩
    .subst N;rw[c2 n0] at e;cases e
    .obtain ⟨_,_,g⟩:=p z;have e3:=KX b o e;rw[g] at e3;cases e3;have h2:=all_eq_true.mp c8 (b,W.tabObj #[]) (W.mem_of_lookupK e);exact absurd (show false=true from h2) qY)
  have hM:Mod K mg (hidT O2.heap H):=⟨X,i a9,⟨mb,i D,d3⟩,let ⟨mc,h1,h2⟩:=b6;⟨mc,i h1,h2⟩,⟨let ⟨mc,h1,h2⟩:=G.statics;⟨mc,i h1,h2⟩,let ⟨mc,h1,h2⟩:=G.mods;⟨mc,i h1,h2⟩,let ⟨mc,h1,h2⟩:=G.imp;⟨mc,i h1,h2⟩,let ⟨mc,bm,ob,h1,h2,h3,h4,h5⟩:=G.main;⟨mc,bm,ob,i h1,h2,f h3 (b7 h3 h4),h4,h5⟩⟩,let ⟨bm,ob,b1,b2,b3,b4,b5⟩:=c4;⟨bm,ob,b1,b2,f b3 (b7 b3 b4),b4,b5⟩,λx hx c P e=>by
   have g:=Z x hx;rw[e] at g;obtain⟨o,c7,a8,tf,R,tg,d0,a3,tt,U,g2,g3,g4,g5,g6,g7,g8,g9,c3⟩:=(J (x,c,P) (PySem.mem_of_lookup g.symm)).1;refine⟨o,c7,a8,tf,R,tg,d0,a3,tt,f U ?_,g2,g3,g4,g5,g6,g7,g8,g9,c3⟩;cases q:H c with
   | none=>rfl
   | some u =>
    rcases split (b:=c) (by rw[q];simp) with ⟨_,N,_⟩ | ⟨l,z⟩
    .subst N;rw[Q] at U;cases U;exact absurd (show Value.type "list"=Value.type "code" from g2) (by decide)
    .obtain ⟨_,_,g⟩:=p z;rw[g] at U;cases U;exact absurd (show Value.none=Value.type "code" from g2) (by decide)⟩
  have e0:Env0 P w K mg (hidT O2.heap H) callerA [] O2 H:=⟨rfl,hM,λb o e=>zPP e,Nat.le_of_eq ((W.hideAll_size _ _)),trivial,λb D=>absurd (show b∈([]:List Addr) from D) (by simp),Y,.of_eq hg,c6,hT⟩;refine codeAny_mono ((F _ X (i a9)).run callerA [] O2 H ⟨[.ref a],[]⟩ [.ref a] [.ref a] _ _ hr e0 (O O2 (.ref a)) (.cons rfl .nil) (c0 H hL hS)) λr s' h=>?_
  cases r with
  | error e=>exact(c5 H e s' h).elim
  | ok fl =>
   cases fl with
   | next=>exact False.elim h
   | brk=>exact False.elim h
   | cont=>exact False.elim h
   | ret u =>
    obtain⟨v,H',os,a1,un,L,r',q⟩:=h;have q':v=.bl true:=q;subst q';obtain rfl:u=Value.bool true:=r';have T:∀ b o,O2.heap.get? b=some o->asItWas O2.heap s'.heap b o/\∃ o',s'.heap.get? b=some o':=λb o e=>by
     cases z:(tblT A).lookup b with
     | some l =>
      obtain⟨c,C,g⟩:=p z;rw[e] at g;cases g;obtain⟨ps,e3,_⟩:=L b _ (un.tbls b _ (M z));exact⟨.inr (.inl ⟨(C.tab e).isCodeTable,rfl,#[],ps,rfl,by rw[e3];simp⟩),_,e3⟩
     | none =>
      have k:s'.heap.get? b=some o:=by
       cases q:H b with
       | none=>exact un.keep b o e q (by intro z;exact absurd (show b∈([]:List Addr) from z) (by simp)) (by simp)
       | some u =>
        rcases a5 b with y | ⟨ob,xs,y⟩
        .rw [j z,y] at q;cases q
        .have y1:=B y;have z2:=un.frzs b ob _ y1;obtain⟨e1,_⟩:=Y b _ y1;obtain⟨g,_⟩:=L b _ z2;rw[e] at e1;cases e1;exact g
      exact⟨.inl k,o,k⟩
    exact⟨rfl,⟨λb o e=>(T b o e).1,λb o e=>(T b o e).2⟩,os,a1⟩
 cases hk:K.lookup a with
 | some o =>
  have e:=KX a o hk;rw[Q] at e;cases e;refine I (λ_=>none) (λ_=>.inl rfl) (.inr ⟨_,vs.toArray,_,hk,rfl,rfl,rfl,by rw[xj,a0];exact hl,by simpa using rv⟩) (λb u z=>by have z':(none:Option HO)=some u:=z;cases z') (λb z=>absurd rfl z) λz=>absurd rfl z
 | none =>
  refine I (λb=>if b=a then some (.frz { cls:=.type "list",data:=.seq vs.toArray } (.lst (ns.map V.int))) else none) (λb=>?_) (.inl (.inr ⟨{ cls:=.type "list",data:=.seq vs.toArray },if_pos rfl⟩)) (λb u z=>?_) (λb z=>?_) λ_=>hk
  .by_cases D:b=a
   .exact .inr ⟨_,_,if_pos D⟩
   .exact .inl (if_neg D)
  .by_cases D:b=a
   .have z':=(if_pos D).symm.trans z;cases z';subst D;exact⟨Q,by rw[qy];exact hl,vs,_,rv,Q⟩
   .have z':=(if_neg D).symm.trans z;cases z'
  .by_cases D:b=a
   .exact D
   .exact absurd (if_neg D) z
end L2
namespace L2
open PySem Spec PyProof.Rows
def zOi {l:W.OpenLaw}{K:Params->W.Frag}{CX:World->CXT}{E:World->Sp}
  (Q:l.most=some n) (A:n<=sizeLine) (r:d.params.defaults=[]) (hq:importsNone q=true) (J:∀ w,(model l.prog w).prog.given.tree=none) (U:Room k callerA) (g:List (Str×Addr×Addr)) (i:∀ (w:World) (h:Heap),YP w h->∀ t∈g,W.CodeHd h t.2.1 t.2.2/\h.get? t.2.2=some (W.tabObj #[])) (y:∀ w:World,∀ x∈zBt,tabQ (K w.params) x=g.lookup x) (S:∀ t∈g,t.1∈zBt/\g.lookup t.1=some t.2) (z:(g.map λt=>t.2.2).Nodup) (C:∀ w:World,W.noTabs (K w.params)=true)
  (I:∀ (w:World) (h:Heap),YP w h->(K w.params).In h)
  (F:∀ (w:World) (mg:Str->Option Value) (fa:Addr) (h:Heap),(K w.params).In h->h.Ns mainGlobals mg->mg d.name=some (.ref fa) ->
   ∃ fd:FuncData,(∀ (s:Shared) (u:Value),BindsTo s fd ⟨[u],[]⟩ [(x,u)]) /\
    ∀ base:Heap,(K w.params).In base->base.Ns mainGlobals mg->FnOk l.prog w (K w.params) mg base (CX w) k fa fd [x] (E w))
  (m:∀ (w:World) (H:Hp) (a:Addr) (ns:List Int),(ns.length<=n/\∀ x∈ns,Builtin.Int.intBits x<=2^20)->(∀ xs,H a≠some (.lst xs))->SqL (K w.params) H a (ns.map V.int)->E w [.ref a] H (λv _=>v=.bl true) λ_ _ _=>False)
  (B:∀ (w:World) (H:Hp) (s:Shared) (e:Value) (s':Shared),CX w [] H s (λ_ _ _=>False) e s'->False) :
  W.WalkO q loose XP YP l.row.toRowW d [] (λf vs=>PySem.call f vs):=by
 refine Att.zHr Q r λw O6 X mg mb fa o pm cd M a vs ns G Y ho Z R p j c b T=>?_
 have D:=I w _ Y;obtain⟨fd,O,P⟩:=F w mg fa _ D G.T.g p;exact zMp D G.T.g G.T.b G.T.builtins G.T.nolimit (G.T.seer hq) (J w) T j c (le_trans b.1 A) U P O G.T.bmain (i w _ Y) (y w) z (C w) (λH L N=>m w H a ns b L N) λH e s'=>B w H X e s'
noncomputable def zAF (s:Stmt)(j:Nat):Stmt:=match s with
 | .ClassDef _ _ _ body _ _ _ _ _ _ _=>body.getD j (.Pass ⟨0,0,0,0⟩)
 | _=>.Pass ⟨0,0,0,0⟩
noncomputable def zAb (s:Stmt):Arguments:=match s with
 | .FunctionDef _ a _ _ _ _ _ _ _ _=>a
 | _=>{ posonlyargs:=[],args:=[],vararg:=none,kwonlyargs:=[],kw_defaults:=[],kwarg:=none,defaults:=[] }
noncomputable def zAG (s:Stmt):List Stmt:=match s with
 | .FunctionDef _ _ b _ _ _ _ _ _ _=>b
 | _=>[]
noncomputable def zAA (s:Stmt):Scope:=match s with
 | .FunctionDef _ _ _ _ _ _ sc _ _ _=>sc
 | _=>{ kind:=.function,names:=[],isGenerator:=false,isCoroutine:=false }
abbrev CX0:CXT:=λ_ _ _ _ _ _=>False
abbrev E0:XK:=λ_ _ _=>False
def zHH :zFP CX0 X E0:=λ_ _ _ _ _ _ _ h=>h.elim
structure Fun (K:W.Frag)(x qual:Str)(st:Stmt)(f:Addr)(fd:FuncData):Prop where
 ex:∃ (oc:Value) (od:Option Addr) (kV doc pm:Value) (an:Option Addr) (cdv ct:Value) (osl:Array (Option Value)),
  fd=W.fnOf x qual (zAb st) (zAG st) (zAA st) .none kV doc pm an cdv ct/\K.lookup f=some ⟨oc,od,.func fd,osl⟩/\W.codeIn K cdv qual=true
 kp:W.keepIn K (.ref f)=true
section
variable {P:Program}{w:World}{K:W.Frag}{mg:Str->Option Value}{base:Heap}
def Fun.ok {st:Stmt}(F:Fun K x qual st f fd)(S:zAa N ps (zAA st))(len:∀ vs H Q E,sp vs H Q E->vs.length=ps.length)
  (a:∀ (cdv:Value) (A:Around) (outer:List Env) (s:Shared) (H:Hp) (vs:List V) (Q:VK) (E:XK),Room k (A.deeper (envOfC qual (zAA st) s.heap.objs.size f cdv))->sp vs H Q E ->
   ∃ t,PSs (cxOf CX0 P w K mg base N qual (zAA st) f cdv A outer s H E).nox (zAG st) t/\t { nx:=λ_ H'=>Q .non H',rt:=Q } (zBy N vs) H):FnOk P w K mg base CX0 (k+1) f fd ps sp:=by
 obtain⟨n,j,kV,e,m,l,cdv,ct,i,rfl,d,b⟩:=F.ex;refine zTI d b S len λA outer s H vs Q E g c=>?_
 obtain⟨t,h,q⟩:=a cdv A outer s H vs Q E g c;exact⟨t,h.nox,q⟩
def Fun.binds {st:Stmt}(F:Fun K x qual st f fd)
  (h:∀ (kV doc pm:Value) (an:Option Addr) (cdv ct:Value) (us:List Value),us.length=ps.length->bindArgs (W.fnOf x qual (zAb st) (zAG st) (zAA st) .none kV doc pm an cdv ct) ⟨us,[]⟩=pure (ps.zip us)):zBJ K fd ps []:=by
 obtain⟨c,d,kV,doc,pm,an,cdv,ct,b,rfl,e,a⟩:=F.ex;exact .all (h kV doc pm an cdv ct)
def zK1 {st:Stmt}{kV:Value}(l:K.lookup f=some ⟨oc,od,.func (W.fnOf x qual (zAb st) (zAG st) (zAA st) .none kV doc pm an cdv ct),osl⟩)
  (c:W.codeIn K cdv qual=true) (k:W.keepIn K (.ref f)=true):Fun K x qual st f (W.fnOf x qual (zAb st) (zAG st) (zAA st) .none kV doc pm an cdv ct):=⟨⟨oc,od,kV,doc,pm,an,cdv,ct,osl,rfl,l,c⟩,k⟩
end
def iteF {B:Prop}(h:B):if false=true then A else B:=by grind
def iteT {B:Prop}(h:A):if true=true then A else B:=by simp_all
def Same (H H':Hp):Prop:=∀ b o,H b=some o->H' b=some o
def Same.refl (H:Hp):Same H H:=λ_ _ h=>h
def Same.trans (a:Same H H1)(b:Same H1 H2):Same H H2:=λc o h=>b c o (a c o h)
def Same.free (e:Same H H')(h:H' l=Option.none):H l=Option.none:=by
 cases q:H l with
 | none=>rfl
 | some o =>
  rw[e l o q] at h;omega
def Same.seq {K:W.Frag}(e:Same H H')(h:SqL K H a xs):SqL K H' a xs:=by
 rcases h with (h | ⟨o,h⟩) | h
 .exact .inl (.inl (e _ _ h))
 .exact .inl (.inr ⟨o,e _ _ h⟩)
 .exact .inr h
end L2
end
section
namespace DL
def nof {p:Prop}(h:false=true):p:=nomatch h
open PySem Spec PyProof.Rows L2
abbrev St:=L2.St
abbrev anyU:HO:=.ext λ_=>True
structure LamI where
 qual:Str
 params:Arguments
 body:Expr
 scope:Scope
noncomputable def frN (L:LamI):List Str:=((L.scope.names.filter λp=>p.2==.free).map (·.1)).reverse
def zBV (H:Hp):List (Str×Addr)->List V->Prop:=Paired λp v=>∃ o u,H p.2=some (.frz o anyU)/\o.data=.cell (some u)/\RelV v u
def zD6 (H:Hp)(L:LamI)(f:Addr)(vs:List V):Prop:=∃ cl pm c ctv oc u1,H f=some (.frz (W.kla_obj "<lambda>" L.qual L.params L.body L.scope cl pm c ctv) anyU)/\H c=some (.frz oc u1)/\zL2 oc L.qual/\cl.map (·.1)=frN L/\(cl.map (·.2)).Nodup/\zBV H cl vs
noncomputable def zFm:List Str:=["shape","ink","strength","layer","layers"]
noncomputable def zLY (ns:List Str):Bool:=(ns.any λn=>n==("strength":Str)||n==("layer":Str))&&ns.all λn=>zFm.contains n
noncomputable def zEd (fs:List (Str×V)):Bool:=zLY (fs.map (·.1))
abbrev zCf (H H':Hp):Prop:=∀ b o,H b=some o->(∀ C dx fs,o=.ins C dx fs->zEd fs=true)->H' b=some o
def zBV.monoF (e:zCf H H')(h:zBV H cl vs):zBV H' cl vs:=Paired.mapP h λ_ _ a=>by obtain⟨o,u,h1,h2⟩:=a;exact⟨o,u,e _ _ h1 (λ_ _ _ z=>nomatch z),h2⟩
def zD6.monoF (e:zCf H H')(h:zD6 H L f vs):zD6 H' L f vs:=by
 obtain⟨cl,b,c,a,d,g,h1,h2,h3,h4,h5,h6⟩:=h;exact⟨cl,b,c,a,d,g,e _ _ h1 (λ_ _ _ z=>nomatch z),e _ _ h2 (λ_ _ _ z=>nomatch z),h3,h4,h5,h6.monoF e⟩
def zD6.mono (e:Same H H')(h:zD6 H L f vs):zD6 H' L f vs:=h.monoF λb o q _=>e b o q
inductive D where
 | non | bl (b:Bool) | int (i:Int) | str (x:Str) | tup (l:List D) | lst (l:List D) | exc (c:Str) | dct (ks:List (Int×Int)) | lam (j:Nat) (L:LamI) (l:List D) | obj (c:Str) (ns:List Str) (l:List D) | fn (n:Nat) (x:Str)
noncomputable instance:Inhabited D:=⟨.non⟩
def zBl (K:W.Frag)(c:Str)(C:Addr):Prop:=W.nsIn K mainGlobals c=some (some (.ref C))
def zLz (K:W.Frag)(H:Hp)(c:Str)(ns:List Str)(a:Addr)(vs:List V):Prop:=∃ C dx gs,H a=some (.ins C dx gs)/\zEd gs=true/\zBl K c C/\(ns.map λn=>gs.lookup n)=vs.map some
def zLz.monoF {K:W.Frag}(e:zCf H H')(h:zLz K H c ns a vs):zLz K H' c ns a vs :=
 let ⟨C,dx,gs,h1,h2,h3⟩:=h;⟨C,dx,gs,e _ _ h1 λ_ _ _ z=>by cases z;exact h2,h2,h3⟩
noncomputable def pk (p:Int×Int):List Key:=[Sum.inl p.1,Sum.inl p.2]
mutual
noncomputable def Den (K:W.Frag)(H:Hp):D->V->Prop
 | .non,v=>v=.non
 | .bl b,v=>v=.bl b
 | .int i,v=>v=.int i
 | .str x,v=>v=.str x
 | .tup ds,v=>∃ a vs,v=.ref a/\SqT K H a vs/\DenL K H ds vs
 | .lst ds,v=>∃ a vs,v=.ref a/\SqL K H a vs/\DenL K H ds vs
 | .exc c,v=>∃ a o u C,v=.ref a/\H a=some (.frz o u)/\o.cls=.ref C/\(∃ vs,o.data=.fields vs)/\zBl K c C
 | .dct ks,v=>∃ a kvs,v=.ref a/\H a=some (.dT kvs)/\kvs.map (·.1)=ks.map pk
 | .lam _ L ds,v=>∃ a vs,v=.ref a/\zD6 H L a vs/\DenL K H ds vs
 | .obj c ns ds,v=>∃ a vs,v=.ref a/\zLz K H c ns a vs/\DenL K H ds vs
 | .fn _ x,v=>∃ a,v=.ref a/\zBl K x a
noncomputable def DenL (K:W.Frag)(H:Hp):List D->List V->Prop
 | [],vs=>vs=[]
 | d::ds,vs=>∃ v ws,vs=v::ws/\Den K H d v/\DenL K H ds ws
end
def Same.tupS {K:W.Frag}(e:Same H H')(h:SqT K H a xs):SqT K H' a xs:=by
 rcases h with (h | ⟨o,h⟩) | h
 .exact .inl (.inl (e _ _ h))
 .exact .inl (.inr ⟨o,e _ _ h⟩)
 .exact .inr h
def zCf.tupS {K:W.Frag}(e:zCf H H')(h:SqT K H a xs):SqT K H' a xs:=by
 rcases h with (h | ⟨o,h⟩) | h
 .exact .inl (.inl (e _ _ h λ_ _ _ z=>nomatch z))
 .exact .inl (.inr ⟨o,e _ _ h λ_ _ _ z=>nomatch z⟩)
 .exact .inr h
def zCf.seq {K:W.Frag}(e:zCf H H')(h:SqL K H a xs):SqL K H' a xs:=by
 rcases h with (h | ⟨o,h⟩) | h
 .exact .inl (.inl (e _ _ h λ_ _ _ z=>nomatch z))
 .exact .inl (.inr ⟨o,e _ _ h λ_ _ _ z=>nomatch z⟩)
 .exact .inr h
section
variable {K:W.Frag}{H H':Hp}
mutual
theorem Den.monoF (e:zCf H H'):∀ {d:D} {v:V},Den K H d v->Den K H' d v
 | .non,_,h=>by rw[Den] at h ⊢;exact h
 | .bl _,_,h=>by rw[Den] at h ⊢;exact h
 | .int _,_,h=>by rw[Den] at h ⊢;exact h
 | .str _,_,h=>by rw[Den] at h ⊢;exact h
 | .tup ds,_,h=>by
  rw[Den] at h ⊢;obtain⟨a,vs,h1,h2,h3⟩:=h;exact⟨a,vs,h1,zCf.tupS e h2,DenL.monoF e h3⟩
 | .lst ds,_,h=>by
  rw[Den] at h ⊢;obtain⟨a,vs,h1,h2,h3⟩:=h;exact⟨a,vs,h1,zCf.seq e h2,DenL.monoF e h3⟩
 | .exc c,_,h=>by
  rw[Den] at h ⊢;obtain⟨a,o,u,C,h1,h2,h3⟩:=h;exact⟨a,o,u,C,h1,e _ _ h2 (λ_ _ _ z=>nomatch z),h3⟩
 | .dct ks,_,h=>by
  rw[Den] at h ⊢;obtain⟨a,kvs,h1,h2,h3⟩:=h;exact⟨a,kvs,h1,e _ _ h2 (λ_ _ _ z=>nomatch z),h3⟩
 | .lam _ L ds,_,h=>by
  rw[Den] at h ⊢;obtain⟨a,vs,h1,h2,h3⟩:=h;exact⟨a,vs,h1,h2.monoF e,DenL.monoF e h3⟩
 | .obj c ns ds,_,h=>by
  rw[Den] at h ⊢;obtain⟨a,vs,h1,h2,h3⟩:=h;exact⟨a,vs,h1,h2.monoF e,DenL.monoF e h3⟩
 | .fn _ x,_,h=>by rw[Den] at h ⊢;exact h
theorem DenL.monoF (e:zCf H H'):∀ {ds:List D} {vs:List V},DenL K H ds vs->DenL K H' ds vs
 | [],_,h=>by rw[DenL] at h ⊢;exact h
 | d::ds,_,h=>by
  rw[DenL] at h ⊢;obtain⟨v,ws,h1,h2,h3⟩:=h;exact⟨v,ws,h1,Den.monoF e h2,DenL.monoF e h3⟩
end
def Den.mono (e:Same H H')(h:Den K H d v):Den K H' d v:=h.monoF λb o q _=>e b o q
def DenL.mono (e:Same H H')(h:DenL K H ds vs):DenL K H' ds vs:=h.monoF λb o q _=>e b o q
def DenL.nil:DenL K H [] []:=rfl
def DenL.cons (h:Den K H d v)(t:DenL K H ds vs):DenL K H (d::ds) (v::vs):=⟨v,vs,rfl,h,t⟩
def DenL.length:∀ {ds:List D} {vs:List V},DenL K H ds vs->ds.length=vs.length
 | [],_,h=>by rw[DenL] at h;rw[h];rfl
 | _::ds,_,h=>by
  rw[DenL] at h;obtain⟨v,ws,h1,h2,h3⟩:=h;rw[h1,xJ,xJ,DenL.length h3]
def DenL.get:∀ {ds:List D} {vs:List V} {i:Nat} {d:D},DenL K H ds vs->ds[i]?=some d->∃ v,vs[i]?=some v/\Den K H d v
 | [],_,_,_,_,e=>by simp at e
 | x::ds,_,i,d,h,e=>by
  rw[DenL] at h;obtain⟨v,ws,h1,h2,h3⟩:=h;subst h1;cases i with
  | zero=>simp at e;subst e;exact⟨v,by simp,h2⟩
  | succ i =>
   obtain⟨u,a,b⟩:=DenL.get (i:=i) (d:=d) h3 (by simpa using e);exact⟨u,by simpa using a,b⟩
theorem DenL.of_get:∀ {ds:List D} {vs:List V},ds.length=vs.length->(∀ (i:Nat) d v,ds[i]?=some d->vs[i]?=some v->Den K H d v)->DenL K H ds vs
 | [],[],_,_=>.nil
 | [],_::_,e,_=>by simp at e
 | _::_,[],e,_=>by simp at e
 | d::ds,v::vs,e,h=>.cons (h 0 d v (by simp) (by simp)) (DenL.of_get (by simpa using e) λi d' v' q1 q2=>h (i+1) d' v' (by simpa using q1) (by simpa using q2))
def DenL.append:∀ {ds es:List D} {vs ws:List V},DenL K H ds vs->DenL K H es ws->DenL K H (ds++es) (vs++ws)
 | [],_,_,_,h,t=>by rw[DenL] at h;subst h;exact t
 | _::ds,_,_,_,h,t=>by
  rw[DenL] at h;obtain⟨v,ws,h1,h2,h3⟩:=h;subst h1;exact .cons h2 (DenL.append h3 t)
def DenL.take:∀ {ds:List D} {vs:List V} (n:Nat),DenL K H ds vs->DenL K H (ds.take n) (vs.take n)
 | _,_,0,_=>by rw[List.take_zero,List.take_zero];exact .nil
 | [],_,n+1,h=>by rw[DenL] at h;subst h;exact .nil
 | _::ds,_,n+1,h=>by
  rw[DenL] at h;obtain⟨v,ws,h1,h2,h3⟩:=h;subst h1;rw[List.take_succ_cons,List.take_succ_cons];exact .cons h2 (DenL.take n h3)
def DenL.drop:∀ {ds:List D} {vs:List V} (n:Nat),DenL K H ds vs->DenL K H (ds.drop n) (vs.drop n)
 | _,_,0,h=>h
 | [],_,n+1,h=>by rw[DenL] at h;subst h;exact .nil
 | _::ds,_,n+1,h=>by
  rw[DenL] at h;obtain⟨v,ws,h1,h2,h3⟩:=h;subst h1;rw[List.drop_succ_cons,List.drop_succ_cons];exact DenL.drop n h3
def DenL.set (a:Den K H d v):∀ {ds:List D} {vs:List V} (n:Nat),DenL K H ds vs->DenL K H (ds.set n d) (vs.set n v)
 | [],_,n,h=>by rw[DenL] at h;subst h;exact .nil
 | _::ds,_,n,h=>by
  rw[DenL] at h;obtain⟨u,ws,h1,h2,h3⟩:=h;subst h1;cases n with
  | zero=>exact .cons a h3
  | succ n=>exact .cons h2 (DenL.set a n h3)
theorem DenL.ints:∀ ns:List Int,DenL K H (ns.map D.int) (ns.map V.int)
 | []=>.nil
 | n::ns=>.cons (by rw[Den]) (DenL.ints ns)
end
noncomputable def hide (H:Hp)(S:List Addr):Hp:=λb=>if b∈S then none else H b
section
variable {H H':Hp}{S:List Addr}{a b:Addr}{o:HO}
def zCC (h:b∈S):hide H S b=none:=if_pos h
def zAQ (h:b∉S):hide H S b=H b:=if_neg h
def zA3 (h:hide H S b=some o):b∉S/\H b=some o:=by
 unfold hide at h;grind
def zAf:Same (hide H S) H:=λ_ _ h=>(zA3 h).2
def zAR (e:Same H H'):Same (hide H S) (hide H' S):=λb o h=>by
 obtain⟨h1,h2⟩:=zA3 h;rw[zAQ h1];exact e _ _ h2
def zB1 (h:∀ b∈S,b∈T):Same (hide H T) (hide H S):=λb o q=>by
 obtain⟨h1,h2⟩:=zA3 q;rw[zAQ λz=>h1 (h b z)];exact h2
def zD9 (e:Same H H')(n:H a=none):Same (hide H S) (hide H' (a::S)):=λb o q=>by
 obtain⟨h1,h2⟩:=zA3 q;rw[zAQ λz=>(mem_cons.mp z).elim (zAp h2 n) h1];exact e _ _ h2
def zCB:hide H []=H:=rfl
def zFx (h:a∈S):hide (upd H a o) S=hide H S:=by
 funext b;by_cases q:b∈S
 .rw [zCC q,zCC q]
 .rw [zAQ q,zAQ q,zAS λz=>q (by rw[z];exact h)]
def zAe (h:H p=none)(o:HO):Same H (upd H p o):=λb u q=>by rw[zAS (zAp q h)];exact q
end
inductive Kd where
 | cl | fr | dt
 deriving DecidableEq
abbrev R:=D×Kd
abbrev Dst:=List (Option (D×Bool))
def RV (K:W.Frag)(H H':Hp)(S:List Addr):R->V->Prop
 | (d,.cl),v=>Den K (hide H' S) d v
 | (d,.fr),v=>∃ a vs ds,v=.ref a/\d=.lst ds/\a∉S/\H a=none/\H' a=some (.lst vs)/\DenL K (hide H' (a::S)) ds vs
 | (d,.dt),v=>∃ a vs ds,v=.ref a/\d=.lst ds/\SqL K H' a vs/\DenL K (hide H' S) ds vs
def Rdv (K:W.Frag)(H:Hp)(S:List Addr)(d:D)(v:V):Prop :=
 Den K (hide H S) d v\/∃ a vs ds,v=.ref a/\d=.lst ds/\SqL K H a vs/\DenL K (hide H S) ds vs
section
variable {K:W.Frag}{H H1 H':Hp}{S:List Addr}{d:D}{v:V}{r:R}
def RV.clean (h:RV K H H' S (d,.fr) v):Den K (hide H' S) d v:=by
 obtain⟨a,e,f,rfl,rfl,b,_,c,t⟩:=h;exact⟨a,e,rfl,SqL.of (by rw[zAQ b];exact c),t.mono (zB1 λb z=>qJ _ z)⟩
def RV.den (h:RV K H H' S (d,k) v)(a:k≠.dt):Den K (hide H' S) d v:=by
 cases k with
 | cl=>exact h
 | fr=>exact h.clean
 | dt=>exact absurd rfl a
def RV.rd (h:RV K H H' S r v):Rdv K H' S r.1 v:=by
 obtain⟨d,k⟩:=r;cases k with
 | cl=>exact .inl h
 | fr=>exact .inl h.clean
 | dt=>exact .inr h
def RV.from (e:Same H H1)(h:RV K H1 H' S r v):RV K H H' S r v:=by
 obtain⟨d,k⟩:=r;cases k with
 | cl=>exact h
 | fr =>
  obtain⟨a,l,j,i,c,f,g,b⟩:=h;exact⟨a,l,j,i,c,f,e.free g,b⟩
 | dt=>exact h
def Rdv.mono (e:Same H H')(h:Rdv K H S d v):Rdv K H' S d v:=by
 rcases h with h | ⟨a,vs,ds,h1,h2,h3,h4⟩
 .exact .inl (h.mono (zAR e))
 .exact .inr ⟨a,vs,ds,h1,h2,e.seq h3,h4.mono (zAR e)⟩
def Rdv.int (h:Rdv K H S (.int i) v):v=.int i:=by
 rcases h with h | _
 .exact h
 .grind
def Rdv.bl (h:Rdv K H S (.bl b) v):v=.bl b:=by
 rcases h with h | _
 .exact h
 .grind
def Rdv.str (h:Rdv K H S (.str x) v):v=.str x:=by
 rcases h with h | _
 .exact h
 .grind
def Rdv.lst (h:Rdv K H S (.lst ds) v):∃ a vs,v=.ref a/\SqL K H a vs/\DenL K (hide H S) ds vs:=by
 rcases h with h | ⟨a,vs,ds',h1,h2,h3,h4⟩
 .rw [Den] at h;obtain⟨a,vs,h1,h2,h3⟩:=h;exact⟨a,vs,h1,zAf.seq h2,h3⟩
 .cases h2;exact⟨a,vs,h1,h3,h4⟩
def Rdv.tup (h:Rdv K H S (.tup ds) v):∃ a vs,v=.ref a/\SqT K H a vs/\DenL K (hide H S) ds vs:=by
 rcases h with h | ⟨a,vs,ds',h1,h2,h3,h4⟩
 .rw [Den] at h;obtain⟨a,vs,h1,h2,h3⟩:=h;exact⟨a,vs,h1,Same.tupS zAf h2,h3⟩
 .cases h2
def Rdv.dct (h:Rdv K H S (.dct ks) v):∃ a kvs,v=.ref a/\H a=some (.dT kvs)/\kvs.map (·.1)=ks.map pk:=by
 rcases h with h | ⟨a,vs,ds',h1,h2,h3,h4⟩
 .rw [Den] at h;obtain⟨a,kvs,h1,h2,h3⟩:=h;exact⟨a,kvs,h1,zAf _ _ h2,h3⟩
 .cases h2
def RV.int (i:Int):RV K H H' S (.int i,.cl) (.int i):=rfl
def RV.bl (b:Bool):RV K H H' S (.bl b,.cl) (.bl b):=rfl
end
def MuB:HO->Prop
 | .lst _=>True
 | .dT _=>True
 | _=>False
def OwnO (K:W.Frag)(H:Hp):D->HO->Prop
 | .lst ds,o=>∃ vs,o=.lst vs/\DenL K H ds vs
 | .dct ks,o=>∃ kvs,o=.dT kvs/\kvs.map (·.1)=ks.map pk
 | _,_=>False
def OwnO.mono {K:W.Frag}(e:Same H H')(h:OwnO K H d o):OwnO K H' d o:=by
 cases d with
 | lst c=>obtain⟨a,h1,h2⟩:=h;exact⟨a,h1,h2.mono e⟩
 | dct b=>exact h
 | non=>exact h
 | bl _=>exact h
 | int _=>exact h
 | str _=>exact h
 | tup _=>exact h
 | exc _=>exact h
 | lam _ _ _=>exact h
 | obj _ _ _=>exact h
 | fn _ _=>exact h
def OwnO.mu {K:W.Frag}(h:OwnO K H d o):MuB o:=by
 cases d with
 | lst b=>obtain⟨e,rfl,_⟩:=h;exact True.intro
 | dct c=>obtain⟨a,rfl,_⟩:=h;exact True.intro
 | non=>cases h
 | bl _=>cases h
 | int _=>cases h
 | str _=>cases h
 | tup _=>cases h
 | exc _=>cases h
 | lam _ _ _=>cases h
 | obj _ _ _=>cases h
 | fn _ _=>cases h
def OwnO.den {K:W.Frag}(h:OwnO K H d o)(e:H a=some o):Den K H d (.ref a):=by
 cases d with
 | lst g=>obtain⟨c,rfl,h2⟩:=h;exact⟨a,c,rfl,SqL.of e,h2⟩
 | dct f=>obtain⟨b,rfl,h2⟩:=h;exact⟨a,b,rfl,e,h2⟩
 | non=>cases h
 | bl _=>cases h
 | int _=>cases h
 | str _=>cases h
 | tup _=>cases h
 | exc _=>cases h
 | lam _ _ _=>cases h
 | obj _ _ _=>cases h
 | fn _ _=>cases h
def SV (K:W.Frag)(H:Hp)(S:List Addr)(d:D)(o:Bool)(v:V):Prop :=
 if o=true then ∃ a u,v=.ref a/\a∈S/\H a=some u/\OwnO K (hide H S) d u else Den K (hide H S) d v
structure DS (K:W.Frag)(H:Hp)(S:List Addr)(B:St)(O:Dst):Prop where
 len:B.length=O.length
 sok:∀ a∈S,∃ xs:HO,H a=some xs/\MuB xs
 get:∀ (i:Nat) d o,O[i]?=some (some (d,o))->∃ v,B[i]?=some (some v)/\SV K H S d o v
 inj:∀ (i j:Nat) d e a,O[i]?=some (some (d,true))->O[j]?=some (some (e,true))->B[i]?=some (some (.ref a))->B[j]?=some (some (.ref a))->i=j
section
variable {K:W.Frag}{H H1 H':Hp}{S:List Addr}{B:St}{O:Dst}{d:D}{v:V}{i:Nat}
def SV.own (h:SV K H S d o v)(b:o=true):∃ a u,v=.ref a/\a∈S/\H a=some u/\OwnO K (hide H S) d u:=by
 unfold SV at h;rw[if_pos b] at h;exact h
def SV.ownL (h:SV K H S (.lst ds) o v)(b:o=true):∃ a vs es,v=.ref a/\D.lst ds=.lst es/\a∈S/\H a=some (.lst vs)/\DenL K (hide H S) es vs:=by
 obtain⟨a,u,h1,h2,h3,vs,rfl,h5⟩:=h.own b;exact⟨a,vs,ds,h1,rfl,h2,h3,h5⟩
def SV.den (h:SV K H S d o v)(a:o=false):Den K (hide H S) d v:=by
 unfold SV at h;rw[if_neg (by simp_all)] at h;exact h
def SV.of_den (h:Den K (hide H S) d v):SV K H S d false v:=by assumption
def SV.of_own (h1:a∈S)(h2:H a=some u)(h3:OwnO K (hide H S) d u):SV K H S d true (.ref a):=⟨a,u,rfl,h1,h2,h3⟩
def SV.mono (e:Same H H')(h:SV K H S d o v):SV K H' S d o v:=by
 cases o with
 | true =>
  obtain⟨a,u,rfl,h1,h2,h3⟩:=h.own rfl;exact .of_own h1 (e _ _ h2) (h3.mono (zAR e))
 | false=>exact .of_den ((h.den rfl).mono (zAR e))
def DS.mono (h:DS K H S B O)(e:Same H H'):DS K H' S B O :=
 ⟨h.len,λa z=>let ⟨xs,q,mu⟩:=h.sok a z;⟨xs,e _ _ q,mu⟩,λi d o z=>let ⟨v,q1,q2⟩:=h.get i d o z;⟨v,q1,q2.mono e⟩,h.inj⟩
def zBS {T:Type}{l:List T}{i:Nat}{x:T}(h:i < l.length):(l.set i x)[i]?=some x:=by simp[h]
def zB2 {T:Type}{l:List T}{i j:Nat}{x:T}(h:i≠j):(l.set i x)[j]?=l[j]?:=by simp_all
def zAV {T:Type}{l:List T}{i j:Nat}{x y:T}(h:(l.set i x)[j]?=some y):(i=j/\y=x/\i < l.length)\/(i≠j/\l[j]?=some y):=by
 by_cases e:i=j
 .subst e;by_cases q:i < l.length
  .simp_all
  .simp_all
 .simp_all
def DS.set (h:DS K H S B O)(n:Den K (hide H S) d v):DS K H S (B.set i (some v)) (O.set i (some (d,false))):=by
 refine⟨by rw[length_set,length_set];exact h.len,h.sok,λj e o q=>?_,λj k e f a c l b m=>?_⟩
 .rcases zAV q with ⟨rfl,z,g⟩ | ⟨ne,z⟩
  .cases z;exact⟨v,zBS (by rw[h.len];exact g),.of_den n⟩
  .obtain _:=h.get j e o z
   simp_all
 .rcases zAV c with ⟨_,z,_⟩ | ⟨ne1,z1⟩
  .grind
  .rcases zAV l with ⟨_,z,_⟩ | ⟨ne2,z2⟩
   .cases z
   .rw [zB2 ne1] at b
    simp_all
    exact h.inj j k e f a z1 z2 b m
def DS.setG (h:DS K H S B O)(e:Same H H')(n:H a=none)(A:H' a=some u)(t:OwnO K (hide H' (a::S)) d u) :
  DS K H' (a::S) (B.set i (some (.ref a))) (O.set i (some (d,true))):=by
 refine⟨by rw[length_set,length_set];exact h.len,λb z=>?_,λj r o q=>?_,λj k r f b s c g l=>?_⟩
 .rcases mem_cons.mp z with rfl | z
  .exact ⟨_,A,t.mu⟩
  .obtain ⟨N,q,mu⟩:=h.sok b z;exact⟨N,e _ _ q,mu⟩
 .rcases zAV q with ⟨rfl,z,M⟩ | ⟨L,z⟩
  .cases z;exact⟨.ref a,zBS (by rw[h.len];exact M),.of_own q9 A t⟩
  .obtain ⟨u,s,c⟩:=h.get j r o z
   simp_all
   cases o with
   | true =>
    obtain⟨b,w,rfl,C,G,I⟩:=c.own rfl;exact .of_own (qJ _ C) (e _ _ G) (I.mono (zD9 e n))
   | false=>exact .of_den ((c.den rfl).mono (zD9 e n))
 .have p:∀ {j:Nat} {x:D},i≠j->O[j]?=some (some (x,true))->B[j]?=some (some (.ref a))->False:=λ{j x} L z q=>by
   obtain⟨u,s,c⟩:=h.get j x true z;obtain⟨b,w,rfl,C,G,_⟩:=c.own rfl;grind
  rcases zAV s with ⟨E,y,J⟩ | ⟨ne1,y⟩
  .rcases zAV c with ⟨v,m,F⟩ | ⟨ne2,m⟩
   .exact E.symm.trans v
   .rw [<- E,zBS (by rw[h.len];exact J)] at g;cases g;rw[zB2 ne2] at l;exact(p ne2 m l).elim
  .rcases zAV c with ⟨v,m,F⟩ | ⟨ne2,m⟩
   .rw [<- v,zBS (by rw[h.len];exact F)] at l;cases l;rw[zB2 ne1] at g;exact(p ne1 y g).elim
   .rw [zB2 ne1] at g;rw[zB2 ne2] at l;exact h.inj j k r f b y m g l
def DS.setF (h:DS K H S B O)(e:Same H H')(n:H a=none)(b:H' a=some (.lst vs))(t:DenL K (hide H' (a::S)) ds vs) :
  DS K H' (a::S) (B.set i (some (.ref a))) (O.set i (some (.lst ds,true))):=h.setG e n b ⟨vs,rfl,t⟩
def DS.changeG (h:DS K H S B O)(m:O[i]?=some (some (d,true)))(l:B[i]?=some (some (.ref a)))(t:OwnO K (hide H S) e0 u) :
  DS K (upd H a u) S B (O.set i (some (e0,true))):=by
 obtain⟨w,g,e⟩:=h.get i _ true m;obtain⟨b,M,n,A,N,_⟩:=e.own rfl;subst n;rw[l] at g;cases g;have r:hide (upd H a u) S=hide H S:=zFx A;refine⟨by rw[length_set];exact h.len,λb z=>?_,λj v o q=>?_,λj k v f b g e J C=>?_⟩
 .by_cases q:b=a
  .subst q;exact⟨_,zAd,t.mu⟩
  .rw [zAS q];exact h.sok b z
 .rcases zAV q with ⟨rfl,z,P⟩ | ⟨ne,z⟩
  .cases z;exact⟨.ref a,l,.of_own A zAd (by rw[r];exact t)⟩
  .obtain ⟨w,g,e⟩:=h.get j v o z
   simp_all
   cases o with
   | true =>
    obtain⟨b,I,rfl,E,p,Q⟩:=e.own rfl;exact .of_own E (by rw[zAS (λz2=>by subst z2;exact ne (h.inj i j _ _ b m z l g))];exact p) (by simp_all)
   | false=>exact .of_den (by rw[r];exact e.den rfl)
 .have c:∀ {j:Nat} {x:D},(O.set i (some (e0,true)))[j]?=some (some (x,true))->∃ y,O[j]?=some (some (y,true)):=λ{j x} z=>by
   rcases zAV z with ⟨n,_,_⟩ | ⟨_,z⟩
   .rw [<- n];exact⟨_,m⟩
   .exact ⟨_,z⟩
  obtain⟨L,G⟩:=c g;obtain⟨F,z2⟩:=c e;exact h.inj j k L F b G z2 J C
def DS.change (h:DS K H S B O)(c:O[i]?=some (some (.lst ds,true)))(b:B[i]?=some (some (.ref a)))(t:DenL K (hide H S) es vs) :
  DS K (upd H a (.lst vs)) S B (O.set i (some (.lst es,true))):=h.changeG c b ⟨vs,rfl,t⟩
def DS.freeze (h:DS K H S B O)(r:O[i]?=some (some (d,true))):∃ S',(∀ b∈S',b∈S)/\DS K H S' B (O.set i (some (d,false))):=by
 obtain⟨u,t,D⟩:=h.get i _ true r;obtain⟨a,w,rfl,G,C,y⟩:=D.own rfl;have c:∀ b∈S.filter (λb=>decide (b≠a)),b∈S:=λb z=>(mem_filter.mp z).1
 refine⟨S.filter _,c,?_⟩;have l:Same (hide H S) _:=zB1 c;refine⟨by rw[length_set];exact h.len,λb z=>h.sok b (c b z),λj p o q=>?_,λj k p f b n z2 x E=>?_⟩
 .rcases zAV q with ⟨rfl,z,I⟩ | ⟨ne,z⟩
  .cases z;exact⟨.ref a,t,.of_den ((y.mono l).den (by rw[zAQ (λz=>by simpa using (mem_filter.mp z).2)];exact C))⟩
  .obtain ⟨u,s,v⟩:=h.get j p o z;refine⟨u,s,?_⟩;cases o with
   | true =>
    obtain⟨b,A,rfl,F,m,g⟩:=v.own rfl;exact .of_own (mem_filter.mpr ⟨F,by simpa using (λz2=>by subst z2;exact ne (h.inj i j _ _ b r z t s))⟩) m (g.mono l)
   | false=>exact .of_den ((v.den rfl).mono l)
 .rcases zAV n with ⟨_,z,_⟩ | ⟨_,n⟩
  .cases z
  .rcases zAV z2 with ⟨_,z,_⟩ | ⟨_,z2⟩
   .cases z
   .exact h.inj j k p f b n z2 x E
end
end DL
end
section
namespace DL
open PySem Spec PyProof.Rows L2
def gT (K:W.Frag)(f:Dst->Option R):TE:=λB H Q=>∃ S O r,DS K H S B O/\f O=some r/\∀ v H',Same H H'->RV K H H' S r v->Q v H'
def gB (K:W.Frag)(f:Dst->Option Bool):TT:=λB H Q=>∃ S O b,DS K H S B O/\f O=some b/\∀ H',Same H H'->Q b H'
def gA (K:W.Frag)(f:Dst->Option (List D)):TA:=λB H Q=>∃ S O ds,DS K H S B O/\f O=some ds/\∀ vs H',Same H H'->DenL K (hide H' S) ds vs->Q vs H'
def GE (X:Cx)(e:Expr)(f:Dst->Option R):Prop:=PE X e (gT X.K f)
def GT (X:Cx)(e:Expr)(f:Dst->Option Bool):Prop:=PT X e (gB X.K f)
def GA (X:Cx)(es:List Expr)(f:Dst->Option (List D)):Prop:=PA X es (gA X.K f)
theorem _root_.L2.PE.imp (h:PE X e t)(i:∀ B H Q,t' B H Q->t B H Q):PE X e t':=λpins s B H Q I q=>h pins s B H Q I (i B H Q q)
theorem _root_.L2.PT.imp (h:PT X e t)(i:∀ B H Q,t' B H Q->t B H Q):PT X e t':=λpins s B H Q I q=>h pins s B H Q I (i B H Q q)
theorem _root_.L2.PA.imp (h:PA X e t)(i:∀ B H Q,t' B H Q->t B H Q):PA X e t':=λpos pins s B H Q I q=>h pos pins s B H Q I (i B H Q q)
def bind_some {T M:Type}{o:Option T}{f:T->Option M}{b:M}(h:(o.bind f)=some b):∃ a,o=some a/\f a=some b:=by
 cases o with
 | none=>cases h
 | some a=>exact⟨a,rfl,h⟩
section
variable {X:Cx}
def OpD (K:W.Frag)(r:R2)(o:D->D->Option R):Prop :=
 ∀ (S:List Addr) (H:Hp) (x y:D) (z:R) (vx vy:V) (Q:VK),(∀ a∈S,∃ xs:HO,H a=some xs/\MuB xs)->o x y=some z->Rdv K H S x vx->Rdv K H S y vy->(∀ v H',Same H H'->RV K H H' S z v->Q v H')->r vx vy H Q
noncomputable def two (f g:Dst->Option R)(o:D->D->Option R):Dst->Option R:=λO=>(f O).bind λx=>(g O).bind λy=>o x.1 y.1
def zH1 {r:R2}{o:D->D->Option R}{f g:Dst->Option R}(h:OpD X.K r o){B:St}{H:Hp}{Q:VK}(q:gT X.K (two f g o) B H Q):tOp r (gT X.K f) (gT X.K g) B H Q:=by
 obtain⟨S,O,z,d,e,c⟩:=q;obtain⟨x,j,e⟩:=bind_some e;obtain⟨y,l,e⟩:=bind_some e;refine⟨S,O,x,d,j,λvx s a r1=>⟨S,O,y,d.mono a,l,λvy k b r2=>?_⟩⟩;exact h S k x.1 y.1 z vx vy Q (d.mono (a.trans b)).sok e (r1.rd.mono b) r2.rd λv m i r3=>c v m (a.trans (b.trans i)) (r3.from (a.trans b))
def zJA (c:OpR X (binaryOp op) r)(h:OpD X.K r o)(e:GE X a f)(d:GE X b g):GE X (.BinOp a op b pos) (two f g o) :=
 (zUG c e d).imp λ_ _ _ q=>zH1 h q
def zS7 (i:OpR X (compareOp op) r)(h:OpD X.K r o)(e:behindInMarks op b=false)(c:GE X a f)(d:GE X b g):GE X (.Compare a [op] [b] pos) (two f g o) :=
 (zO8 i c d e).imp λ_ _ _ q=>zH1 h q
noncomputable def asB (f:Dst->Option R):Dst->Option Bool:=λO=>match f O with
 | some (.bl b,_)=>some b
 | _=>none
def zCL (h:asB f O=some b):∃ k,f O=some (.bl b,k):=by
 unfold asB at h;split at h
 .simp_all
 .cases h
def zHZ {f:Dst->Option R}{B:St}{H:Hp}{Q:Bool->Hp->Prop}(q:gB X.K (asB f) B H Q):gT X.K f B H λx H'=>∃ k,x=.bl k/\Q k H':=by
 obtain⟨S,O,b,d,e,c⟩:=q;obtain⟨k,e⟩:=zCL e;refine⟨S,O,_,d,e,λv H' a r1=>⟨b,r1.rd.bl,c H' a⟩⟩
def zSj (i:OpR X (compareOp op) r)(h:OpD X.K r o)(c:behindInMarks op b=false)(e:GE X a f)(d:GE X b g):GT X (.Compare a [op] [b] pos) (asB (two f g o)) :=
 (zO1 i e d c).imp λ_ _ _ q=>zH1 h (zHZ q)
noncomputable def lstB:D->Bool
 | .lst _=>true
 | _=>false
noncomputable def varD (i:Nat):Dst->Option R:=λO=>match O[i]? with
 | some (some (d,o))=>if o=true then (if lstB d=true then some (d,.dt) else none) else some (d,.cl)
 | _=>none
def zSw (j:X.N[i]?=some x)(m:Vis X.env.scope x)(l:(x==("__debug__":Str))=false)(b:(x==("__classdict__":Str))=false) :
  GE X (.Name x pos) (varD i):=by
 refine(zDK j m l b).imp λB H Q q=>?_
 obtain⟨S,O,z,k,e,c⟩:=q;unfold varD at e;split at e
 .rename_i d o q;obtain⟨v,f,g⟩:=k.get i d o q;cases o with
  | false =>
   cases e;exact⟨v,f,c v H (Same.refl _) (g.den rfl)⟩
  | true =>
   rw[if_pos rfl] at e;cases d with
   | lst s =>
    cases e;refine⟨v,f,c v H (Same.refl _) ?_⟩;obtain⟨a,r,es,rfl,h,_,n,p⟩:=g.ownL rfl;exact⟨a,r,es,rfl,h,SqL.of n,p⟩
   | _=>cases e
 .cases e
def zEA (h:PE X e (tC v))(b:∀ K H,Den K H d v):GE X e (λ_=>some (d,.cl)) :=
 h.imp λB H Q a=>by
  obtain⟨S,O,z,f,e,c⟩:=a;cases e;exact c v H (Same.refl _) (b _ _)
def ge_int {j pos}:GE X (.Constant (.int i) j pos) (λ_=>some (.int i,.cl)):=zEA (λ_ _ _ H _ I h=>wpAny_Constant_int ⟨.int i,H,I.tok _,⟨_,rfl⟩,h⟩) λ_ _=>by rw[Den]
def zUt {j pos}:GE X (.Constant (.bool b) j pos) (λ_=>some (.bl b,.cl)):=zEA (λ_ _ _ H _ I h=>Constant_bool ⟨.bl b,H,I,rfl,h⟩) λ_ _=>by rw[Den]
def zS1 {j pos}:GE X (.Constant .none j pos) (λ_=>some (.non,.cl)):=zEA (λ_ _ _ H _ I h=>Constant_none ⟨.non,H,I,rfl,h⟩) λ_ _=>by rw[Den]
def zSz {j pos}:GE X (.Constant (.str x) j pos) (λ_=>some (.str x,.cl)):=zEA (λ_ _ _ H _ I h=>Calls.Constant_str ⟨.str x,H,I.tok _,⟨_,rfl⟩,h⟩) λ_ _=>by rw[Den]
def zQH (g:Gl X x)(f:X.mg x=some u)(r:RelV v u)(h:Den X.K (λ_=>none) d v)(b:(x==("__debug__":Str))=false):GE X (.Name x pos) (λ_=>some (d,.cl)) :=
 (zO7 g f r b).imp λB H Q a=>by
  obtain⟨S,O,z,i,e,c⟩:=a;cases e;exact c v H (Same.refl _) (h.mono λb o q=>by cases q)
def zHJ {g:Int->Int->Int}(h:∀ x y z,o x y=some z->∃ i j,x=.int i/\y=.int j/\C i j/\z=(.int (g i j),.cl)):OpD X.K (rI C λi j=>.int (g i j)) o:=by
 intro S H x y z k f Q _ e d b c;obtain⟨i,j,rfl,rfl,a,rfl⟩:=h x y z e;exact⟨i,j,d.int,b.int,a,c _ H (Same.refl _) (.int _)⟩
def zMZ {g:Int->Int->Int}(h:∀ x y z,o x y=some z->∃ i j,x=.int i/\y=.int j/\z=(.int (g i j),.cl)):OpD X.K (rI0 λi j=>.int (g i j)) o:=by
 intro S H x y z d f Q _ e b a c;obtain⟨i,j,rfl,rfl,rfl⟩:=h x y z e;exact⟨i,j,b.int,a.int,c _ H (Same.refl _) (.int _)⟩
def zBR {g:Int->Int->Bool}(h:∀ x y z,o x y=some z->∃ i j,x=.int i/\y=.int j/\z=(.bl (g i j),.cl)):OpD X.K (rI0 λi j=>.bl (g i j)) o:=by
 intro S H x y z f d Q _ e a b c;obtain⟨i,j,rfl,rfl,rfl⟩:=h x y z e;exact⟨i,j,a.int,b.int,c _ H (Same.refl _) (.bl _)⟩
def zPI:OpR X (binaryOp .Mult) (rI IntMulOk λi j=>.int (i*j)):=opI λ_ _ _ _ _ _ _ a q=>mul_int q a
def zJL (_ j:Int):Prop:=j≠0
def zMa:OpR X (binaryOp .FloorDiv) (rI zJL λi j=>.int (i.fdiv j)):=by
 intro a s B H x y v u Q I d c h;obtain⟨i,j,rfl,rfl,b,q⟩:=h;obtain⟨t,rfl⟩:=d;obtain⟨f,rfl⟩:=c;exact floordiv_int b ⟨.int (i.fdiv j),H,I.tok _,⟨_,rfl⟩,q⟩ (.inr ((by obtain⟨h1,h2,e,l,h3,h4,h5,h6,h7⟩:=I.ok.pyl;exact PylongRoom.of I.nolimit h1 (SeerAt.of (I.mod.seer.keeps I.bk) h2 (by rw[I.ok.frames,h3]) h4 h5 h6 h7))))
def zGe (l:Addr)(items:Array Value)(n:Nat)(g:Option Addr)(sl:Array (Option Value))(b:Addr)(a:Array Value)(e:Nat)(d:Option Addr)(c:Array (Option Value))(i:items.size+a.size<=sizeLine) :
  Meets (Builtin.«list.__add__» ⟨[.ref l,.ref b],[]⟩) (λ_ R s=>s.heap.get? l=some { cls:=.type "list",dict:=g,data:=.seq items n,slots:=sl }/\s.heap.get? b=some { cls:=.type "list",dict:=d,data:=.seq a e,slots:=c }/\R (.ok (.ret (Value.ref s.heap.objs.size))) { s with heap:=s.heap.push { cls:=Value.type "list",data:=Data.seq (items++a) },toks:=s.toks }) :=
 .of_wp λprog w A R s h=>by obtain _:=s;obtain⟨f,j,h⟩:=h;have k:=AutoSeq1.sub_list_list;wp_walk using AutoSeq1.wpAny_loadPart' f,AutoSeq1.wpAny_loadPart' j;exact⟨_,rfl,h⟩
end
mutual
noncomputable def toPy:D->PyData
 | .non=>.none
 | .bl b=>.bool b
 | .int i=>.int i
 | .str x=>.str x
 | .tup ds=>.tuple (toPyL ds)
 | .lst ds=>.list (toPyL ds)
 | .exc _=>.str ⟨#[1114112]⟩
 | .dct _=>.str ⟨#[1114112]⟩
 | .lam _ _ _=>.str ⟨#[1114112]⟩
 | .obj _ _ _=>.str ⟨#[1114112]⟩
 | .fn _ _=>.str ⟨#[1114112]⟩
noncomputable def toPyL:List D->List PyData
 | []=>[]
 | d::ds=>toPy d::toPyL ds
end
theorem Rdv.whole {K:W.Frag}(h:Rdv K H S d v):Den K H d v:=by
 rcases h with h | ⟨a,vs,ds,rfl,rfl,h1,h2⟩
 .exact h.mono zAf
 .exact ⟨a,vs,rfl,h1,h2.mono zAf⟩
section
variable {X:Cx}{pins:List (Addr×Obj)}{B:St}{H:Hp}{s:Shared}
mutual
theorem zDJ (I:Inv X pins B H s):∀ {d:D} {v:V} {u:Value},Den X.K H d v->RelV v u->(toPy d).canLay0=true->∃ as,Reads s.heap u (toPy d) as
 | .non,_,_,h,r,_=>by rw[Den] at h;subst h;cases r;rw[toPy];exact⟨_,.none⟩
 | .bl b,_,_,h,r,_=>by rw[Den] at h;subst h;cases r;rw[toPy];exact⟨_,.bool b⟩
 | .int i,_,_,h,r,_=>by rw[Den] at h;subst h;obtain⟨t,rfl⟩:=r;rw[toPy];exact⟨_,.int i t⟩
 | .str x,_,_,h,r,_=>by rw[Den] at h;subst h;obtain⟨t,rfl⟩:=r;rw[toPy];exact⟨_,.str x t⟩
 | .tup ds,_,_,h,r,cl=>by
  rw[toPy,PyData.canLay0] at cl;rw[Den] at h;obtain⟨a,vs,rfl,h1,h2⟩:=h;cases r;obtain⟨its,rv,⟨o,e1,e2,n,e3⟩,_⟩:=I.tuple h1;obtain⟨as,q⟩:=readsL_of I h2 rv cl;rw[toPy];exact⟨_,.tuple e1 e2 e3 q⟩
 | .exc c,_,_,h,r,cl=>by rw[toPy,PyData.canLay0] at cl;exact absurd cl (by decide +kernel)
 | .dct c,_,_,h,r,cl=>by rw[toPy,PyData.canLay0] at cl;exact absurd cl (by decide +kernel)
 | .lam _ _ _,_,_,h,r,cl=>by rw[toPy,PyData.canLay0] at cl;exact absurd cl (by decide +kernel)
 | .obj _ _ _,_,_,h,r,cl=>by rw[toPy,PyData.canLay0] at cl;exact absurd cl (by decide +kernel)
 | .fn _ _,_,_,h,r,cl=>by rw[toPy,PyData.canLay0] at cl;exact absurd cl (by decide +kernel)
 | .lst ds,_,_,h,r,cl=>by
  rw[toPy,PyData.canLay0] at cl;rw[Den] at h;obtain⟨a,vs,rfl,h1,h2⟩:=h;cases r;obtain⟨its,rv,⟨o,n,e1,e2,_,e3⟩,_⟩:=I.list h1;obtain⟨as,q⟩:=readsL_of I h2 rv cl;rw[toPy];exact⟨_,.list e1 e2 e3 q⟩
theorem readsL_of (I:Inv X pins B H s):∀ {ds:List D} {vs:List V} {us:List Value},DenL X.K H ds vs->Vals vs us->PyData.canLayAll0 (toPyL ds)=true->∃ as,ReadsAll s.heap us (toPyL ds) as
 | [],_,_,h,r,_=>by rw[DenL] at h;subst h;cases r;rw[toPyL];exact⟨_,.nil⟩
 | d::ds,_,_,h,r,cl=>by
  rw[toPyL,PyData.canLayAll0,x9] at cl;rw[DenL] at h;obtain⟨v,ws,rfl,h1,h2⟩:=h;cases r with
  | cons r1 r2 =>
   obtain⟨a1,q1⟩:=zDJ I h1 r1 cl.1;obtain⟨a2,q2⟩:=readsL_of I h2 r2 cl.2;rw[toPyL];exact⟨_,.cons q1 q2⟩
end
end
def EqOk (x y:D):Prop:=(toPy x).canLay0=true/\(toPy y).canLay0=true/\(toPy x).depth<=64
noncomputable instance (x y:D):Decidable (EqOk x y):=by unfold EqOk;exact inferInstance
noncomputable def eqb (x y:D):Bool:=PyData.eqv (toPy x) (toPy y)
def rEqD (K:W.Frag)(f:Bool->Bool):R2:=λvx vy H Q=>∃ x y,Den K H x vx/\Den K H y vy/\EqOk x y/\Q (.bl (f (eqb x y))) H
section
variable {X:Cx}
def eqD (f:Bool->Bool)(x y:D):Option R:=if EqOk x y then some (.bl (f (eqb x y)),.cl) else none
def zOA :OpD X.K (rEqD X.K f) (eqD f):=by
 intro S H x y z d g Q _ e a b c;unfold eqD at e;by_cases ok:EqOk x y
 .rw [if_pos ok] at e;cases e;exact⟨x,y,a.whole,b.whole,ok,c _ H (Same.refl _) (.bl _)⟩
 .simp_all
noncomputable def nonB:D->Bool
 | .non=>true
 | _=>false
noncomputable def isN (f:Bool->Bool)(x y:D):Option R:=match y with
 | .non=>some (.bl (f (nonB x)),.cl)
 | _=>none
def zLc {K:W.Frag}(h:Den K H x v):decide (v=.non)=nonB x:=by
 cases x with
 | non=>rw[Den] at h;subst h;rfl
 | bl b=>rw[Den] at h;subst h;rfl
 | int i=>rw[Den] at h;subst h;rfl
 | str i=>rw[Den] at h;subst h;rfl
 | tup e=>rw[Den] at h;obtain⟨a,d,rfl,_⟩:=h;rfl
 | lst e=>rw[Den] at h;obtain⟨a,d,rfl,_⟩:=h;rfl
 | exc c=>rw[Den] at h;obtain⟨a,o,u,C,rfl,_⟩:=h;rfl
 | dct c=>rw[Den] at h;obtain⟨a,f,rfl,_⟩:=h;rfl
 | lam _ _ _=>rw[Den] at h;obtain⟨a,d,rfl,_⟩:=h;rfl
 | obj _ _ _=>rw[Den] at h;obtain⟨a,d,rfl,_⟩:=h;rfl
 | fn _ _=>rw[Den] at h;obtain⟨a,rfl,_⟩:=h;rfl
def zPD:OpD X.K (λx y H Q=>y=.non/\Q (.bl (decide (x=.non))) H) (isN id):=by
 intro S H x y z d f Q _ e b a c;cases y with
 | non =>
  cases e;exact⟨a.whole,by rw[zLc b.whole];exact c _ H (Same.refl _) (.bl _)⟩
 | _=>cases e
def zMY:OpD X.K (λx y H Q=>y=.non/\Q (.bl (!decide (x=.non))) H) (isN (λb=>!b)):=by
 intro S H x y z f d Q _ e a b c;cases y with
 | non =>
  cases e;exact⟨b.whole,by rw[zLc a.whole];exact c _ H (Same.refl _) (.bl _)⟩
 | _=>cases e
theorem DenL.atI {K:W.Frag}(h:DenL K H ds vs)(e:atI ds i=some d):∃ v,L2.atI vs i=some v/\Den K H d v:=by
 unfold L2.atI at e ⊢;obtain⟨j,e1,e2⟩:=bind_some e;obtain⟨v,q1,q2⟩:=h.get e2;refine⟨v,?_,q2⟩;rw[<- h.length,e1];exact q1
noncomputable def ixD (x y:D):Option R:=match x,y with
 | .lst ds,.int i=>(atI ds i).map λd=>(d,.cl)
 | .tup ds,.int i=>(atI ds i).map λd=>(d,.cl)
 | _,_=>none
def zRv:OpD X.K (λx y H Q=>rIxL X.K x y H Q\/rIxT X.K x y H Q) ixD:=by
 intro S H x y z m n Q _ e k j c;unfold ixD at e;split at e
 .rename_i l i;obtain⟨d,h,rfl⟩:=yq.mp e;obtain⟨a,g,rfl,h1,h2⟩:=k.lst;obtain⟨v,f,b⟩:=h2.atI h;exact .inl ⟨a,g,i,v,rfl,j.int,h1,f,c v H (Same.refl _) b⟩
 .rename_i l i;obtain⟨d,h,rfl⟩:=yq.mp e;obtain⟨a,g,rfl,h1,h2⟩:=k.tup;obtain⟨v,f,b⟩:=h2.atI h;exact .inr ⟨a,g,i,v,rfl,j.int,h1,f,c v H (Same.refl _) b⟩
 .cases e
def zUq (c:GE X a f)(e:GE X b g)(d:zGD b):GE X (.Subscript a b pos) (two f g ixD) :=
 (zRp (zKh.or zOH) c e d).imp λ_ _ _ q=>zH1 zRv q
def zTB:GA X [] (λ_=>some []):=zBE.imp λB H Q a=>by
 obtain⟨S,O,z,b,e,c⟩:=a;cases e;exact c [] H (Same.refl _) .nil
noncomputable def zHn (f:Dst->Option R)(g:Dst->Option (List D)):Dst->Option (List D):=λO=>(f O).bind λx=>if x.2=.dt then none else (g O).bind λxs=>some (x.1::xs)
def zQP (m:GE X e f)(n:GA X es g)(o:starEach (e::es) X.env=(false,eval e X.env)::starEach es X.env):GA X (e::es) (zHn f g):=by
 refine(zAX m n o).imp λB H Q a=>?_
 obtain⟨S,O,z,h,e,c⟩:=a;obtain⟨x,q,e⟩:=bind_some e;by_cases hx:x.2=.dt
 .rw [if_pos hx] at e;cases e
 rw[if_neg hx] at e;obtain⟨l,b,e⟩:=bind_some e;cases e;refine⟨S,O,x,h,q,λv r j r1=>⟨S,O,l,h.mono j,b,λvs p i r2=>?_⟩⟩;exact c _ p (j.trans i) (.cons ((RV.den (d:=x.1) (k:=x.2) r1 hx).mono (zAR i)) r2)
noncomputable def tupD (g:Dst->Option (List D)):Dst->Option R:=λO=>(g O).bind λxs=>if xs.length<=10000 then some (.tup xs,.cl) else none
noncomputable def lstD (g:Dst->Option (List D)):Dst->Option R:=λO=>(g O).bind λxs=>if xs.length<=10000 then some (.lst xs,.fr) else none
def zDr (h:n<=10000):n<=sizeLine:=le_trans h (by decide)
def notS {H:Hp}{S:List Addr}(h:∀ a∈S,∃ xs:HO,H a=some xs/\MuB xs)(n:H p=none):p∉S:=by grind
theorem RV.tupNew {K:W.Frag}(hS:∀ a∈S,∃ xs:HO,H1 a=some xs/\MuB xs)(n:H1 p=none)(t:DenL K (hide H1 S) ds vs):RV K H (upd H1 p (.tup vs)) S (.tup ds,.cl) (.ref p):=⟨p,vs,rfl,SqT.of (by rw[zAQ (notS hS n)];exact zAd),t.mono (zAR (zAe n _))⟩
theorem RV.lstNew {K:W.Frag}(e:Same H H1)(hS:∀ a∈S,∃ xs:HO,H1 a=some xs/\MuB xs)(n:H1 p=none)(t:DenL K (hide H1 S) ds vs):RV K H (upd H1 p (.lst vs)) S (.lst ds,.fr) (.ref p) :=
 ⟨p,vs,ds,rfl,rfl,notS hS n,e.free n,zAd,t.mono (zD9 (zAe n _) n)⟩
def zSx {x1}(h:GA X es g):GE X (.Tuple es x1 pos) (tupD g):=by
 refine(zRk h).imp λB H Q a=>?_
 obtain⟨S,O,z,i,e,c⟩:=a;obtain⟨d,b,e⟩:=bind_some e;by_cases hx:d.length<=10000
 .rw [if_pos hx] at e;cases e;refine⟨S,O,d,i,b,λvs j f r1=>⟨by rw[<- r1.length];exact zDr hx,λp n=>?_⟩⟩;exact c _ _ (f.trans (zAe n _)) (.tupNew (i.mono f).sok n r1)
 .rw [if_neg hx] at e;cases e
def zS3 (h:GA X es g):GE X (.List es pos) (lstD g):=by
 refine(zN8 h).imp λB H Q a=>?_
 obtain⟨S,O,z,f,e,c⟩:=a;obtain⟨i,d,e⟩:=bind_some e;by_cases hx:i.length<=10000
 .rw [if_pos hx] at e;cases e;refine⟨S,O,i,f,d,λvs j b r1=>⟨by rw[<- r1.length];exact zDr hx,λp n=>?_⟩⟩;exact c _ _ (b.trans (zAe n _)) (.lstNew b (f.mono b).sok n r1)
 .rw [if_neg hx] at e;cases e
end
section
variable {X:Cx}
noncomputable def notD (f:Dst->Option R):Dst->Option R:=λO=>(asB f O).bind λb=>some (.bl (!b),.cl)
theorem zHa (ds:DS X.K H S B O)(e:asB f O=some b)(c:∀ H',Same H H'->Q (.bl b) H'):gT X.K f B H Q:=by
 obtain⟨k,e⟩:=zCL e;exact⟨S,O,_,ds,e,λv H' s1 r1=>by rw[r1.rd.bl];exact c H' s1⟩
def zS0 (h:GE X a f):GE X (.UnaryOp .Not a pos) (notD f):=by
 refine(zRn h).imp λB H Q d=>?_
 obtain⟨S,O,z,i,e,c⟩:=d;obtain⟨b,g,e⟩:=bind_some e;cases e;exact zHa i g λH' j=>⟨b,rfl,c _ H' j (.bl _)⟩
def zQ3 (h:asB (notD f) O=some b):asB f O=some (!b):=by
 obtain⟨k,e⟩:=zCL h;obtain⟨c,a,e⟩:=bind_some e
 simp_all
def zSh (h:GT X a (asB f)):GT X (.UnaryOp .Not a pos) (asB (notD f)) :=
 (zN4 h).imp λB H Q d=>by obtain⟨S,O,b,i,e,c⟩:=d;exact⟨S,O,!b,i,zQ3 e,λH' j=>by show Q (!!b) H';rw[Bool.not_not];exact c H' j⟩
noncomputable def andD (f g:Dst->Option R):Dst->Option R:=λO=>(asB f O).bind λb=>if b=true then g O else some (.bl false,.cl)
noncomputable def orD (f g:Dst->Option R):Dst->Option R:=λO=>(asB f O).bind λb=>if b=true then some (.bl true,.cl) else g O
def zTA (j:GE X a f)(l:GE X (.BoolOp .And (b::rest) pos) g):GE X (.BoolOp .And (a::b::rest) pos) (andD f g):=by
 refine(zRr j l).imp λB H Q d=>?_
 obtain⟨S,O,z,i,e,c⟩:=d;obtain⟨b,m,e⟩:=bind_some e;refine zHa i m λH1 h=>⟨b,rfl,?_⟩
 cases b with
 | true =>
  rw[if_pos rfl] at e ⊢;exact⟨S,O,z,i.mono h,e,λv k n r2=>c v k (h.trans n) (r2.from h)⟩
 | false =>
  rw[if_neg qY] at e ⊢;cases e;exact c _ H1 h (.bl _)
def zUp (n:GE X a f)(l:GE X (.BoolOp .Or (b::rest) pos) g):GE X (.BoolOp .Or (a::b::rest) pos) (orD f g):=by
 refine(zUF n l).imp λB H Q d=>?_
 obtain⟨S,O,z,i,e,c⟩:=d;obtain⟨b,j,e⟩:=bind_some e;refine zHa i j λH1 h=>⟨b,rfl,?_⟩
 cases b with
 | true =>
  rw[if_pos rfl] at e ⊢;cases e;exact c _ H1 h (.bl _)
 | false =>
  rw[if_neg qY] at e ⊢;exact⟨S,O,z,i.mono h,e,λv m k r2=>c v m (h.trans k) (r2.from h)⟩
def zON {op}(h:GE X a f):GE X (.BoolOp op [a] pos) f:=(by assumption)
def GW (X:Cx)(e:Expr)(f:Dst->Option Bool):Prop:=PW X e (gB X.K f)
theorem _root_.L2.PW.imp (h:PW X e t)(i:∀ B H Q,t' B H Q->t B H Q):PW X e t':=λwhole pins s B H Q I q=>h whole pins s B H Q I (i B H Q q)
def zQ4 (h:asB (andD f g) O=some b):(asB f O=some true/\asB g O=some b)\/(asB f O=some false/\b=false):=by
 obtain⟨k,e⟩:=zCL h;obtain⟨c,a,e⟩:=bind_some e;cases c with
 | true =>
  rw[if_pos rfl] at e;exact .inl ⟨a,by unfold asB;rw[e]⟩
 | false =>
  grind
def zTq (h:asB (orD f g) O=some b):(asB f O=some false/\asB g O=some b)\/(asB f O=some true/\b=true):=by
 obtain⟨k,e⟩:=zCL h;obtain⟨c,a,e⟩:=bind_some e;cases c with
 | true =>
  grind
 | false =>
  rw[if_neg qY] at e;exact .inl ⟨a,by unfold asB;rw[e]⟩
def zSe (m:GT X a (asB f))(k:GW X (.BoolOp .And (b::rest) pos) (asB g)):GW X (.BoolOp .And (a::b::rest) pos) (asB (andD f g)):=by
 refine PW.imp (zN2 m k) λB H Q d=>?_
 obtain⟨S,O,b,j,e,c⟩:=d;rcases zQ4 e with ⟨i,n⟩ | ⟨i,rfl⟩
 .refine ⟨S,O,true,j,i,λH1 h=>?_⟩;refine iteT ?_;exact⟨S,O,b,j.mono h,n,λH' l=>c H' (h.trans l)⟩
 .refine ⟨S,O,false,j,i,λH1 h=>?_⟩;refine iteF ?_;exact c H1 h
def zUj (l:GT X a (asB f))(n:GW X (.BoolOp .Or (b::rest) pos) (asB g)):GW X (.BoolOp .Or (a::b::rest) pos) (asB (orD f g)):=by
 refine PW.imp (zRf l n) λB H Q d=>?_
 obtain⟨S,O,b,j,e,c⟩:=d;rcases zTq e with ⟨i,k⟩ | ⟨i,rfl⟩
 .refine ⟨S,O,false,j,i,λH1 h=>?_⟩;refine iteF ?_;exact⟨S,O,b,j.mono h,k,λH' m=>c H' (h.trans m)⟩
 .refine ⟨S,O,true,j,i,λH1 h=>?_⟩;refine iteT ?_;exact c H1 h
noncomputable def iteD (c f g:Dst->Option R):Dst->Option R:=λO=>(asB c O).bind λb=>if b=true then f O else g O
def zS4 (p:GT X c (asB k))(m:GE X a f)(n:GE X b g):GE X (.IfExp c a b pos) (iteD k f g):=by
 refine(zMT p m n).imp λB H Q h=>?_
 obtain⟨S,O,z,l,e,c⟩:=h;obtain⟨b,o,e⟩:=bind_some e;refine⟨S,O,b,l,o,λH1 d=>?_⟩;cases b with
 | true =>
  rw[if_pos rfl] at e ⊢;exact⟨S,O,z,l.mono d,e,λv i j r2=>c v i (d.trans j) (r2.from d)⟩
 | false =>
  rw[if_neg qY] at e ⊢;exact⟨S,O,z,l.mono d,e,λv i j r2=>c v i (d.trans j) (r2.from d)⟩
def zSi (x:GT X c (asB k))(t:GT X a (asB f))(v:GT X b (asB g)):GT X (.IfExp c a b pos) (asB (iteD k f g)):=by
 intro h s B H Q I ⟨S,O,z,n,e,q⟩;obtain⟨y,e⟩:=zCL e;obtain⟨b,r,e⟩:=bind_some e;refine isTrue_IfExp (thn (x h s B H (λb' l=>b'=b/\Same H l) I ⟨S,O,b,n,r,λH1 j=>⟨rfl,j⟩⟩) λd j i=>?_);obtain⟨l,p,u,m⟩:=i;subst u;cases d with
 | true =>
  rw[if_pos rfl] at e;exact t h j B l Q p ⟨S,O,z,n.mono m,by unfold asB;rw[e],λH' o=>q H' (m.trans o)⟩
 | false =>
  rw[if_neg qY] at e;exact v h j B l Q p ⟨S,O,z,n.mono m,by unfold asB;rw[e],λH' o=>q H' (m.trans o)⟩
noncomputable def negD (f:Dst->Option R):Dst->Option R:=λO=>match f O with
 | some (.int i,_)=>some (.int (-i),.cl)
 | _=>none
def zS2 (h:GE X a f):GE X (.UnaryOp .USub a pos) (negD f):=by
 refine(zUE (unI λ_ _ _ _ _ q=>neg_int q) h).imp λB H Q b=>?_
 obtain⟨S,O,z,l,e,c⟩:=b;unfold negD at e;split at e
 .rename_i i k d;cases e;exact⟨S,O,_,l,d,λv g j r1=>⟨i,r1.rd.int,c _ g j (.int _)⟩⟩
 .cases e
noncomputable def cutD (ds:List D)(lo hi:Option Int):List D:=(ds.drop (HT.sIx ds.length 0 lo)).take (HT.sIx ds.length ds.length hi - HT.sIx ds.length 0 lo)
def DenL.cut {K:W.Frag}(h:DenL K H ds vs)(a b:Option Int):DenL K H (cutD ds a b) (cutV vs a b):=by
 unfold cutD cutV;rw[<- h.length];exact(h.drop _).take _
def gO (K:W.Frag)(f:Dst->Option (Option Int)):TO:=λB H Q=>∃ S O o,DS K H S B O/\f O=some o/\∀ H',Same H H'->Q o H'
def GO (X:Cx)(e:Option Expr)(f:Dst->Option (Option Int)):Prop:=PO X e (gO X.K f)
theorem _root_.L2.PO.imp (h:PO X e t)(i:∀ B H Q,t' B H Q->t B H Q):PO X e t':=λpins s B H Q I q=>h pins s B H Q I (i B H Q q)
def zQB:GO X none (λ_=>some none):=PO.imp (by intro b s B H Q I h;exact xq ⟨none,H,I,.none,h⟩) λB H Q a=>by obtain⟨S,O,o,d,e,c⟩:=a;cases e;exact c H (Same.refl _)
noncomputable def zFj (f:Dst->Option R):Dst->Option (Option Int):=λO=>match f O with
 | some (.int i,_)=>some (some i)
 | _=>none
def zQA (h:GE X e f):GO X (some e) (zFj f):=PO.imp (zO3 h) λB H Q a=>by
 obtain⟨S,O,o,d,e,c⟩:=a;unfold zFj at e;split at e
 .rename_i i k g;cases e;exact⟨S,O,_,d,g,λv j b r1=>⟨i,r1.rd.int,c j b⟩⟩
 .cases e
noncomputable def slD (f:Dst->Option R)(l h:Dst->Option (Option Int)):Dst->Option R:=λO=>(f O).bind λx=>(l O).bind λlo=>(h O).bind λhi=>match x.1 with
 | .lst ds=>some (.lst (cutD ds lo hi),.fr)
 | .tup ds=>if HT.sIx ds.length 0 lo=0/\HT.sIx ds.length ds.length hi=ds.length then none else some (.tup (cutD ds lo hi),.cl)
 | _=>none
def zUo {s:Option Expr}(B:GE X a f)(A:GO X s l)(y:GO X hi h):GE X (.Subscript a (.Slice s hi none p2) pos) (slD f l h):=by
 refine(zMR (zOp.or zRT) B A y).imp λB H Q o=>?_
 obtain⟨S,O,z,i,e,c⟩:=o;obtain⟨x,u,e⟩:=bind_some e;obtain⟨d,t,e⟩:=bind_some e;obtain⟨g,r,e⟩:=bind_some e;split at e
 .rename_i es k;cases e;refine⟨S,O,x,i,u,λvx w j r1=>⟨S,O,d,i.mono j,t,λH2 m=>⟨S,O,g,i.mono (j.trans m),r,λH3 p=>?_⟩⟩⟩;have r3:=r1.rd.mono (m.trans p);rw[k] at r3;obtain⟨a,q,rfl,h1,h2⟩:=r3.lst;have b:=j.trans (m.trans p);exact .inl ⟨a,q,rfl,h1,λp n=>c _ _ (b.trans (zAe n _)) (.lstNew b (i.mono b).sok n (h2.cut d g))⟩
 .rename_i es k;split at e
  .cases e
  .rename_i v;cases e;refine⟨S,O,x,i,u,λvx w j r1=>⟨S,O,d,i.mono j,t,λH2 m=>⟨S,O,g,i.mono (j.trans m),r,λH3 p=>?_⟩⟩⟩;have r3:=r1.rd.mono (m.trans p);rw[k] at r3;obtain⟨a,q,rfl,h1,h2⟩:=r3.tup;have b:=j.trans (m.trans p);exact .inr ⟨a,q,rfl,h1,by rw[<- h2.length];exact v,λp n=>c _ _ (b.trans (zAe n _)) (.tupNew (i.mono b).sok n (h2.cut d g))⟩
 .cases e
def OpD1 (K:W.Frag)(r:List V->Hp->VK->Prop)(o:D->Option R):Prop :=
 ∀ (S:List Addr) (H:Hp) (x:D) (z:R) (vx:V) (Q:VK),(∀ a∈S,∃ xs:HO,H a=some xs/\MuB xs)->o x=some z->Rdv K H S x vx->(∀ v H',Same H H'->RV K H H' S z v->Q v H')->r [vx] H Q
noncomputable def one (f:Dst->Option R)(o:D->Option R):Dst->Option R:=λO=>(f O).bind λx=>o x.1
def zOB {r:List V->Hp->VK->Prop}{o:D->Option R}{f:Dst->Option R}(h:OpD1 X.K r o){B:St}{H:Hp}{Q:VK}(q:gT X.K (one f o) B H Q):tCB r (zRO (gT X.K f) tNil) B H Q:=by
 obtain⟨S,O,z,b,e,c⟩:=q;obtain⟨x,d,e⟩:=bind_some e;exact⟨S,O,x,b,d,λvx i a r1=>h S i x.1 z vx Q (b.mono a).sok e r1.rd λv j g r2=>c v j (a.trans g) (r2.from a)⟩
def zS9 {b:String}(d:zEs X (.builtin b) r)(h:OpD1 X.K r o)(i:Gl X x)(j:X.mg x=none)(k:bootBuiltins x=some (.builtin b))(l:GE X e f)
  (c:starEach [e] X.env=[(false,eval e X.env)]) (g:x ≠ "__name__") (a:(x==("__debug__":Str))=false):GE X (.Call (.Name x p) [e] [] pos) (one f o) :=
 (zFi d i j k (zAX l zBE c) g a c rfl).imp λ_ _ _ q=>zOB h q
def zSy (j:zEs X (.type T) r)(h:OpD1 X.K r o)(k:Gl X x)(i:X.mg x=none)(d:bootBuiltins x=some (.type T))(g:GE X e f)
  (b:starEach [e] X.env=[(false,eval e X.env)]) (c:x ≠ "__name__") (a:(x==("__debug__":Str))=false):GE X (.Call (.Name x p) [e] [] pos) (one f o) :=
 (zGU j k i d (zAX g zBE b) c a b rfl).imp λ_ _ _ q=>zOB h q
noncomputable def lenD:D->Option R
 | .lst ds=>some (.int ds.length,.cl)
 | .tup ds=>some (.int ds.length,.cl)
 | _=>none
def zPC:OpD1 X.K (λxs H Q=>∃ p ys,xs=[.ref p]/\(SqL X.K H p ys\/SqT X.K H p ys)/\Q (.int ys.length) H) lenD:=by
 intro S H x z f Q _ e d c;unfold lenD at e;split at e
 .cases e;obtain⟨a,b,rfl,h1,h2⟩:=d.lst;exact⟨a,b,rfl,.inl h1,by rw[<- h2.length];exact c _ H (Same.refl _) (.int _)⟩
 .cases e;obtain⟨a,b,rfl,h1,h2⟩:=d.tup;exact⟨a,b,rfl,.inr h1,by rw[<- h2.length];exact c _ H (Same.refl _) (.int _)⟩
 .cases e
noncomputable def absD:D->Option R
 | .int i=>some (.int (if i < 0 then -i else i),.cl)
 | _=>none
def zPF:OpD1 X.K (λxs H Q=>∃ i,xs=[.int i]/\Q (.int (if i < 0 then -i else i)) H) absD:=by
 intro S H x z b Q _ e a c;unfold absD at e;split at e
 .cases e;rename_i i;have:=a.int;subst this;exact⟨i,rfl,c _ H (Same.refl _) (.int _)⟩
 .cases e
noncomputable def zHS:D->Option R
 | .lst ds=>some (.lst ds,.fr)
 | .tup ds=>some (.lst ds,.fr)
 | _=>none
def zMX:OpD1 X.K (λxs H Q=>∃ p ys,xs=[.ref p]/\(SqL X.K H p ys\/SqT X.K H p ys)/\∀ l,H l=none->Q (.ref l) (upd H l (.lst ys))) zHS:=by
 intro S H x z g Q b e f c;unfold zHS at e;split at e
 .cases e;obtain⟨a,d,rfl,h1,h2⟩:=f.lst;exact⟨a,d,rfl,.inl h1,λp n=>c _ _ (zAe n _) (.lstNew (Same.refl _) b n h2)⟩
 .cases e;obtain⟨a,d,rfl,h1,h2⟩:=f.tup;exact⟨a,d,rfl,.inr h1,λp n=>c _ _ (zAe n _) (.lstNew (Same.refl _) b n h2)⟩
 .cases e
def zUu {r:String}{k:Int->Int->Int}(v:zEs X (.builtin r) (λxs H Q=>∃ i j,xs=[.int i,.int j]/\Q (.int (k i j)) H))
  (h:∀ x y z,o x y=some z->∃ i j,x=.int i/\y=.int j/\z=(.int (k i j),.cl)) (I:Gl X x) (J:X.mg x=none) (B:bootBuiltins x=some (.builtin r)) (C:GE X e1 f) (t:GE X e2 g)
  (s:starEach [e1,e2] X.env=(false,eval e1 X.env)::starEach [e2] X.env) (b:starEach [e2] X.env=[(false,eval e2 X.env)]) (D:x ≠ "__name__") (d:(x==("__debug__":Str))=false):GE X (.Call (.Name x p) [e1,e2] [] pos) (two f g o):=by
 refine(zFi v I J B (zAX C (zAX t zBE b) s) D d s (by rw[b];rfl)).imp λB H Q a=>?_
 obtain⟨S,O,z,q,e,c⟩:=a;obtain⟨x,w,e⟩:=bind_some e;obtain⟨y,u,e⟩:=bind_some e;obtain⟨i,j,F,A,rfl⟩:=h _ _ _ e;refine⟨S,O,x,q,w,λvx K n r1=>⟨S,O,y,q.mono n,u,λvy E G r2=>⟨i,j,?_,c _ E (n.trans G) (.int _)⟩⟩⟩;have l:=r1.rd;have m:=r2.rd;rw[F] at l;rw[A] at m;rw[l.int,m.int]
noncomputable def maxD (x y:D):Option R:=match x,y with
 | .int i,.int j=>some (.int (if j>i then j else i),.cl)
 | _,_=>none
inductive Ty where
 | int | bool | str | tuple | list
 deriving DecidableEq
noncomputable def Ty.nm:Ty->String
 | .int => "int" | .bool => "bool" | .str => "str" | .tuple => "tuple" | .list => "list"
noncomputable def isiD (t:Ty):D->Bool
 | .non=>false
 | .bl _=>t=.bool||t=.int
 | .int _=>t=.int
 | .str _=>t=.str
 | .tup _=>t=.tuple
 | .lst _=>t=.list
 | .exc _=>false
 | .dct _=>false
 | .lam _ _ _=>false
 | .obj _ _ _=>false
 | .fn _ _=>false
noncomputable def excB:D->Bool
 | .exc _=>true
 | .dct _=>true
 | .lam _ _ _=>true
 | .obj _ _ _=>true
 | .fn _ _=>true
 | _=>false
noncomputable def tyD:D->String
 | .non => "NoneType" | .bl _ => "bool" | .int _ => "int" | .str _ => "str" | .tup _ => "tuple" | .lst _ => "list" | .exc _ => "" | .dct _ => "" | .lam _ _ _ => "" | .obj _ _ _ => "" | .fn _ _ => ""
def zST (K:W.Frag)(d:D)(t:Ty)(a:excB d=false):W.kitOne K (.type (tyD d)) (.type t.nm)=some (isiD t d):=by
 cases d<;>cases t<;>first | rfl | decide +kernel | cases a
def zNg (t:Ty):zEs X (.builtin "isinstance") (λxs H Q=>∃ v d,xs=[v,.ty t.nm]/\Den X.K H d v/\excB d=false/\Q (.bl (isiD t d)) H):=by
 intro l s B H xs us Q I r h;obtain⟨v,d,rfl,f,g,q⟩:=h;obtain⟨u,F,rfl,r1,r2⟩:=zOj r;cases r2;have k:=zST X.K d t g;have e:∀ tk,EP X l B Q _ { s with toks:=tk }:=λtk=>⟨.bl _,H,I.tok tk,rfl,q⟩
 cases d with
 | exc c=>cases g
 | dct c=>cases g
 | lam _ _ _=>cases g
 | obj _ _ _=>cases g
 | fn _ _=>cases g
 | non=>rw[Den] at f;subst f;cases r1;exact W.kia_one W.kitx_none I.kIn True.intro k (λz=>nomatch z) e
 | bl b=>rw[Den] at f;subst f;cases r1;exact W.kia_one W.kitx_bool I.kIn True.intro k (λz=>nomatch z) e
 | int i=>rw[Den] at f;subst f;obtain⟨A,rfl⟩:=r1;exact W.kia_one W.kitx_int I.kIn True.intro k (λz=>nomatch z) e
 | str i=>rw[Den] at f;subst f;obtain⟨A,rfl⟩:=r1;exact W.kia_one W.kitx_str I.kIn True.intro k (λz=>nomatch z) e
 | tup D =>
  obtain⟨a,E,rfl,h1,h2⟩:=f;cases r1;obtain⟨p,y,⟨o,w,m,n,C⟩,_⟩:=I.tuple h1;exact W.kia_one W.kitx_tuple I.kIn ⟨o,w,m⟩ k (λz=>nomatch z) e
 | lst D =>
  obtain⟨a,E,rfl,h1,h2⟩:=f;cases r1;obtain⟨p,y,⟨o,n,w,m,_,C⟩,_⟩:=I.list h1;exact W.kia_one W.kitx_list I.kIn ⟨o,w,m⟩ k (λz=>nomatch z) e
noncomputable def isiF (t:Ty)(x:D):Option R:=if excB x=true then none else some (.bl (isiD t x),.cl)
def zSB (t:Ty):(Str.ofString t.nm)≠("__name__":Str)/\((Str.ofString t.nm)==("__debug__":Str))=false:=by cases t<;>decide +kernel
def zS5 (l:Gl X "isinstance")(i:X.mg "isinstance"=none)(d:Gl X (Str.ofString t.nm))(b:X.mg (Str.ofString t.nm)=none)(h:GE X e f)
  (g:starEach [e,.Name (Str.ofString t.nm) p2] X.env=(false,eval e X.env)::starEach [.Name (Str.ofString t.nm) p2] X.env):GE X (.Call (.Name "isinstance" p) [e,.Name (Str.ofString t.nm) p2] [] pos) (one f (isiF t)):=by
 refine(zFi (zNg t) l i boot_isinstance (zAX h (zAX (zPA d b ((by cases t<;>decide +kernel)) (v:=.ty t.nm) rfl (zSB t).1 (zSB t).2) zBE rfl) g) (by decide) (by decide) g rfl).imp λB H Q a=>?_
 obtain⟨S,O,z,n,e,c⟩:=a;obtain⟨x,j,e⟩:=bind_some e;unfold isiF at e;by_cases hx:excB x.1=true
 .rw [if_pos hx] at e;cases e
 .rw [if_neg hx] at e;cases e;exact⟨S,O,x,n,j,λvx k m r1=>⟨vx,x.1,rfl,r1.rd.whole,by simpa using hx,c _ k m (.bl _)⟩⟩
def spD (K:W.Frag)(F:List D->Option R):Sp:=λvs H Q _=>∃ S ds r,(∀ a∈S,∃ xs:HO,H a=some xs/\MuB xs)/\DenL K (hide H S) ds vs/\F ds=some r/\r.2≠.dt/\∀ v H',Same H H'->RV K H H' S r v->Q v H'
def spD0 (K:W.Frag)(F:List D->Option R):Sp:=λvs H Q _=>∃ ds r,DenL K H ds vs/\F ds=some r/\r.2≠.dt/\∀ v H',Same H H'->RV K H H' [] r v->Q v H'
noncomputable def zJG (F:List D->Option R)(g:Dst->Option (List D)):Dst->Option R:=λO=>(g O).bind λds=>(F ds).bind λr=>if r.2=.dt then none else some r
def zIY {F:List D->Option R}{g:Dst->Option (List D)}{B:St}{H:Hp}{Q:VK}(q:gT X.K (zJG F g) B H Q):zME (spD X.K F) [] E0 (gA X.K g) B H Q:=by
 obtain⟨S,O,z,b,e,c⟩:=q;obtain⟨d,h,e⟩:=bind_some e;obtain⟨r,f,e⟩:=bind_some e;by_cases hr:r.2=.dt
 .rw [if_pos hr] at e;cases e
 rw[if_neg hr] at e;cases e;refine⟨S,O,d,b,h,λvs k a r1=>?_⟩;show spD X.K F (vs++[]) k Q E0;rw[append_nil];exact⟨S,d,_,(b.mono a).sok,r1,f,hr,λv i j r2=>c v i (a.trans j) (r2.from a)⟩
def gAL (K:W.Frag)(f:Dst->Option (List D)):TA:=λB H Q=>∃ S O ds,DS K H S B O/\f O=some ds/\∀ vs H',Same H H'->DenL K H' ds vs->Q vs H'
def GAL (X:Cx)(es:List Expr)(f:Dst->Option (List D)):Prop:=PA X es (gAL X.K f)
def zQO:GAL X [] (λ_=>some []):=zBE.imp λB H Q a=>by
 obtain⟨S,O,z,b,e,c⟩:=a;cases e;exact c [] H (Same.refl _) .nil
noncomputable def zTk (f:Dst->Option R)(g:Dst->Option (List D)):Dst->Option (List D):=λO=>(f O).bind λx=>(g O).bind λxs=>some (x.1::xs)
def zNC (k:GE X e f)(l:GAL X es g)(n:starEach (e::es) X.env=(false,eval e X.env)::starEach es X.env):GAL X (e::es) (zTk f g):=by
 refine(zAX k l n).imp λB H Q a=>?_
 obtain⟨S,O,z,d,e,c⟩:=a;obtain⟨x,o,e⟩:=bind_some e;obtain⟨j,b,e⟩:=bind_some e;cases e;refine⟨S,O,x,d,o,λv p i r1=>⟨S,O,j,d.mono i,b,λvs m h r2=>?_⟩⟩;exact c _ m (i.trans h) (.cons (r1.rd.whole.mono h) r2)
theorem zEZ {K:W.Frag}(e0:Env0 P w K mg base A outer s H)(hS:∀ a∈S,∃ xs:HO,H a=some xs/\MuB xs)(hk:r.2≠.dt)
  (run:Env0 P w K mg base A outer s (hide H S)->codeAny (model P w) A cd (CR CX0 outer P w (hide H S) s (λv H2=>RV K (hide H S) H2 [] r v/\Same (hide H S) H2) E) s) (c:∀ v H',Same H H'->RV K H H' S r v->Q v H'):codeAny (model P w) A cd (CR CX0 outer P w H s Q E) s:=by
 have inS:∀ {b:Addr} {o:HO},b∈S->H b=some o->MuB o:=λ{b o} z e=>by
  obtain⟨xs,q,mu⟩:=hS b z;rw[q] at e;cases e;exact mu
 have hok:HOk P w (hide H S) s.heap:=λb o e=>by
  obtain⟨nb,e'⟩:=zA3 e;refine(e0.hok b o e').stay (λc u _ q=>q) (λc q=>?_) (λc xs q=>?_) λc ob u q _=>?_
  .rw [zAQ λz=>?_]
   .exact q
   .exact (inS z q).elim
  .rw [zAQ λz=>?_]
   .exact q
   .exact (inS z q).elim
  .rw [zAQ λz=>?_]
   .exact q
   .exact (inS z q).elim
 have none_of:∀ {b:Addr},H b=none->hide H S b=none:=λ{b} q=>by
  by_cases z:b∈S
  .exact zCC z
  .rw [zAQ z];exact q
 have e1:Env0 P w K mg base A outer s (hide H S):=⟨e0.frames,e0.mod,λb o e=>⟨(e0.bs b o e).1,none_of (e0.bs b o e).2⟩,e0.bsz,e0.funs,λb z=>none_of (e0.frf b z),hok,e0.bare,e0.tree,λx hx c P e=>by
  have q:=e0.tabs x hx c P e;rw[zAQ λz=>(inS z q).elim];exact q⟩
 refine codeAny_mono (run e1) λres s' h=>?_
 cases res with
 | error e=>exact h.elim
 | ok fl =>
  cases fl with
  | next=>exact h
  | brk=>exact h
  | cont=>exact h
  | ret u =>
   obtain⟨v,H2,os,bare,un,hok2,rv2,r2,s2⟩:=h;have there:∀ {b:Addr},b∈S->∃ ob xs,s.heap.get? b=some ob/\s'.heap.get? b=some ob/\H2 b=none/\H b=some xs/\MuB xs/\zCj P w H s.heap b xs:=λ{b} z=>by
    obtain⟨xs,q,mu⟩:=hS b z;have ok:=e0.hok b _ q;obtain⟨ob,e⟩:∃ ob,s.heap.get? b=some ob:=by
     cases xs with
     | lst ys=>obtain⟨z1,its,n,r1,e⟩:=id ok;exact⟨_,e⟩
     | dT kvs=>obtain⟨_,_,_,_,ob,_,_,e,_⟩:=id ok;exact⟨ob,e⟩
     | _=>exact mu.elim
    exact⟨ob,xs,e,un.keep b _ e (zCC z) (λz2=>by rw[e0.frf b z2] at q;cases q) (by simp),un.free b _ e (zCC z) (by simp),q,mu,ok⟩
   have out:∀ {b:Addr} {o:HO},H2 b=some o->b∉S:=λ{b o} e z=>by
    obtain⟨_,_,_,_,q,_⟩:=there z;rw[q] at e;cases e
   obtain⟨H',h'in,h'out⟩:∃ H':Hp,(∀ {b:Addr},b∈S->H' b=H b)/\(∀ {b:Addr},b∉S->H' b=H2 b):=⟨λb=>if b∈S then H b else H2 b,λz=>if_pos z,λz=>if_neg z⟩;have sH:Same H H':=λb o e=>by
    by_cases z:b∈S
    .rw [h'in z];exact e
    .rw [h'out z];exact s2 b o (by rw[zAQ z];exact e)
   have sub:Same H2 (hide H' S):=λb o e=>by
    rw[zAQ (out e),h'out (out e)];exact e
   refine⟨v,H',os,bare,⟨λb o e n=>un.keep b o e (none_of n),λb o e n=>un.slot b o e (none_of n),λb o e n hx=>?_,un.there,λb xs e=>?_,λb o u e=>?_,λb ps e=>?_⟩,λb o e=>?_,rv2,c v H' sH ?_⟩
   .by_cases z:b∈S
    .rw [h'in z];exact n
    .rw [h'out z];exact un.free b o e (none_of n) hx
   .exact sH b _ e
   .exact sH b _ e
   .exact sH b _ e
   .by_cases z:b∈S
    .rw [h'in z] at e;obtain⟨ob,xs,g1,g2,_,g4,mu,ok⟩:=there z;rw[g4] at e;cases e;cases o with
     | lst ys =>
      obtain⟨z1,its,n,r1,e⟩:=ok;rw[g1] at e;cases e;exact⟨z1,its,n,r1,g2⟩
     | dT kvs =>
      obtain⟨z1,z2,xs,r1,ob',es,ep,e,rest⟩:=ok;rw[g1] at e;cases e;exact⟨z1,z2,xs,Paired.mapP r1 λp q z=>⟨z.1,sH _ _ z.2.1,z.2.2⟩,ob,es,ep,g2,rest⟩
     | _=>exact mu.elim
    .rw [h'out z] at e;exact(hok2 b o e).stay (λc u _ q=>q) (λc q=>by rw[h'out (out q)];exact q) (λc xs q=>by rw[h'out (out q)];exact q) λc ob u q _=>by rw[h'out (out q)];exact q
   .obtain ⟨d,kd⟩:=r;cases kd with
    | cl =>
     have q:Den K (hide H2 []) d v:=r2;rw[zCB] at q;exact q.mono sub
    | fr =>
     obtain⟨a,ws,es,ev,ed,_,na,ha,t⟩:=r2;have aS:a∉S:=out ha;refine⟨a,ws,es,ev,ed,aS,by rw[zAQ aS] at na;exact na,by rw[h'out aS];exact ha,t.mono λb o e=>?_⟩;obtain⟨q1,q2⟩:=zA3 e;have nb:b∉a::S:=λz=>(mem_cons.mp z).elim (λz=>q1 (by rw[z];exact q9)) (out q2)
     rw[zAQ nb,h'out (out q2)];exact q2
    | dt=>exact absurd rfl hk
def FnOk.framed {K:W.Frag}(G:FnOk P w K mg base CX0 k f fd ps (spD0 K F)):FnOk P w K mg base CX0 k f fd ps (spD K F):=by
 refine⟨λvs H Q E h=>?_,λA a s H b us vs Q E o p q m h=>?_⟩
 .obtain ⟨S,g,r,j,i,e,d,c⟩:=h;exact G.len vs _ _ E ⟨g,r,i,e,d,λ_ _ _ _=>trivial⟩
 obtain⟨S,g,r,j,i,e,d,c⟩:=h;exact zEZ p j d (λe1=>G.run A a s _ b us vs _ E o e1 q m ⟨g,r,i,e,d,λv t n r1=>⟨r1,n⟩⟩) c
end
inductive Out where
 | nx (O:Dst) | rt (r:R) | bk (O:Dst) | ct (O:Dst)
def Post (K:W.Frag)(H0:Hp)(o:Out)(E:Ends):Prop:=match o with
 | .nx O1=>∀ S' B' H',DS K H' S' B' O1->Same H0 (hide H' S')->E.nx B' H'
 | .bk O1=>∀ S' B' H',DS K H' S' B' O1->Same H0 (hide H' S')->E.bk B' H'
 | .ct O1=>∀ S' B' H',DS K H' S' B' O1->Same H0 (hide H' S')->E.ct B' H'
 | .rt r=>r.2≠.dt/\∀ v H',Same H0 H'->RV K H0 H' [] r v->E.rt v H'
def gS (K:W.Frag)(H0:Hp)(g:Dst->Option Out):TS:=λE B H=>∃ S O o,DS K H S B O/\Same H0 (hide H S)/\g O=some o/\Post K H0 o E
def GS (X:Cx)(st:Stmt)(g:Dst->Option Out):Prop:=∀ H0,PS X st (gS X.K H0 g)
def GSs (X:Cx)(st:List Stmt)(g:Dst->Option Out):Prop:=∀ H0,PSs X st (gS X.K H0 g)
theorem _root_.L2.PS.imp {st:Stmt}(h:PS X st t)(i:∀ E B H,t' E B H->t E B H):PS X st t':=λpins s B H E I q=>h pins s B H E I (i E B H q)
theorem _root_.L2.PSs.imp {st:List Stmt}(h:PSs X st t)(i:∀ E B H,t' E B H->t E B H):PSs X st t':=λpins s B H E I q=>h pins s B H E I (i E B H q)
section
variable {X:Cx}
noncomputable def seqD (f g:Dst->Option Out):Dst->Option Out:=λO=>(f O).bind λo=>match o with
 | .nx O1=>g O1
 | o=>some o
def zP5:GSs X [] (λO=>some (.nx O)):=λH0=>zHE.imp λE B H a=>by
 obtain⟨S,O,o,b,h0,e,p⟩:=a;cases e;exact p S B H b h0
def zM1 {st:Stmt}(h1:GS X st f)(h2:GSs X rest g):GSs X (st::rest) (seqD f g):=λH0=>(zFe (h1 H0) (h2 H0)).imp λE B H a=>by
 obtain⟨S,O,o,d,h0,e,p⟩:=a;obtain⟨c,k,e⟩:=bind_some e;refine⟨S,O,c,d,h0,k,?_⟩;cases c with
 | nx b=>exact λS' n m j h=>⟨S',b,o,j,h,e,p⟩
 | rt r=>cases e;exact p
 | bk b=>cases e;exact p
 | ct b=>cases e;exact p
def zP4 (d:∀ O o,f O=some o->∃ O1,o=.nx O1/\∀ K H S B,DS K H S B O->∃ S',(∀ b∈S',b∈S)/\DS K H S' B O1)(h2:GSs X rest g):GSs X rest (seqD f g):=λH0=>(h2 H0).imp λE B H a=>by
 obtain⟨S,O,o,i,h0,e,p⟩:=a;obtain⟨l,j,e⟩:=bind_some e;obtain⟨O1,rfl,k⟩:=d O l j;obtain⟨S',c,h⟩:=k _ H S B i;exact⟨S',O1,o,h,h0.trans (zB1 c),e,p⟩
theorem zTZ {K:W.Frag}(ds:DS K H S B O)(h0:Same H0 (hide H S))(s1:Same H H')(p:Post K H0 (.nx O) E):E.nx B H' :=
 p S B H' (ds.mono s1) (h0.trans (zAR s1))
noncomputable def retD (f:Dst->Option R):Dst->Option Out:=λO=>(f O).bind λr=>if r.2=.dt then none else some (.rt r)
theorem RV.up {K:W.Frag}(h0:Same H0 (hide H S))(s1:Same H H')(hr:r.2≠.dt)(h:RV K H H' S r v):Same H0 H'/\RV K H0 H' [] r v:=by
 refine⟨h0.trans (zAf.trans s1),?_⟩;obtain⟨d,k⟩:=r;cases k with
 | cl =>
  exact Den.mono zAf h
 | fr =>
  obtain⟨a,vs,ds,e1,e2,e3,e4,e5,t⟩:=h;refine⟨a,vs,ds,e1,e2,by simp,?_,e5,t.mono (zB1 λb z=>by
   have:b=a:=by simpa using z
   rw[this];exact q9)⟩
  cases q:H0 a with
  | none=>rfl
  | some o =>
   have:=(zA3 (h0 a o q)).2;grind
 | dt=>exact absurd rfl hr
def zSl (h:GE X e f):GS X (.Return (some e) pos) (retD f):=λH0=>(zJv h).imp λE B H a=>by
 obtain⟨S,O,o,g,h0,e,p⟩:=a;obtain⟨r,b,e⟩:=bind_some e;by_cases hr:r.2=.dt
 .rw [if_pos hr] at e;cases e
 rw[if_neg hr] at e;cases e;refine⟨S,O,r,g,b,λv d c r1=>?_⟩;obtain⟨i,j⟩:=RV.up h0 c hr r1;exact p.2 v d i j
noncomputable def zDY (i:Nat):Dst->Option Out:=λO=>match O[i]? with
 | some (some (.lst d,true))=>some (.rt (.lst d,.fr))
 | _=>none
def zKr (t:X.N[i]?=some x)(h:Vis X.env.scope x)(l:(x==("__debug__":Str))=false)(f:(x==("__classdict__":Str))=false):GS X (.Return (some (.Name x pos')) pos) (zDY i):=λH0=>(zJv (zDK t h l f)).imp λE B H c=>by
 obtain⟨S,O,o,s,h0,e,p⟩:=c;unfold zDY at e;split at e
 .rename_i d q;cases e;obtain⟨v,m,j⟩:=s.get i _ true q;obtain⟨a,u,es,rfl,n,g,r,k⟩:=j.ownL rfl;refine⟨.ref a,m,p.2 _ H (h0.trans zAf) ⟨a,u,es,rfl,n,by simp,?_,r,k.mono (zB1 λb z=>by
   have:b=a:=by simpa using z
   rw[this];exact g)⟩⟩
  cases q:H0 a with
  | none=>rfl
  | some o=>exact absurd g (zA3 (h0 a o q)).1
 .cases e
def zID {st:Stmt}:GS X st (λ_=>none):=λH0=>(zFf (X:=X) (st:=st)).imp λE B H a=>by obtain⟨S,O,o,b,h0,e,p⟩:=a;cases e
noncomputable def setD (i:Nat)(f:Dst->Option R):Dst->Option Out:=λO=>(f O).bind λr=>match r.2 with
 | .cl=>some (.nx (O.set i (some (r.1,false))))
 | .fr=>some (.nx (O.set i (some (r.1,true))))
 | .dt=>none
theorem zEz {K:W.Frag}(ds:DS K H S B O)(h0:Same H0 (hide H S))(s1:Same H H')(r1:RV K H H' S r v)
  (e:(match r.2 with | .cl=>some (Out.nx (O.set i (some (r.1,false)))) | .fr=>some (Out.nx (O.set i (some (r.1,true)))) | .dt=>none)=some o) (p:Post K H0 o E):E.nx (B.set i (some v)) H':=by
 obtain⟨d,k⟩:=r;cases k with
 | cl =>
  cases e;exact p S _ H' ((ds.mono s1).set r1) (h0.trans (zAR s1))
 | fr =>
  cases e;obtain⟨a,vs,es,rfl,rfl,e3,e4,e5,t⟩:=r1;exact p (a::S) _ H' (ds.setF s1 e4 e5 t) (h0.trans (zD9 s1 e4))
 | dt=>cases e
def zOM (d:X.N.Nodup)(g:X.N[i]?=some x)(l:Loc X.env.scope x)(h:GE X e f)(m:swapsWith e (some (.Name x pos')) pos.line X.env=pure false)(j:X.fn x=true\/X.env.scope.names.lookup x=some .local) :
  GS X (.Assign [.Name x pos'] e pos) (setD i f):=λH0=>(zN5 d g l h m j).imp λE B H a=>by
 obtain⟨S,O,o,b,h0,e,p⟩:=a;obtain⟨r,c,e⟩:=bind_some e;exact⟨S,O,r,b,c,λv n k r1=>zEz b h0 k r1 e p⟩
noncomputable def appD (i:Nat)(f:Dst->Option R):Dst->Option Out:=λO=>match O[i]? with
 | some (some (.lst xs,true))=>(f O).bind λr=>if r.2=.dt then none else if xs.length<=10000 then some (.nx (O.set i (some (.lst (xs++[r.1]),true)))) else none
 | _=>none
def zSp (E:X.N[i]?=some x)(M:Vis X.env.scope x)(G:(x==("__debug__":Str))=false)(n:(x==("__classdict__":Str))=false)(h:GE X e f)
  (m:starEach [e] X.env=[(false,eval e X.env)]) (b:attributeBase (.Name x npos) "append" X.env (eval (.Name x npos) X.env)=eval (.Name x npos) X.env) (c:(apos.endLine==cpos.line)=true) :
  GS X (.Expr (.Call (.Attribute (.Name x npos) "append" apos) [e] [] cpos) pos) (appD i f):=λH0=>(zHF (zO9 PySem.F.plainAttrs_list PySem.F.slot_list_append PySem.F.type_list_append zGZ (zDK E M G n) (zAX h zBE m) b (by rw[m];rfl) c m rfl) rfl).imp λE B H g=>by
 obtain⟨S,O,o,s,h0,e,p⟩:=g;unfold appD at e;split at e
 .rename_i A q;obtain⟨r,F,e⟩:=bind_some e;by_cases hr:r.2=.dt
  .rw [if_pos hr] at e;cases e
  rw[if_neg hr] at e;by_cases hl:A.length<=10000
  .rw [if_pos hl] at e;cases e;obtain⟨v,D,J⟩:=s.get i _ true q;obtain⟨a,u,es,rfl,L,N,C,w⟩:=J.ownL rfl;cases L;refine⟨.ref a,D,.inl ⟨rfl,_,SqL.of C⟩,S,O,r,s,F,λy z j r1=>?_⟩;have I:Den X.K (hide z S) r.1 y:=RV.den (d:=r.1) (k:=r.2) r1 hr;have l:=w.mono (zAR j (S:=S));refine⟨a,u,y,rfl,rfl,j _ _ C,by rw[<- w.length];exact Nat.lt_of_le_of_lt hl (by decide),?_⟩;have t:DenL X.K (hide z S) (A++[r.1]) (u++[y]):=l.append (.cons I .nil);have K:=(s.mono j).change (i:=i) q D t;refine p S B _ K ?_;rw[zFx N];exact h0.trans (zAR j)
  .rw [if_neg hl] at e;cases e
 .cases e
noncomputable def ifD (c:Dst->Option Bool)(f g:Dst->Option Out):Dst->Option Out:=λO=>(c O).bind λb=>if b=true then f O else g O
def zUk (j:GT X c k)(m:GSs X a f)(n:GSs X b g):GS X (.If c a b pos) (ifD k f g):=λH0=>(zRh j (m H0) (n H0)).imp λE B H d=>by
 obtain⟨S,O,o,i,h0,e,p⟩:=d;obtain⟨b,l,e⟩:=bind_some e;refine⟨S,O,b,i,l,λH1 h=>?_⟩;cases b with
 | true =>
  rw[if_pos rfl] at e ⊢;exact⟨S,O,o,i.mono h,h0.trans (zAR h),e,p⟩
 | false =>
  rw[if_neg qY] at e ⊢;exact⟨S,O,o,i.mono h,h0.trans (zAR h),e,p⟩
noncomputable def zBP (c:Dst->Option Bool)(b:Dst->Option Out):Nat->Dst->Option Out
 | 0,_=>none
 | n+1,O=>(c O).bind λk=>if k=true then (b O).bind λo=>(match o with
   | .nx O1=>zBP c b n O1
   | .ct O1=>zBP c b n O1
   | .bk O1=>some (.nx O1)
   | .rt r=>some (.rt r)) else some (.nx O)
theorem zC1 :∀ {n:Nat} {O:Dst} {o:Out},zBP c b n O=some o->zBP c b (n+1) O=some o
 | 0,_,_,h=>by cases h
 | n+1,O,o,h=>by
  obtain⟨k,ek,h⟩:=bind_some h;show (c O).bind _=some o;rw[ek];cases k with
  | false =>
   rw[if_neg qY] at h;rw[qx,if_neg qY];exact h
  | true =>
   rw[if_pos rfl] at h;rw[qx,if_pos rfl];obtain⟨o1,e1,h⟩:=bind_some h;rw[e1];cases o1 with
   | nx O1=>exact zC1 (n:=n) h
   | ct O1=>exact zC1 (n:=n) h
   | bk O1=>exact h
   | rt r=>exact h
def zEC (h:zBP c b n O=some o)(l:n<=m):zBP c b m O=some o:=by
 induction m with
 | zero =>
      have:n=0:=by omega
      grind
 | succ m a =>
  by_cases q:n<=m
  .exact zC1 (a q)
  .grind
open Classical in
def zBW (c:Dst->Option Bool)(b:Dst->Option Out)(O:Dst):Option Out :=
 if h:∃ n o,zBP c b n O=some o then some (Classical.choose (choose_spec h)) else none
def zBx (h:zBP c b n O=some o):zBW c b O=some o:=by
 have a:∃ n o,zBP c b n O=some o:=⟨n,o,h⟩;unfold zBW;rw[dif_pos a];have d:=zEC h (Nat.le_max_right (Classical.choose a) n);rw[zEC (choose_spec (choose_spec a)) (Nat.le_max_left _ n)] at d;omega
def zDT (h:zBW c b O=some o):∃ n,zBP c b n O=some o:=by
 unfold zBW at h;by_cases ex:∃ n o,zBP c b n O=some o
 .grind
 .grind
def zM3 (A:PassesOwn (model X.prog X.w) X.A X.env X.xe)(z:GT X c k)(C:GSs X body f):GS X (.While c body [] pos) (zBW k f):=λH0=>(zMP A z (C H0)).imp λE B H d=>by
 obtain⟨S,O,o,h,h0,e,p⟩:=d;obtain⟨n,a⟩:=zDT e;refine⟨λm B H=>∃ S O,DS X.K H S B O/\Same H0 (hide H S)/\zBP k f m O=some o,⟨n,S,O,h,h0,a⟩,?_⟩;rintro m B H ⟨S,O,h,h0,a⟩;cases m with
 | zero=>cases a
 | succ m =>
  obtain⟨b,x,a⟩:=bind_some a;refine⟨S,O,b,h,x,λH1 s=>?_⟩;cases b with
  | false =>
   rw[if_neg qY] at a ⊢;cases a;exact zTZ h h0 s p
  | true =>
   rw[if_pos rfl] at a ⊢;obtain⟨t,y,a⟩:=bind_some a;refine⟨λB' g=>∃ S O,DS X.K g S B' O/\Same H0 (hide g S)/\zBP k f m O=some o,λB' g q=>⟨m,Nat.lt_succ_self m,q⟩,S,O,t,h.mono s,h0.trans (zAR s),y,?_⟩;cases t with
   | nx i=>exact λS' B' g l j=>⟨S',i,l,j,a⟩
   | ct i=>exact λS' B' g l j=>⟨S',i,l,j,a⟩
   | bk i=>cases a;exact p
   | rt r=>cases a;exact p
noncomputable def forD (t:D->Dst->Option Dst)(b:Dst->Option Out):List D->Dst->Option Out
 | [],O=>some (.nx O)
 | x::xs,O=>(t x O).bind λO5=>(b O5).bind λo=>match o with
  | .nx O1=>forD t b xs O1
  | .ct O1=>forD t b xs O1
  | .bk O1=>some (.nx O1)
  | .rt r=>some (.rt r)
def GG (X:Cx)(tg:Expr)(t:D->Dst->Option Dst):Prop:=∃ g,PG X tg g/\∀ (K:W.Frag),K=X.K->∀ (x:D) (v:V) (B:St) (H:Hp) (S:List Addr) (O O1:Dst) (Q:St->Hp->Prop),DS K H S B O->Den K (hide H S) x v->t x O=some O1->(∀ B',DS K H S B' O1->Q B' H)->g v B H Q
def zKx (c:X.N.Nodup)(f:X.N[i]?=some x)(h:Loc X.env.scope x)(g:X.fn x=true\/X.env.scope.names.lookup x=some .local):GG X (.Name x pos) (λd O=>some (O.set i (some (d,false)))) :=
 ⟨_,zFh c f h g,λK k x v B H S O j Q a b e q=>by
  cases e;exact q _ (a.set b)⟩
noncomputable def tg2 (i j:Nat):D->Dst->Option Dst:=λd O=>match d with
 | .tup [a,b]=>some ((O.set i (some (a,false))).set j (some (b,false)))
 | _=>none
def GI (X:Cx)(tg iter:Expr)(f:Dst->Option (List D)):Prop:=∃ wi,PI X tg iter wi/\∀ (B:St) (H:Hp) (S:List Addr) (O:Dst) (xs:List D) (Rr:It->Hp->Prop),DS X.K H S B O->f O=some xs ->
 (∀ J H1,Same H H1->(∀ (i:Nat) H2,i<=xs.length->Same (hide H1 S) H2->(i=xs.length->J.stop i H2)/\(i < xs.length->J.go i H2/\∀ v H3,J.yld i H2 v H3->H3=H2/\∀ x,xs[i]?=some x->Den X.K (hide H1 S) x v))->Rr J H1)->wi B H Rr
def zSm (W:PassesOwn (model X.prog X.w) X.A X.env X.xe)(hc:X.calm=true)(G:GI X tg iter f)(L:GG X tg t)(hb:GSs X body b)
  (U:∀ x,foldedSetIterable iter X.env x=pure x):GS X (.For tg iter body [] pos) (λO=>(f O).bind λxs=>forD t b xs O):=by
 intro H0;obtain⟨wi,M,hI⟩:=G;obtain⟨g,L,Y⟩:=L;intro a s B H E I ⟨S,O,o,R,h0,e,p⟩;obtain⟨xs,V,e⟩:=bind_some e;refine(zN6 (tb:=λE B j=>∃ d,gS X.K (hide d S) b E B j/\Same (hide d S) (hide d S)) W hc M L ?_ U) a s B H E I ?_
 .intro a s B H E I ⟨d,q,_⟩;exact hb (hide d S) a s B H E I q
 refine hI B H S O xs _ R V λJ d N hJ=>?_
 refine⟨λi m D j=>i<=xs.length/\m=xs.length - i/\∃ h l,DS X.K j h D l/\Same (hide d S) (hide j h)/\forD t b (xs.drop i) l=some o,⟨xs.length,zero_le _,by omega,S,O,R.mono N,Same.refl _,e⟩,?_⟩;rintro i m D j ⟨G,rfl,h,l,u,F,c⟩;have C:Same H0 (hide d S):=h0.trans (zAR N);obtain⟨j1,j2⟩:=hJ i j G (F.trans zAf);by_cases hlt:i < xs.length
 .obtain ⟨go,yl⟩:=j2 hlt;have Z:xs.drop i=xs[i]::xs.drop (i+1):=List.drop_eq_getElem_cons hlt;rw[Z] at c;obtain⟨P,e1,c⟩:=bind_some c;obtain⟨T,e2,c⟩:=bind_some c;refine .inr ⟨go,λB3 n=>∃ h l,DS X.K n h B3 l/\Same (hide d S) (hide n h)/\forD t b (xs.drop (i+1)) l=some o,λB3 n q=>⟨xs.length - (i+1),by omega,hlt,rfl,q⟩,λv n y=>?_⟩;obtain⟨rfl,hv⟩:=yl v n y;refine Y X.K rfl xs[i] v D n h l P _ u ((hv _ (by simp[hlt])).mono F) e1 λB4 K=>⟨d,⟨h,P,T,K,F,e2,?_⟩,Same.refl _⟩
  cases T with
  | nx A=>exact λS2 J w z k=>⟨S2,A,z,k,c⟩
  | ct A=>exact λS2 J w z k=>⟨S2,A,z,k,c⟩
  | bk A =>
   cases c;exact λS2 J w z k=>p S2 J w z (C.trans k)
  | rt r =>
   cases c;refine⟨p.1,λv w q1 k=>p.2 v w (C.trans q1) (k.from C)⟩
 .have ei:i=xs.length:=by omega
  subst ei;rw[drop_eq_nil_of_le (le_refl _)] at c;cases c;exact .inl ⟨j1 rfl,p h D j u (C.trans F)⟩
noncomputable def rngL (lo:Int)(n:Nat):List D:=(List.range n).map λ(k:Nat)=>D.int (lo+k)
theorem zGR {K:W.Frag}{lo:Int}(i:Nat)(H2:Hp)(hi:i<=(rngL lo n).length):(i=(rngL lo n).length->(Itr lo n).stop i H2)/\(i < (rngL lo n).length->(Itr lo n).go i H2/\∀ v H3,(Itr lo n).yld i H2 v H3->H3=H2/\∀ x,(rngL lo n)[i]?=some x->Den K (hide H1 S) x v):=by
 have hl:(rngL lo n).length=n:=by unfold rngL;simp
 refine⟨λe=>by rw[hl] at e;exact Nat.le_of_eq e.symm,λh=>⟨by rw[hl] at h;exact h,λv H3 y=>⟨y.1,λx ex=>?_⟩⟩⟩;rw[hl] at h;have:(rngL lo n)[i]?=some (D.int (lo+i)):=by unfold rngL;simp[h]
 rw[this] at ex;cases ex;exact y.2
noncomputable def zFc (f:Dst->Option R):Dst->Option (List D):=λO=>match f O with
 | some (.int j,_)=>if -(2^62)<=j/\j < 2^62 then some (rngL 0 j.toNat) else none
 | _=>none
def zKw (o:Gl X "range")(m:X.mg "range"=none)(h:GE X a f)(b:starEach [a] X.env=[(false,eval a X.env)]):GI X tg (.Call (.Name "range" p) [a] [] pos) (zFc f):=by
 refine⟨_,zGT o m (zAX h zBE b) b,λB H S O t s l e q=>?_⟩;unfold zFc at e;split at e
 .rename_i j k n;by_cases hj:-2^62<=j/\j < 2^62
  .rw [if_pos hj] at e;cases e;exact⟨S,O,_,l,n,λv d c r1=>⟨j,by rw[r1.rd.int],hj.1,hj.2,q _ d c λi r g _=>zGR i r g⟩⟩
  .simp_all
 .cases e
noncomputable def zGS (f g:Dst->Option R):Dst->Option (List D):=λO=>match f O,g O with
 | some (.int i,_),some (.int j,_)=>if (-(2^62)<=i/\i < 2^62)/\-(2^62)<=j/\j < 2^62 then some (rngL i (j - i).toNat) else none
 | _,_=>none
def zKv (r:Gl X "range")(u:X.mg "range"=none)(m:GE X a f)(v:GE X b g)(w:starEach [a,b] X.env=(false,eval a X.env)::starEach [b] X.env)(c:starEach [b] X.env=[(false,eval b X.env)]):GI X tg (.Call (.Name "range" p) [a,b] [] pos) (zGS f g):=by
 refine⟨_,zJz r u (zAX m (zAX v zBE c) w) (by simp_all) c,λB H S O x A l e q=>?_⟩;unfold zGS at e;split at e
 .rename_i i k j z o t;by_cases hj:(-2^62<=i/\i < 2^62)/\-(2^62)<=j/\j < 2^62
  .rw [if_pos hj] at e;cases e;exact⟨S,O,_,l,o,λv y h r1=>⟨S,O,_,l.mono h,t,λu d s r2=>⟨i,j,by rw[r1.rd.int,r2.rd.int],⟨hj.1.1,hj.1.2,hj.2.1,hj.2.2⟩,q _ d (h.trans s) λi d n _=>zGR i d n⟩⟩⟩
  .rw [if_neg hj] at e;cases e
 .cases e
noncomputable def frzD (i:Nat):Dst->Option Out:=λO=>match O[i]? with
 | some (some (d,true))=>some (.nx (O.set i (some (d,false))))
 | _=>some (.nx O)
def zTH :∀ O o,frzD i O=some o->∃ O1,o=.nx O1/\∀ K H S B,DS K H S B O->∃ S',(∀ b∈S',b∈S)/\DS K H S' B O1:=λO o e=>by
 unfold frzD at e;split at e
 .rename_i d q;cases e;exact⟨_,rfl,λK H S B a=>a.freeze q⟩
 .cases e;exact⟨_,rfl,λK H S B a=>⟨S,λ_ z=>z,a⟩⟩
noncomputable def dFun (np nN:Nat)(g:Dst->Option Out)(ds:List D):Option R :=
 if ds.length=np/\np<=nN then (g (ds.map (λd=>some (d,false))++List.replicate (nN - np) none)).bind λo=>match o with
  | .rt r=>some r
  | .nx _=>some (.non,.cl)
  | _=>none
 else none
def zNX {K:W.Frag}(h:DenL K H ds vs)(l:ds.length<=N.length):DS K H [] (zBy N vs) (ds.map (λd=>some (d,false))++List.replicate (N.length - ds.length) none):=by
 have g:=h.length;refine⟨by unfold L2.zBy;simp[<- g],λa z=>absurd z (by simp),λi d o q=>?_,λi j d e a b _ _ _=>?_⟩
 .have c:i < ds.length:=by
   by_cases z:i < ds.length
   .exact z
   .rw [getElem?_append_right (by simpa using z),getElem?_replicate] at q;split at q<;>cases q
  rw[getElem?_append_left (by simpa using c),getElem?_map] at q;cases e:ds[i]? with
  | none=>rw[e] at q;cases q
  | some k =>
   rw[e] at q;cases q;obtain⟨v,b,f⟩:=h.get e;refine⟨v,?_,.of_den (by rw[zCB];exact f)⟩;unfold L2.zBy;rw[getElem?_append_left (by simp_all),getElem?_map,b]
   rfl
 .have c:i < ds.length:=by
   by_cases z:i < ds.length
   .exact z
   .rw [getElem?_append_right (by simpa using z),getElem?_replicate] at b;split at b<;>cases b
  rw[getElem?_append_left (by simpa using c)] at b
  simp_all
def zTG {K:W.Frag}{st:Stmt}(F:Fun K x qual st f fd)(S:zAa N ps (zAA st))
  (b:∀ (cdv:Value) (A:Around) (outer:List Env) (s:Shared) (H:Hp) (E:XK),Room k (A.deeper (envOfC qual (zAA st) s.heap.objs.size f cdv))->GSs (cxOf CX0 P w K mg base N qual (zAA st) f cdv A outer s H E).nox (zAG st) g) :
  FnOk P w K mg base CX0 (k+1) f fd ps (spD K (dFun ps.length N.length g)):=by
 refine FnOk.framed (F.ok S (λvs H Q E h=>?_) λcdv A outer s H u Q E p h=>?_)
 .obtain ⟨e,r,d,a,i,c⟩:=h;unfold dFun at a;by_cases q:e.length=ps.length/\ps.length<=N.length
  .rw [<- d.length];exact q.1
  .simp_all
 obtain⟨e,r,d,a,i,c⟩:=h;refine⟨_,b cdv A outer s H E p H,?_⟩;unfold dFun at a;by_cases q:e.length=ps.length/\ps.length<=N.length
 .rw [if_pos q] at a;obtain⟨o,l,a⟩:=bind_some a;rw[<- q.1] at l;refine⟨[],_,o,zNX d (by rw[q.1];exact q.2),by rw[zCB];exact Same.refl _,l,?_⟩;cases o with
  | nx j =>
   cases a;exact λS' y n v m=>c _ n (m.trans zAf) rfl
  | rt t =>
   cases a;exact⟨i,c⟩
  | bk j=>cases a
  | ct j=>cases a
 .simp_all
end
end DL
end
section
namespace DL
open PySem
noncomputable def zBv (env:Env):List (Str×NameKind)->List (Str×Addr)->List (Str×Addr)
 | [],acc=>acc
 | (n,k)::r,acc=>zBv env r (if k==.free then (match env.cells.lookup n with | some c=>(n,c)::acc | none=>acc) else acc)
theorem zF6 (f:Str×NameKind->List (Str×Addr)->Sem (ForInStep (List (Str×Addr))))
  (hf:∀ n k cs,f (n,k) cs=if k==.free then (do let a<-cellOf env n;pure (.yield ((n,a)::cs))) else pure (.yield cs)) :
  ∀ (names:List (Str×NameKind)) (acc:List (Str×Addr)),(∀ x∈names,x.2=.free->∃ c,env.cells.lookup x.1=some c)->forIn names acc f=(pure (zBv env names acc):Sem (List (Str×Addr)))
 | [],acc,_=>by rw[List.forIn_nil];rfl
 | (n,k)::r,acc,h=>by
  rw[forIn_cons,hf];have hr:∀ x∈r,x.2=.free->∃ c,env.cells.lookup x.1=some c:=λx z=>h x (qJ _ z)
  cases e:k==.free with
  | true =>
   obtain⟨c,ec⟩:=h (n,k) q9 (by simpa using e);have e1:cellOf env n=pure c:=by unfold cellOf;rw[ec]
   rw[if_pos rfl,e1];unfold zBv;rw[e,if_pos rfl,ec];exact zF6 f hf r _ hr
  | false =>
   rw[if_neg qY];unfold zBv;rw[e,if_neg qY];exact zF6 f hf r _ hr
def zBa (h:∀ x∈scope.names,x.2=.free->∃ c,env.cells.lookup x.1=some c):closureFor scope env=pure (zBv env scope.names []):=by
 show (forIn scope.names _ _>>=λcs=>pure cs)=_;rw[zF6 _ (λn k cs=>rfl) scope.names [] h]
 rfl
def zGs :∀ (f:List (Str×NameKind)) (a:List (Str×Addr)),(∀ x c,a.lookup x=some c->env.cells.lookup x=some c)->∀ x c,(zBv env f a).lookup x=some c->env.cells.lookup x=some c
 | [],a,h,x,c,e=>h x c e
 | (n,k)::r,a,h,x,c,e=>by
  unfold zBv at e;refine zGs r _ ?_ x c e;intro y d q;cases z:k==.free with
  | false=>rw[z,if_neg qY] at q;exact h y d q
  | true =>
   rw[z,if_pos rfl] at q;cases w:env.cells.lookup n with
   | none=>rw[w] at q;exact h y d q
   | some c' =>
    rw[w] at q;dsimp only at q;rw[lookup_cons] at q;cases b:y==n with
    | true =>
     rw[b] at q;cases q;have:y=n:=by simpa using b
     rw[this];exact w
    | false=>rw[b] at q;exact h y d q
theorem zFL :∀ (names:List (Str×NameKind)) (acc:List (Str×Addr)),(∃ c,acc.lookup x=some c)->∃ c,(zBv env names acc).lookup x=some c
 | [],acc,h=>h
 | (n,k)::r,acc,h=>by
  unfold zBv;refine zFL r _ ?_;cases z:k==.free with
  | false=>rw[if_neg qY];exact h
  | true =>
   rw[if_pos rfl];cases w:env.cells.lookup n with
   | none=>exact h
   | some c' =>
    dsimp only;rw[lookup_cons];cases b:x==n with
    | true=>exact⟨_,rfl⟩
    | false=>exact h
theorem zEj :∀ (names:List (Str×NameKind)) (acc:List (Str×Addr)),(x,NameKind.free)∈names->(∃ c,env.cells.lookup x=some c)->∃ c,(zBv env names acc).lookup x=some c
 | (n,k)::r,acc,hm,hc=>by
  unfold zBv;rcases mem_cons.mp hm with e | hm
  .cases e;obtain⟨c,hc⟩:=hc;refine zFL r _ ?_;rw[show (NameKind.free==NameKind.free)=true from rfl,if_pos rfl,hc];exact⟨c,by rw[lookup_cons];simp⟩
  .exact zEj r _ hm hc
def zFK :∀ (a:List (Str×NameKind)) (e:List (Str×Addr)) (c:Addr),(zBv env a e).lookup x=some c->(x,NameKind.free)∈a\/∃ c,e.lookup x=some c
 | [],e,c,h=>.inr ⟨c,h⟩
 | (n,k)::r,e,c,h=>by
  unfold zBv at h;rcases zFK r _ c h with q | ⟨d,q⟩
  .exact .inl (qJ _ q)
  .cases z:k==.free with
   | false=>rw[z,if_neg qY] at q;exact .inr ⟨d,q⟩
   | true =>
    rw[z,if_pos rfl] at q;cases w:env.cells.lookup n with
    | none=>rw[w] at q;exact .inr ⟨d,q⟩
    | some c' =>
     rw[w] at q;dsimp only at q;rw[lookup_cons] at q;cases b:x==n with
     | true =>
      have e1:x=n:=by simpa using b
      have f:k=.free:=by simpa using z
      subst e1 f;exact .inl q9
     | false=>rw[b] at q;exact .inr ⟨d,q⟩
def zCI :∀ (a:List (Str×NameKind)) (n:Nat) (d:List (Str×Addr)) (c:Addr),(cellsFrom n a d).lookup x=some c->((x,NameKind.cell)∈a/\n<=c)\/d.lookup x=some c
 | [],n,d,c,h=>.inr h
 | (y,k)::r,n,d,c,h=>by
  unfold cellsFrom at h;cases z:k==.cell with
  | false =>
   rw[z,if_neg qY] at h;rcases zCI r n d c h with ⟨q1,q2⟩ | q
   .exact .inl ⟨qJ _ q1,q2⟩
   .exact .inr q
  | true =>
   rw[z,if_pos rfl] at h;rcases zCI r (n+1) _ c h with ⟨q1,q2⟩ | q
   .exact .inl ⟨qJ _ q1,by omega⟩
   .rw [lookup_cons] at q;cases b:x==y with
    | true =>
     rw[b] at q;cases q;have e1:x=y:=by simpa using b
     have e:k=.cell:=by simpa using z
     subst e1 e;exact .inl ⟨q9,le_refl _⟩
    | false=>rw[b] at q;exact .inr q
section
variable {M:Model}{A:Around}{E:Value->Shared->Prop}{s:Shared}
def zHN 
  (c:Q (newEnv scope s.heap.objs.size globals (cellsFrom (s.heap.objs.size+1) scope.names cl) qual none .none (some outer) builtinsNs) { s with heap:=pushCells (s.heap.push { cls:=.type "dict",data:=.dict #[] }) scope.names }) :
  wpAny M A (newFunctionEnv scope globals cl [] qual none .none (some outer)) Q E s:=by
 refine qX (wpAny_alloc ?_);refine qX (wpAny_layCells _ λname a b=>by cases hkc:a==NameKind.cell<;>simp[hkc] _ _ _ _ ?_);simp;exact qX (xq (xq c))
end
section
variable {prog:Program}{w:World}{A:Around}{R:Result->Shared->Prop}{s:Shared}
abbrev NB (prog:Program) (w:World) (A:Around) (env:Env) (R:Result->Shared->Prop):Value->Shared->Prop:=notedBy (model prog w) A env λe s'=>R (.error e) s'
theorem zGr (I:Nat->Shared->Prop)
  (turn:∀ n s,I n s->wpAny (model prog w) A (pyNext it) (λr O2=>match r with
   | none=>R (.ok .next) O2
   | some v=>wpAny (model prog w) A (letOwnedTupleGo target it v) (λ_ s1'=>wpAny (model prog w) A (assign target env v) (λ_ Y1 =>
     wpAny (model prog w) A (forIn ifs true λc r=>if r=true then do let ok<-isTrue c env (eval c env);pure (ForInStep.yield ok) else pure (ForInStep.yield r)) (λok Y3 =>
      if ok=true then wpAny (model prog w) A (eval elt env) (λx Y4 =>
       wpAny (model prog w) A (call (.builtin "list.append") [acc,x]) (λ_ Z8=>∃ m,m < n/\I m Z8) (NB prog w A env R) Y4) (NB prog w A env R) Y3
      else ∃ m,m < n/\I m Y3) (NB prog w A env R) Y1) (NB prog w A env R) s1') (NB prog w A env R) O2) (NB prog w A env R) s)
  (n:Nat) (h:I n s) :
  codeAny (model prog w) A (.compLoop (.ListComp elt [⟨target,iter,ifs,0⟩] scope pos) 0 it acc env) R s:=by
 refine codeAny_loop rfl I (λn s hI=>?_) n h;show wpAny _ A ((compTurn (.ListComp elt [⟨target,iter,ifs,0⟩] scope pos) 0 it acc env).onRaise (λx=>do noteFrame x env;theTreesLotGoes x)) _ _ s;refine wpAny_noted ?_;rw[compTurn_list];refine qX (wpAny_standAt (qX (wpAny_mono (turn n s hI) (λr O2 O9=>?_) λ_ _ h'=>h')));cases r with
 | none=>exact xq O9
 | some v =>
  refine qX (wpAny_mono O9 (λ_ s1' U2=>?_) λ_ _ h'=>h');refine qX (wpAny_mono U2 (λ_ Y1 Y9=>qX (wpAny_mono Y9 (λok Y3 Z1=>?_) λ_ _ h'=>h')) λ_ _ h'=>h');cases ok with
  | false=>exact xq ⟨rfl,Z1⟩
  | true =>
   exact qX (qX (wpAny_mono Z1 (λx Y4 U3=>qX (wpAny_mono U3 (λ_ Z8 U4=>xq (xq ⟨rfl,U4⟩)) λ_ _ h'=>h')) λ_ _ h'=>h'))
end
end DL
end
section
namespace DL
open PySem Spec PyProof.Rows L2
noncomputable def relS (sc scope:Scope):Scope :=
 { scope with names:=scope.names.map λ(n,k)=>if (k==.free&&sc.kind==.function&&sc.names.lookup n==some .cell) then (n,.cell) else (n,k) }
def zDg {a:List (Str×NameKind)}:a.lookup x=some k->(x,k)∈a:=λh=>PySem.mem_of_lookup h
theorem zCq:∀ {names:List (Str×NameKind)} {x:Str} {k:NameKind},(names.map (·.1)).Nodup->(x,k)∈names->names.lookup x=some k
 | (y,j)::r,x,k,nd,hm=>by
  rw[map_cons,nodup_cons] at nd;rw[lookup_cons];rcases mem_cons.mp hm with e | hm2
  .cases e;simp
  .have ne:(x==y)=false:=by
    cases b:x==y with
    | false=>rfl
    | true =>
     have e1:x=y:=by simpa using b
     exact absurd (show y∈r.map (·.1) from mem_map.mpr ⟨(x,k),hm2,e1⟩) nd.1
   rw[ne];exact zCq nd.2 hm2
theorem zDf {sc:Scope}:∀ (names:List (Str×NameKind)) (x:Str),(names.map λ(n,k)=>if (k==NameKind.free&&sc.kind==.function&&sc.names.lookup n==some .cell) then (n,NameKind.cell) else (n,k)).lookup x =
  (names.lookup x).map λk=>if (k==NameKind.free&&sc.kind==.function&&sc.names.lookup x==some .cell) then NameKind.cell else k
 | [],x=>rfl
 | (n,k)::r,x=>by
  rw[map_cons,lookup_cons];have ih:=zDf (sc:=sc) r x;cases b:x==n with
  | true =>
   have e1:x=n:=by simpa using b
   subst e1;dsimp only;by_cases c:(k==NameKind.free&&sc.kind==.function&&sc.names.lookup x==some .cell)=true
   .rw [if_pos c,lookup_cons];simp only[beq_self_eq_true,Option.map_some,if_pos c]
   .rw [if_neg c,lookup_cons];simp only[beq_self_eq_true,Option.map_some,if_neg c]
  | false =>
   dsimp only;by_cases c:(k==NameKind.free&&sc.kind==.function&&sc.names.lookup n==some .cell)=true
   .rw [if_pos c,lookup_cons,b];exact ih
   .rw [if_neg c,lookup_cons,b];exact ih
noncomputable def ownB (scope:Scope)(y:Str):Bool:=match scope.names.lookup y with
 | some .local=>true
 | some .cell=>true
 | _=>false
structure zCT (sc scope:Scope):Prop where
 kind:scope.kind=.function
 nd:(scope.names.map (·.1)).Nodup
 fr:∀ x∈scope.names,x.2=.free->sc.names.lookup x.1=some .cell\/sc.names.lookup x.1=some .free
def zCG:∀ (d:List (Str×NameKind)) (n:Nat) (a:List (Str×Addr)),(∀ x y c,a.lookup x=some c->a.lookup y=some c->x=y)->(∀ x c,a.lookup x=some c->c < n)->∀ x y c,(cellsFrom n d a).lookup x=some c->(cellsFrom n d a).lookup y=some c->x=y
 | [],n,a,h1,_,x,y,c,e1,e2=>h1 x y c e1 e2
 | (z,k)::r,n,a,h1,h2,x,y,c,e1,e2=>by
  unfold cellsFrom at e1 e2;cases b:k==.cell with
  | false =>
   rw[b,if_neg qY] at e1 e2;exact zCG r n a h1 h2 x y c e1 e2
  | true =>
   rw[b,if_pos rfl] at e1 e2;refine zCG r (n+1) _ ?_ ?_ x y c e1 e2
   .intro x y c q1 q2;rw[lookup_cons] at q1 q2;cases b1:x==z with
    | true =>
     cases b2:y==z with
     | true =>
      have e3:x=z:=by simpa using b1
      have e:y=z:=by simpa using b2
      rw[e3,e]
     | false =>
      rw[b1] at q1;rw[b2] at q2;cases q1;exact absurd (h2 y _ q2) (lt_irrefl _)
    | false =>
     cases b2:y==z with
     | true =>
      rw[b1] at q1;rw[b2] at q2;cases q2;exact absurd (h2 x _ q1) (lt_irrefl _)
     | false =>
      rw[b1] at q1;rw[b2] at q2;exact h1 x y c q1 q2
   .intro x c q1;rw[lookup_cons] at q1;cases b1:x==z with
    | true=>rw[b1] at q1;cases q1;exact Nat.lt_succ_self _
    | false=>rw[b1] at q1;exact Nat.lt_succ_of_lt (h2 x c q1)
theorem zA8 :∀ (names:List (Str×NameKind)) (n:Nat) (acc:List (Str×Addr)),(∃ c,acc.lookup x=some c)->∃ c,(cellsFrom n names acc).lookup x=some c
 | [],n,acc,h=>h
 | (z,k)::r,n,acc,h=>by
  unfold cellsFrom;cases b:k==.cell with
  | false=>rw[if_neg qY];exact zA8 r n acc h
  | true =>
   rw[if_pos rfl];refine zA8 r (n+1) _ ?_;rw[lookup_cons];cases b1:x==z with
   | true=>exact⟨_,rfl⟩
   | false=>exact h
theorem zCH :∀ (names:List (Str×NameKind)) (n:Nat) (acc:List (Str×Addr)),(x,NameKind.cell)∈names->∃ c,(cellsFrom n names acc).lookup x=some c
 | (z,k)::r,n,acc,hm=>by
  unfold cellsFrom;rcases mem_cons.mp hm with e | hm
  .cases e;rw[show (NameKind.cell==NameKind.cell)=true from rfl,if_pos rfl];exact zA8 r (n+1) _ ⟨n,by rw[lookup_cons];simp⟩
  .cases b:k==.cell with
   | false=>rw[if_neg qY];exact zCH r n acc hm
   | true=>rw[if_pos rfl];exact zCH r (n+1) _ hm
theorem zAy:∀ (names:List (Str×NameKind)) (h:Heap) (b:Addr) (o:Obj),h.get? b=some o->(pushCells h names).get? b=some o
 | [],h,b,o,e=>e
 | (z,k)::r,h,b,o,e=>by
  unfold pushCells;cases c:k==.cell with
  | false=>rw[if_neg qY];exact zAy r h b o e
  | true=>rw[if_pos rfl];exact zAy r _ b o (get?_push_of_some _ e)
theorem zBw:∀ (names:List (Str×NameKind)) (h:Heap) (acc:List (Str×Addr)),(∀ x c,acc.lookup x=some c->∃ v,h.IsCell c v)->∀ x c,(cellsFrom h.objs.size names acc).lookup x=some c->∃ v,(pushCells h names).IsCell c v
 | [],h,acc,q,x,c,e=>q x c e
 | (z,k)::r,h,acc,q,x,c,e=>by
  unfold cellsFrom at e;unfold pushCells;cases b:k==.cell with
  | false =>
   rw[b,if_neg qY] at e;rw[if_neg qY];exact zBw r h acc q x c e
  | true =>
   rw[b,if_pos rfl] at e;rw[if_pos rfl];have es:(h.push { cls:=.type "cell",data:=.cell none }).objs.size=h.objs.size+1:=Heap.size_push ..;rw[<- es] at e;refine zBw r (h.push { cls:=.type "cell",data:=.cell none }) ((z,h.objs.size)::acc) ?_ x c e;intro y d p;rw[lookup_cons] at p;cases b1:y==z with
   | true =>
    rw[b1] at p;cases p;exact⟨none,_,get?_push_size _ rfl,rfl⟩
   | false =>
    rw[b1] at p;obtain⟨v,o,ho,hd⟩:=q y d p;exact⟨v,o,get?_push_of_some _ ho,hd⟩
noncomputable def zBn (scope:Scope)(X:Cx)(s:Shared):Env :=
 { newEnv scope s.heap.objs.size X.env.globals (cellsFrom (s.heap.objs.size+1) scope.names (zBv X.env scope.names [])) X.env.qual none .none (some X.env) builtinsNs with scope:=relabel scope X.env }
noncomputable def zAW (X:Cx)(N:List Str)(scope:Scope)(s:Shared)(H:Hp)(fp:List Addr):Cx :=
 { X with N:=N,O6:=s,Y6:=H,env:=zBn scope X s,outer:=X.stack,stack:=X.stack,ex:=fp,fn:=ownB scope,pn:=[],xe:=λ_ _=>False }
section
variable {X:Cx}{pins:List (Addr×Obj)}{B σc:St}{H:Hp}{s:Shared}{fp:List Addr}{scope:Scope}{N:List Str}
def zEi (I:Inv X pins B H s)(cs:zCT X.env.scope scope):∀ x∈scope.names,x.2=.free->∃ c,X.env.cells.lookup x.1=some c:=λx a b =>
 I.ok.has x.1 (cs.fr x a b)
def zMs (I:Inv X pins B H s)(F:∀ b∈fp,FpOk X pins H b/\∃ o,s.heap.get? b=some o)(cs:zCT X.env.scope scope)
  (Z:∀ (i:Nat) (x:Str) (v:V),N[i]?=some x->σc[i]?=some (some v)->Vis (relS X.env.scope scope) x->scope.names.lookup x=some .free/\∃ j:Nat,X.N[j]?=some x/\B[j]?=some (some v)) (D:σc.length=N.length) :
  Inv (zAW X N scope s H fp) [] σc H { s with heap:=pushCells (s.heap.push { cls:=.type "dict",data:=.dict #[] }) scope.names }:=by
 have J:∀ b o,s.heap.get? b=some o->(pushCells (s.heap.push { cls:=.type "dict",data:=.dict #[] }) scope.names).get? b=some o:=λb o e=>zAy _ _ b o (get?_push_of_some _ e)
 have a:∀ x c,(zBv X.env scope.names []).lookup x=some c->X.env.cells.lookup x=some c:=λx c e=>zGs scope.names [] (λ_ _ q=>by simp at q) x c e
 have r:∀ x c,(zBv X.env scope.names []).lookup x=some c->c < s.heap.objs.size:=λx c e=>by
  obtain⟨v,q⟩:=I.cell x c (a x c e);exact q.lt
 have f:∀ x c,(zBn scope X s).cells.lookup x=some c->((x,NameKind.cell)∈scope.names/\s.heap.objs.size+1<=c)\/(zBv X.env scope.names []).lookup x=some c:=λx c e=>zCI scope.names _ _ c e
 have S:∀ x,(zBn scope X s).kindOf x=(scope.names.lookup x).map λk=>if (k==NameKind.free&&X.env.scope.kind==.function&&X.env.scope.names.lookup x==some .cell) then NameKind.cell else k:=λx=>zDf (sc:=X.env.scope) scope.names x
 have O:(s.heap.push { cls:=.type "dict",data:=.dict #[] }).objs.size=s.heap.objs.size+1:=Heap.size_push ..;refine⟨⟨I.ok.mod,cs.kind,I.ok.glob,I.ok.blt,le_refl _,λx y c h1 h2=>?_,λx g=>?_,λx c g h=>?_,I.ok.hd,I.ok.frames,.inl rfl,λb A=>⟨?_,λx c h z=>?_⟩,λb o e=>I.bs b o e,le_trans I.ok.bsz I.sz,λb o e A=>?_,λb A z=>?_,I.stack,I.stkFree,I.ok.pyl,I.tabs⟩,
  rfl,I.bare,Un.kept J,⟨λ_=>none,?_,λi x v h1 h2 h3=>?_⟩,λx c h=>?_,I.hok.fresh (le_refl _),λx c h=>?_,λp hp=>absurd (show p∈([]:List (Addr×Obj)) from hp) (by simp),I.hok.kept J,D⟩
 .exact zCG scope.names _ _ (λx y c C L=>I.ok.inj x y c (a x c C) (a y c L)) (λx c q=>Nat.lt_succ_of_lt (r x c q)) x y c h1 h2
 .replace g:(zBn scope X s).kindOf x=some .cell\/(zBn scope X s).kindOf x=some .free:=g;rw[S x] at g;cases q:scope.names.lookup x with
  | none=>rw[q] at g;simp at g
  | some k =>
   rw[q] at g;by_cases kf:k=.free
   .subst kf;have l:=zDg q;exact zA8 scope.names _ _ (zEj scope.names [] l (zEi I cs _ l rfl))
   .have M:(k==NameKind.free)=false:=by simpa using kf
    simp only[M,Bool.false_and,Option.map_some,Bool.false_eq_true,if_false] at g;rcases g with g | g
    .cases g;exact zCH scope.names _ _ (zDg q)
    .cases g;exact absurd rfl kf
 .rcases f x c h with ⟨_,q⟩ | q
  .exact le_trans (Nat.le_succ _) q
  .rcases zFK scope.names [] c q with l | ⟨d,l⟩
   .have M:=zCq cs.nd l;have t:ownB scope x=true:=g;unfold ownB at t;rw[M] at t;cases t
   .simp at l
 .obtain ⟨_,o,e⟩:=F b A;exact ne_of_lt (lt_size e)
 .obtain ⟨⟨R,G,P,n,Q,T⟩,o,e⟩:=F b A;rcases f x c h with ⟨_,q⟩ | q
  .have:=lt_size e;rw[z] at q;exact absurd (xX (Nat.lt_succ_of_lt this) q) (lt_irrefl _)
  .exact Q x c (a x c q) z
 .obtain ⟨⟨R,G,P,n,Q,T⟩,_⟩:=F b A;rcases n with n | n
  .exact I.ok.noex b o e n
  .exact absurd (xX (lt_size e) (le_trans I.ok.bsz n)) (lt_irrefl _)
 .obtain ⟨⟨R,G,P,n,Q,T⟩,_⟩:=F b A;rcases mem_cons.mp (I.stkSub b z) with q | q
  .exact G q
  .exact P q
 .exact (Heap.Ns.new s.heap (.type "dict")).keeps (zAy _ _)
 .obtain ⟨C,j,L,q3⟩:=Z i x v h1 h2 h3;have l:=zDg C;have U:=cs.fr _ l rfl;obtain⟨m,hn,hl⟩:=I.loc;obtain⟨u,ru,lk⟩:=hl j x v L q3 (U.elim (λe=>.inr (.inl e)) λe=>.inr (.inr e));refine⟨u,ru,.inr ⟨?_,?_⟩⟩
  .show (zBn scope X s).kindOf x=_\/(zBn scope X s).kindOf x=_;rw[S x,C];dsimp only[Option.map_some];split
   .exact .inl rfl
   .exact .inr rfl
  .rcases lk with ⟨Y,_⟩ | ⟨_,c,k2,k3⟩
   .have W:X.env.scope.names.lookup x=some .local:=Y
    simp_all
   .obtain ⟨K,E⟩:=zA8 scope.names (s.heap.objs.size+1) _ (zEj (env:=X.env) scope.names [] l ⟨c,k2⟩);refine⟨K,E,?_⟩;rcases f x K E with ⟨z,_⟩ | z
    .have:=zCq cs.nd z;rw[C] at this;cases this
    .have:=a x K z;rw[k2] at this;cases this;exact k3.keeps J
 .have E:(cellsFrom (s.heap.push { cls:=.type "dict",data:=.dict #[] }).objs.size scope.names (zBv X.env scope.names [])).lookup x=some c:=by rw[O];exact h
  exact zBw scope.names _ _ (λy d q=>by
   obtain⟨v,w⟩:=I.cell y d (a y d q);exact⟨v,w.keeps λb o e=>get?_push_of_some _ e⟩) x c E
 .rcases f x c h with ⟨_,q⟩ | q
  .exact I.hok.fresh (le_trans (Nat.le_succ _) q)
  .exact I.freeC x c (a x c q)
end
noncomputable def noN (N:List Str):Str:=Str.ofString (String.ofList (List.replicate N.length (Char.ofNat 32)))
noncomputable def mask {T:Type}(z:T):List Nat->List T->List T
 | [],l=>l
 | m::ms,l=>mask z ms (l.set m z)
theorem zBA {T:Type}(z:T):∀ (ms:List Nat) (l:List T),(mask z ms l).length=l.length
 | [],l=>rfl
 | m::ms,l=>by unfold mask;rw[zBA z ms,length_set]
theorem zBZ {T:Type}{z y:T}{i:Nat}:∀ {ms:List Nat} {l:List T},(mask z ms l)[i]?=some y->(y=z/\i∈ms)\/(l[i]?=some y/\i∉ms)
 | [],l,h=>.inr ⟨h,by simp⟩
 | m::ms,l,h=>by
  unfold mask at h;rcases zBZ h with ⟨e,hm⟩ | ⟨e,hm⟩
  .exact .inl ⟨e,qJ _ hm⟩
  .rcases zAV e with ⟨e1,e2,_⟩ | ⟨ne,e1⟩
   .exact .inl ⟨e2,by rw[<- e1];exact q9⟩
   .exact .inr ⟨e1,λz=>(mem_cons.mp z).elim (λq=>ne q.symm) hm⟩
theorem zFn {T:Type}{z:T}{i:Nat}:∀ {ms:List Nat} {l:List T},i∉ms->(mask z ms l)[i]?=l[i]?
 | [],l,_=>rfl
 | m::ms,l,h=>by
  unfold mask;rw[zFn λq=>h (qJ _ q),getElem?_set_ne λq=>h (by rw[q];exact q9)]
def zCM {T:Type}{l:List (Option T)}{k i:Nat}{y:T}(h:(l++List.replicate k none)[i]?=some (some y)):l[i]?=some (some y)/\i < l.length:=by
 by_cases hi:i < l.length
 .rw [getElem?_append_left hi] at h;exact⟨h,hi⟩
 .rw [getElem?_append_right (by omega),getElem?_replicate] at h;grind
theorem DS.ext {K:W.Frag}(h:DS K H S B O)(ms:List Nat)(k:Nat):DS K H S (mask none ms B++List.replicate k none) (mask none ms O++List.replicate k none):=by
 refine⟨by rw[qQ,qQ,zBA,zBA,h.len,length_replicate,length_replicate],h.sok,λi d o q=>?_,λi j d e a q1 q2 q3 q4=>?_⟩
 .obtain ⟨q,hi⟩:=zCM q;rcases zBZ q with ⟨z,_⟩ | ⟨q,ni⟩
  .cases z
  .obtain ⟨v,w1,w2⟩:=h.get i d o q;exact⟨v,by rw[getElem?_append_left (by rw[zBA] at hi ⊢;rw[h.len];exact hi),zFn ni];exact w1,w2⟩
 .obtain ⟨q1,_⟩:=zCM q1;obtain⟨q2,_⟩:=zCM q2;obtain⟨q3,_⟩:=zCM q3;obtain⟨q4,_⟩:=zCM q4;rcases zBZ q1 with ⟨z,_⟩ | ⟨q1,_⟩
  .cases z
  rcases zBZ q2 with ⟨z,_⟩ | ⟨q2,_⟩
  .cases z
  rcases zBZ q3 with ⟨z,_⟩ | ⟨q3,_⟩
  .cases z
  rcases zBZ q4 with ⟨z,_⟩ | ⟨q4,_⟩
  .cases z
  exact h.inj i j d e a q1 q2 q3 q4
noncomputable def zCF (t:D->Dst->Option Dst)(c:Dst->Option Bool)(e:Dst->Option R):List D->Dst->Option (List D)
 | [],_=>some []
 | x::xs,O=>(t x O).bind λO5=>(c O5).bind λb=>if b=true then (e O5).bind λr=>if r.2=.dt then none else (zCF t c e xs O5).bind λys=>some (r.1::ys) else zCF t c e xs O5
noncomputable def zF5 (ms:List Nat)(k:Nat)(f:Dst->Option (List D))(t:D->Dst->Option Dst)(c:Dst->Option Bool)(e:Dst->Option R):Dst->Option R:=λO =>
 (f O).bind λzs=>if zs.length<=10000 then (zCF t c e zs (mask none ms O++List.replicate k none)).bind λys=>some (.lst ys,.fr) else none
def GCs (X:Cx)(ifs:List Expr)(c:Dst->Option Bool):Prop:=∀ (pins:List (Addr×Obj)) (s:Shared) (B:St) (H:Hp) (Q:Bool->Hp->Prop),Inv X pins B H s->gB X.K c B H Q ->
 wpAny (model X.prog X.w) X.A (forIn ifs true λc r=>if r=true then do let ok<-isTrue c X.env (eval c X.env);pure (ForInStep.yield ok) else pure (ForInStep.yield r)) (TP X pins B Q) X.xe s
section
variable {X:Cx}
def zIU (G:X.calm=true)(e5:PI X tg iter wi)(cs:zCT X.env.scope scope)
  (hm:∀ (i:Nat) x,X.N[i]?=some x->ownB scope x=true->i∈ms)
      (I:Inv X pins B H s) {L:It->Hp->Nat->Nat->St->Hp->List V->Prop} {Z:Hp->Hp->List V->Prop}
  (h0:wi B H λJ H2=>∃ n,L J H2 n 0 (mask none ms B++List.replicate xs.length none) H2 [])
  (len:∀ {J H2 n i B' H' vs},L J H2 n i B' H' vs->vs.length<=10000)
  (step:∀ {J H2 n i B' H' vs} (s3:Shared) (fp:List Addr),L J H2 n i B' H' vs->(J.stop i H'/\Z H2 H' vs)\/∃ n',n' < n/\J.go i H'/\∀ v H5,J.yld i H' v H5->H5=H' /\
   ∀ (Y:Cx),Y=zAW X (mask (noN X.N) ms X.N++xs) scope s3 H2 fp->∀ (pn:List (Addr×Obj)) (s5:Shared) (u:Value) (E:Value->Shared->Prop),Inv Y pn B' H' s5->RelV v u ->
    wpAny (model X.prog X.w) X.A (assign tg Y.env u) (λ_ s6=>wpAny (model X.prog X.w) X.A (forIn ifs true λc r=>if r=true then do let ok<-isTrue c Y.env (eval c Y.env);pure (ForInStep.yield ok) else pure (ForInStep.yield r)) (λok s7 =>
     if ok=true then wpAny (model X.prog X.w) X.A (eval elt Y.env) (λuv s8=>∃ v' B6 H8,Inv Y pn B6 H8 s8/\RelV v' uv/\L J H2 n' (i+1) B6 H8 (vs++[v'])) E s7 else ∃ B6 H8,Inv Y pn B6 H8 s7/\L J H2 n' (i+1) B6 H8 vs) E s6) E s5)
  {RR:Value->Addr->Result->Shared->Prop}
  (e4:∀ (D C:Addr) (s1:Shared) (H'':Hp) (m:Str->Option Value),s1.heap.Ns C m->(∀ h',Heap.SameBut C s1.heap h'->Inv X pins B H'' { s1 with heap:=h' })->H'' C=none->C≠X.env.locals->C∉X.fs->X.O6.heap.objs.size<=C ->
   (∀ x c,X.env.cells.lookup x=some c->c≠C)->(∀ p∈X.pn++pins,p.1≠C)->(∃ H2 H' vs,Z H2 H' vs/\H2 D=none/\H' D=none/\H''=upd H' D (.lst vs))->RR (.ref D) C (.ok .next) s1) :
  wpAny (model X.prog X.w) X.A (eval iter X.env) (λx O2=>wpAny (model X.prog X.w) X.A (pyIter x) (λit Y1=>wpAny (model X.prog X.w) X.A (newList []) (λacc Y3 =>
   wpAny (model X.prog X.w) X.A (newFunctionEnv scope X.env.globals (zBv X.env scope.names []) [] X.env.qual none .none (some X.env)) (λcenv Y4 =>
    codeAny (model X.prog X.w) X.A (.compStart (.ListComp elt [⟨tg,iter,ifs,0⟩] scope pos) 0 it acc { cenv with scope:=relabel scope X.env }) (RR acc cenv.locals) Y4) X.xe Y3) X.xe Y1) X.xe O2) X.xe s:=by
 refine thn (e5 pins s B H _ I h0) λv s1 h1=>thn h1 λitv Q h2=>?_
 obtain⟨it,fp,tn,J,H2,rfl,M,T,a6,f2,n0,l0⟩:=h2;refine wpAny_newObj_type (zHN ?_);have e3:∃ s3:Shared,s3={ Q with heap:=Q.heap.push { cls:=.type "list",dict:=none,data:=.seq ([]:List Value).toArray } }:=⟨_,rfl⟩;obtain⟨s3,A⟩:=e3;rw[<- A];have eD:∃ D,D=Q.heap.objs.size:=⟨_,rfl⟩;obtain⟨D,hD⟩:=eD;rw[<- hD];have hC:s3.heap.objs.size=D+1:=by rw[A,hD];exact Heap.size_push ..
 have l:∀ b o,Q.heap.get? b=some o->s3.heap.get? b=some o:=λb o q=>by rw[A];exact get?_push_of_some _ q
 have I3:Inv X pins B H2 s3:=by rw[A];exact M.kept (t':=Q.toks) λb o q=>get?_push_of_some _ q
 have oD:s3.heap.get? D=some { cls:=.type "list",data:=.seq ([]:List Value).toArray }:=by rw[A,hD];exact get?_push_size _ rfl
 have a4:H2 D=none:=by rw[hD];exact M.hok.fresh (le_refl _)
 have S:∀ b∈fp,b < D:=λb a=>by
  obtain⟨o,q,_⟩:=T.obj _ _ a6 b a;rw[hD];exact lt_size q
 have c8:∀ b∈D::fp,FpOk X pins H2 b/\∃ o,s3.heap.get? b=some o:=λb a=>by
  rcases mem_cons.mp a with rfl | a
  .exact ⟨M.fpOk (by rw[hD];exact le_refl _) a4,_,oD⟩
  .obtain ⟨o,q,_⟩:=T.obj _ _ a6 b a;exact⟨f2 b a,o,l b o q⟩
 have d0:(mask none ms B++List.replicate xs.length none).length=(mask (noN X.N) ms X.N++xs).length:=by
  rw[qQ,qQ,zBA,zBA,length_replicate,I.len]
 have Ic:=zMs (fp:=D::fp) (N:=mask (noN X.N) ms X.N++xs) (σc:=mask none ms B++List.replicate xs.length none) I3 c8 cs (λi x v q1 q2 q3=>by
  obtain⟨q2,c7⟩:=zCM q2;rcases zBZ q2 with ⟨z,_⟩ | ⟨q2,ni⟩
  .cases z
  have e2:i < (mask (noN X.N) ms X.N).length:=by rw[zBA] at c7 ⊢;rw[<- I.len];exact c7
  rw[getElem?_append_left e2] at q1;rcases zBZ q1 with ⟨_,z⟩ | ⟨q1,_⟩
  .exact absurd z ni
  refine⟨?_,i,q1,q2⟩;have no:ownB scope x=false:=by
   cases b:ownB scope x with
   | false=>rfl
   | true=>exact absurd (hm i x q1 b) ni
  unfold Vis relS at q3;rw[zDf] at q3;unfold ownB at no;cases w:scope.names.lookup x with
  | none=>rw[w] at q3;simp at q3
  | some k =>
   rw[w] at no;cases k with
   | free=>rfl
   | «local»=>cases no
   | cell=>cases no
   | _=>rw[w] at q3;simp at q3) d0
 have b7:tn 0 (pushCells (s3.heap.push { cls:=.type "dict",data:=.dict #[] }) scope.names):=T.keep 0 _ _ a6 λb a o q=>zAy _ _ b o (get?_push_of_some _ (l b o q))
 have W:codeAny (model X.prog X.w) X.A (.compLoop (.ListComp elt [⟨tg,iter,ifs,0⟩] scope pos) 0 (.ref it) (.ref D) (zBn scope X s3)) (RR (.ref D) s3.heap.objs.size) { s3 with heap:=pushCells (s3.heap.push { cls:=.type "dict",data:=.dict #[] }) scope.names }:=by
  refine zGr (λn s'=>∃ (i:Nat) (B':St) (H':Hp) (vs:List V) (f:List Value),Inv (zAW X (mask (noN X.N) ms X.N++xs) scope s3 H2 (D::fp)) [] B' H' s'/\tn i s'.heap/\(∀ b∈D::fp,H' b=none)/\s'.heap.PlainList D f.toArray/\Vals vs f/\L J H2 n i B' H' vs) ?_ n0
   ⟨0,_,H2,[],[],Ic,b7,λb a=>(c8 b a).1.1,⟨_,zAy _ _ D _ (get?_push_of_some _ oD)⟩,.nil,l0⟩
  rintro n s' ⟨i,B',H',vs,f,y,c1,a9,⟨nD,pl⟩,rv,ll⟩;have a1:f.length<=10000:=by rw[<- rv.length];exact len ll
  have a2:∀ {b:Addr} {pn:List (Addr×Obj)} {Hx:Hp},b∈D::fp->Hx b=none->(∀ p∈pn,p.1≠b)->FpOk (zAW X (mask (noN X.N) ms X.N++xs) scope s3 H2 (D::fp)) pn Hx b:=λ{b pn Hx} a hn t =>
   ⟨hn,(y.ok.exf b a).1,y.ok.exfs b a,.inl a,(y.ok.exf b a).2,λp e8=>t p (show p∈pn from e8)⟩
  have c6:∀ {p:Addr×Obj} {h:Heap},p∈zCP [D] h->p.1=D:=λ{p h} t=>by simpa using (zGY t).1
  have I0:Inv (zAW X (mask (noN X.N) ms X.N++xs) scope s3 H2 (D::fp)) ([]++zCP [D] s'.heap) B' H' s':=y.pinned (fp:=[D]) (λb a=>by
   have eb:b=D:=by simpa using a
   subst eb;exact a2 q9 (a9 _ q9) λp t=>absurd t (by simp)) λb a=>by
   have eb:b=D:=by simpa using a
   subst eb;exact⟨_,pl,λv z=>by cases z⟩
  have b6:∀ b∈fp,FpOk (zAW X (mask (noN X.N) ms X.N++xs) scope s3 H2 (D::fp)) ([]++zCP [D] s'.heap) H' b:=λb a=>a2 (qJ _ a) (a9 b (qJ _ a)) λp t z=>by
   have q1:=c6 (by simpa using t);have q2:=S b a;rw[<- z,q1] at q2;exact absurd q2 (lt_irrefl _)
  have U:(D,_)∈zCP [D] s'.heap:=zCp (by simp) pl;rcases step s3 (D::fp) ll with ⟨e6,ze⟩ | ⟨n',hn',go,yl⟩
  case inr =>
   refine wpAny_mono (T.item (zAW X (mask (noN X.N) ms X.N++xs) scope s3 H2 (D::fp)) rfl rfl rfl G i ([]++zCP [D] s'.heap) s' B' H' _ I0 b6 c1 go) (λr s4 b9=>?_) λ_ _ z=>z
   obtain⟨u,hr,h4⟩:=b9;subst hr;refine wpAny_mono h4 (λ_ s5 c4=>?_) λ_ _ z=>z
   obtain⟨x,H5,I5,r5,y5,R,j5⟩:=c4;obtain⟨rfl,hv⟩:=yl x H5 y5;have O:=(I5.pin (D,_) (xy _ (xy _ U))).1;have e1:Inv (zAW X (mask (noN X.N) ms X.N++xs) scope s3 H2 (D::fp)) ([]++zCP (D::fp) s5.heap) B' H5 s5:=I5.unpinned.pinned (fp:=D::fp) (λb a=>a2 a (a9 b a) λp t=>absurd t (by simp)) λb a=>by
    rcases mem_cons.mp a with rfl | a
    .exact ⟨_,O,λv z=>by cases z⟩
    .exact T.obj _ _ R b a
   have e:∀ {Hx:Hp} {sx:Shared} {Bx:St},Inv (zAW X (mask (noN X.N) ms X.N++xs) scope s3 H2 (D::fp)) ([]++zCP (D::fp) s5.heap) Bx Hx sx->∀ b∈D::fp,(∀ o,s5.heap.get? b=some o->sx.heap.get? b=some o)/\Hx b=none:=λ{Hx sx Bx} Ix b a=>by
    have q:∃ o,s5.heap.get? b=some o:=by
     rcases mem_cons.mp a with rfl | a
     .exact ⟨_,O⟩
     .obtain ⟨o,q,_⟩:=T.obj _ _ R b a;exact⟨o,q⟩
    obtain⟨o,q⟩:=q;have w:=Ix.pin (b,o) (xy _ (xy _ (zCp a q)));exact⟨λo' q'=>by rw[q] at q';cases q';exact w.1,w.2.1⟩
   refine wpAny_mono (hv _ rfl _ s5 u _ e1 r5) (λ_ s6 h6=>wpAny_mono h6 (λok s7 h7=>?_) λ_ _ z=>z) λ_ _ z=>z
   cases ok with
   | false =>
    rw[if_neg qY] at h7 ⊢;obtain⟨B6,H7,I7,l7⟩:=h7;exact⟨n',hn',i+1,B6,H7,vs,f,I7.unpinned,T.keep _ _ _ R λb a o q=>(e I7 b (qJ _ a)).1 o q,λb a=>(e I7 b a).2,⟨nD,(e I7 D q9).1 _ O⟩,rv,l7⟩
   | true =>
    rw[if_pos rfl] at h7 ⊢;refine wpAny_mono h7 (λuv s8 b8=>?_) λ_ _ z=>z
    obtain⟨v,B6,H8,I8,d4,l8⟩:=b8;have e7:=(e I8 D q9).1 _ O;refine wpAny_list_append_plain (hsz:=by rw[xj];exact zDr a1) ⟨nD,e7⟩ λh9 d6 c0=>?_
    have I9:Inv (zAW X (mask (noN X.N) ms X.N++xs) scope s3 H2 (D::fp)) [] B6 H8 { s8 with heap:=h9 }:=I8.unpinned.turned (it:=D) (t':=s8.toks) (λb o a q=>c0.extBut b o a q) (e I8 D q9).2 (y.ok.exf D q9).1 (.inl q9) (y.ok.exf D q9).2 λp t=>absurd (show p∈([]:List (Addr×Obj)) from t) (by simp)
    refine⟨n',hn',i+1,B6,H8,vs++[v],f++[uv],I9,T.keep _ _ _ R λb a o q=>c0.extBut b o (λz=>?_) ((e I8 b (qJ _ a)).1 o q),λb a=>(e I8 b a).2,?_,rv.append (.cons d4 .nil),l8⟩
    .have:=S b a;rw[z] at this;exact absurd this (lt_irrefl _)
    .have ea:f.toArray.push uv=(f++[uv]).toArray:=by simp
     rw[<- ea];exact d6
  case inl =>
   refine wpAny_mono (T.done (zAW X (mask (noN X.N) ms X.N++xs) scope s3 H2 (D::fp)) rfl rfl rfl G _ ([]++zCP [D] s'.heap) s' B' H' _ I0 b6 c1 e6) (λr s4 c5=>?_) λ_ _ z=>z
   obtain⟨hr,F⟩:=c5;subst hr;obtain⟨m,ns,_⟩:=id F.loc;have eC:(zAW X (mask (noN X.N) ms X.N++xs) scope s3 H2 (D::fp)).env.locals=D+1:=hC;rw[eC] at ns;have c2:=F.pin (D,_) (xy _ (xy _ U));have HD:H' D=none:=c2.2.1;have HC:H' (D+1)=none:=by have:=F.free;rw[eC] at this;exact this
   have CD:D≠D+1:=ne_of_lt (Nat.lt_succ_self D);have b2:∀ {b:Addr} {o:HO},H' b=some o->b≠D:=λ{b o} q z=>by rw[z,HD] at q;cases q
   have b1:∀ {b:Addr} {o:HO},H2 b=some o->b≠D:=λ{b o} q z=>by rw[z,a4] at q;cases q
   have b0:∀ {b:Addr} {o:Obj},Q.heap.get? b=some o->b < D:=λ{b o} q=>by rw[hD];exact lt_size q
   have g:∀ {b:Addr} {o:Obj},Q.heap.get? b=some o->b∉fp->b∉D::fp:=λ{b o} q P z=>(mem_cons.mp z).elim (λz=>absurd (b0 q) (by rw[z];exact lt_irrefl _)) P
   have a8:∀ {b:Addr} {o:Obj},Q.heap.get? b=some o->b≠D+1:=λ{b o} q=>ne_of_lt (Nat.lt_succ_of_lt (b0 q))
   have a7:Q.heap.objs.size<=D+1:=by rw[<- hD];exact Nat.le_succ _
   show RR (.ref D) s3.heap.objs.size (.ok .next) s4;rw[hC];refine e4 D (D+1) s4 (upd H' D (.lst vs)) m ns (λh' sb=>?_) ?_ (Nat.ne_of_gt (xX M.lt a7)) (M.nofs a7) (le_trans M.sz a7) (λx c q z=>?_) (λp t z=>?_) ⟨H2,H',vs,ze,a4,HD,rfl⟩
   .refine M.call' (s':={ s4 with heap:=h' }) (ch:=fp) ?_ ⟨λb o q n a P=>sb.extBut b o (a8 q) (F.base.keep b o (l b o q) n a (g q P)),λb o q n a P=>?_,λb o q n P=>?_,λb o q P=>?_,λb ws q=>?_,λb o w q=>?_,λb ps q=>?_⟩ (λb w q=>?_) F.bare λb a=>?_
    .have:=F.os;rw[A] at this;exact this
    .obtain ⟨sl,w⟩:=F.base.slot b o (l b o q) n a (g q P);exact⟨sl,sb.extBut b _ (a8 q) w⟩
    .rw [zAS (ne_of_lt (b0 q))];exact F.base.free b o (l b o q) n (g q P)
    .obtain ⟨o',w⟩:=F.base.there b o (l b o q) (g q P);exact⟨o',sb.extBut b _ (a8 q) w⟩
    .rw [zAS (b1 q)];exact F.base.tups b ws q
    .rw [zAS (b1 q)];exact F.base.frzs b o w q
    .rw [zAS (b1 q)];exact F.base.tbls b ps q
    .by_cases z:b=D
     .subst z;rw[zAd] at q;cases q;exact⟨by rw[rv.length];exact zDr a1,f,nD,rv,sb.extBut b _ CD c2.1⟩
     .rw [zAS z] at q;refine(F.hok b w q).stay (λd v hd K=>sb.extBut d v (λz'=>?_) K) (λd K=>by rw[zAS (b2 K)];exact K) (λd ws K=>by rw[zAS (b2 K)];exact K) λd ob u K _=>by rw[zAS (b2 K)];exact K
      rcases hd with hd | hd
      .rw [<- hd,z',HC] at q;cases q
      .rw [z',HC] at hd;cases hd
    .obtain ⟨f0,f1,j7,f3,f4,f5⟩:=f2 b a;exact⟨f3,f1,f4,f5⟩
   .rw [zAS (Ne.symm CD)];exact HC
   .obtain ⟨v,w⟩:=M.cell x c q;have:=w.lt;rw[z,<- hD] at this;exact absurd (Nat.lt_trans this (Nat.lt_succ_self D)) (lt_irrefl _)
   .have:=lt_size (M.pin p t).1;rw[z,<- hD] at this;exact absurd (Nat.lt_trans this (Nat.lt_succ_self D)) (lt_irrefl _)
 exact codeAny_compStart_list W (T.self X.A 0 _ _ _ b7 W)
theorem zGo (hcalm:X.calm=true)(hi:GI X tg iter f)(cs:zCT X.env.scope scope)
  (hm:∀ (i:Nat) x,X.N[i]?=some x->ownB scope x=true->i∈ms)
  (hg:∀ s H fp,GG (zAW X (mask (noN X.N) ms X.N++xs) scope s H fp) tg t)
  (hc:∀ s H fp,GCs (zAW X (mask (noN X.N) ms X.N++xs) scope s H fp) ifs c) (he:∀ s H fp,GE (zAW X (mask (noN X.N) ms X.N++xs) scope s H fp) elt e)
         (I:Inv X pins B H s) (ds:DS X.K H S B O) (ez:f O=some zs) (hz:zs.length<=10000) (ey:zCF t c e zs (mask none ms O++List.replicate xs.length none)=some ys)
  {RR:Value->Addr->Result->Shared->Prop}
  (fin:∀ (D C:Addr) (s1:Shared) (H'':Hp) (m:Str->Option Value),s1.heap.Ns C m->(∀ h',Heap.SameBut C s1.heap h'->Inv X pins B H'' { s1 with heap:=h' })->H'' C=none->C≠X.env.locals->C∉X.fs->X.O6.heap.objs.size<=C ->
   (∀ x c,X.env.cells.lookup x=some c->c≠C)->(∀ p∈X.pn++pins,p.1≠C)->Same H H''->RV X.K H H'' S (.lst ys,.fr) (.ref D)->RR (.ref D) C (.ok .next) s1) :
  wpAny (model X.prog X.w) X.A (eval iter X.env) (λx O2=>wpAny (model X.prog X.w) X.A (pyIter x) (λit Y1=>wpAny (model X.prog X.w) X.A (newList []) (λacc Y3 =>
   wpAny (model X.prog X.w) X.A (newFunctionEnv scope X.env.globals (zBv X.env scope.names []) [] X.env.qual none .none (some X.env)) (λcenv Y4 =>
    codeAny (model X.prog X.w) X.A (.compStart (.ListComp elt [⟨tg,iter,ifs,0⟩] scope pos) 0 it acc { cenv with scope:=relabel scope X.env }) (RR acc cenv.locals) Y4) X.xe Y3) X.xe Y1) X.xe O2) X.xe s:=by
 obtain⟨wi,hwi,hI⟩:=hi;refine zIU hcalm hwi cs hm I (L:=λJ H2 n i B' H' vs=>(Same H H2/\∀ (i:Nat) H3,i<=zs.length->Same (hide H2 S) H3->(i=zs.length->J.stop i H3)/\(i < zs.length->J.go i H3/\∀ v H4,J.yld i H3 v H4->H4=H3/\∀ x,zs[i]?=some x->Den X.K (hide H2 S) x v)) /\
   ∃ (O1:Dst) (done more:List DL.D),DS X.K H' S B' O1/\Same H2 H'/\DenL X.K (hide H' S) done vs/\zCF t c e (zs.drop i) O1=some more/\done++more=ys/\i<=zs.length/\done.length<=i/\n=zs.length - i) (Z:=λH2 H' vs=>Same H H2/\Same H2 H'/\DenL X.K (hide H' S) ys vs)
  (hI B H S O zs _ ds ez λJ H1 s1 hJ=>⟨_,⟨s1,hJ⟩,_,[],ys,(ds.mono s1).ext ms xs.length,Same.refl _,.nil,by rw[List.drop_zero];exact ey,rfl,zero_le _,le_refl _,rfl⟩) (λ{J H2 n i B' H' vs} ll=>?_) (λ{J H2 n i B' H' vs} s3 fp ll=>?_) λD C s1 H'' m h1 h2 h3 h4 h5 h6 h7 h8 ll=>?_
 .obtain ⟨_,O1,done,more,_,_,dn,_,_,hi',hl',_⟩:=ll;rw[<- dn.length];exact le_trans hl' (le_trans hi' hz)
 .obtain ⟨⟨s12,hJ⟩,O1,done,more,ds',sm,dn,ec,ed,hi',hl',rfl⟩:=ll;obtain⟨j1,j2⟩:=hJ i H' hi' (zAf.trans sm);by_cases hlt:i < zs.length
  case neg =>
   rw[drop_eq_nil_of_le (by omega)] at ec;cases ec;rw[append_nil] at ed;exact .inl ⟨j1 (by omega),s12,sm,ed▸dn⟩
  obtain⟨go,yl⟩:=j2 hlt;refine .inr ⟨zs.length - (i+1),by omega,go,λx H5 y5=>?_⟩;obtain⟨rfl,hv⟩:=yl x H5 y5;refine⟨rfl,λY eY pn s5 u E I5 r5=>?_⟩;subst eY;rw[List.drop_eq_getElem_cons hlt] at ec;obtain⟨O5,e1,ec⟩:=bind_some ec;obtain⟨b,eb,ec⟩:=bind_some ec;obtain⟨g,hg1,hg2⟩:=hg s3 H2 fp;have dx:Den X.K (hide H5 S) zs[i] x:=(hv _ (by simp[hlt])).mono (zAR sm);refine wpAny_mono (hg1 pn s5 B' H5 x u _ I5 r5 (hg2 X.K rfl zs[i] x B' H5 S O1 O5 (λB6 H6=>H6=H5/\DS X.K H5 S B6 O5) ds' dx e1 λB6 d6=>⟨rfl,d6⟩)) (λ_ s6 zz67=>?_) λ_ _ z=>z.elim
  obtain⟨B6,H6,I6,q6,ds6⟩:=zz67;subst q6;refine wpAny_mono (hc s3 H2 fp pn s6 B6 H6 (λb' H7=>b'=b/\Same H6 H7) I6 ⟨S,O5,b,ds6,eb,λH7 s7=>⟨rfl,s7⟩⟩) (λok s7 zz68=>?_) λ_ _ z=>z.elim
  obtain⟨H7,I7,q7,s67⟩:=zz68;subst q7;cases ok with
  | false =>
   rw[if_neg qY] at ec ⊢;exact⟨B6,H7,I7,⟨s12,hJ⟩,O5,done,more,ds6.mono s67,sm.trans s67,dn.mono (zAR s67),ec,ed,hlt,Nat.le_succ_of_le hl',rfl⟩
  | true =>
   rw[if_pos rfl] at ec ⊢;obtain⟨r,er,ec⟩:=bind_some ec;by_cases hr:r.2=.dt
   .rw [if_pos hr] at ec;cases ec
   rw[if_neg hr] at ec;obtain⟨more',em,ec⟩:=bind_some ec;cases ec;refine wpAny_mono (he s3 H2 fp pn s7 B6 H7 (λv H8=>Same H7 H8/\RV X.K H7 H8 S r v) I7 ⟨S,O5,r,ds6.mono s67,er,λv H8 s8 r8=>⟨s8,r8⟩⟩) (λuv s8 zz69=>?_) λ_ _ z=>z.elim
   obtain⟨v,H8,I8,rv8,s78,r8⟩:=zz69;exact⟨v,B6,H8,I8,rv8,⟨s12,hJ⟩,O5,done++[r.1],more',ds6.mono (s67.trans s78),sm.trans (s67.trans s78),(dn.mono (zAR (s67.trans s78))).append (.cons (RV.den (d:=r.1) (k:=r.2) r8 hr) .nil),em,by rw[q8];exact ed,hlt,by rw[qQ,length_singleton];omega,rfl⟩
 .obtain ⟨H2,H',vs,⟨s12,sm,dn⟩,H2D,HD,rfl⟩:=ll;have neD:∀ {b:Addr} {o:HO},H' b=some o->b≠D:=λ{b o} q z=>by rw[z,HD] at q;cases q
  refine fin D C s1 _ m h1 h2 h3 h4 h5 h6 h7 h8 (λb o q=>?_) ⟨D,vs,ys,rfl,rfl,λz=>?_,s12.free H2D,zAd,dn.mono λb o q=>?_⟩
  .have w:=sm b o (s12 b o q);rw[zAS (neD w)];exact w
  .obtain ⟨ws,w,_⟩:=(ds.mono s12).sok D z;rw[H2D] at w;cases w
  .obtain ⟨q1,q2⟩:=zA3 q;rw[zAQ λz=>(mem_cons.mp z).elim (neD q2) q1,zAS (neD q2)];exact q2
def zCv (cs:zCT sc scope):∀ x∈scope.names,x.2=.local->scope.names.lookup x.1=some .local:=λx a e=>by
 have:=zCq cs.nd a
 simp_all
def zKz (a:X.calm=true)(k:GI X tg iter f)(u:∀ x,foldedSetIterable iter X.env x=pure x)(cs:zCT X.env.scope scope)
  (F:∀ (i:Nat) x,X.N[i]?=some x->ownB scope x=true->i∈ms)
  (E:∀ s H fp,GG (zAW X (mask (noN X.N) ms X.N++xs) scope s H fp) tg t)
  (j:∀ s H fp,GCs (zAW X (mask (noN X.N) ms X.N++xs) scope s H fp) ifs c) (y:∀ s H fp,GE (zAW X (mask (noN X.N) ms X.N++xs) scope s H fp) elt e) :
  GE X (.ListComp elt [⟨tg,iter,ifs,0⟩] scope pos) (zF5 ms xs.length f t c e):=by
 intro g s B H Q I ⟨S,O,z,v,b,r⟩;obtain⟨w,p,b⟩:=bind_some b;by_cases hz:w.length<=10000
 .rw [if_pos hz] at b;obtain⟨K,n,b⟩:=bind_some b;cases b;refine wpAny_comprehension_free (use:=none) rfl u (zBa (zEi I cs)) cs.kind (zCv cs) ?_;refine zGo a k cs F E j y I v p hz n λD C J d m q A _ _ _ _ _ _ o h=>?_
  exact⟨m,q,λh' l=>⟨.ref D,d,A h' l,rfl,r _ d o h⟩⟩
 .simp_all
def zP9 (d:X.calm=true)(hi:GI X tg iter f)(hs:∀ x,foldedSetIterable iter X.env x=pure x)(cs:zCT X.env.scope scope)
  (P:∀ (i:Nat) x,X.N[i]?=some x->ownB scope x=true->i∈ms)
  (U:∀ s H fp,GG (zAW X (mask (noN X.N) ms X.N++xs) scope s H fp) tg t)
  (R:∀ s H fp,GCs (zAW X (mask (noN X.N) ms X.N++xs) scope s H fp) ifs c) (T:∀ s H fp,GE (zAW X (mask (noN X.N) ms X.N++xs) scope s H fp) elt e)
  (N:X.N.Nodup) (hy:X.N[i]?=some y) (V:Loc X.env.scope y) (W:X.fn y=true\/X.env.scope.names.lookup y=some .local) :
  GS X (.Assign [.Name y py] (.ListComp elt [⟨tg,iter,ifs,0⟩] scope pos) spos) (setD i (zF5 ms xs.length f t c e)):=by
 have J:GE X (.ListComp elt [⟨tg,iter,ifs,0⟩] scope pos) (zF5 ms xs.length f t c e):=zKz d hi hs cs P U R T;have j:∃ b,swapsWith (.ListComp elt [⟨tg,iter,ifs,0⟩] scope pos) (some (.Name y py)) spos.line X.env=pure b:=⟨_,rfl⟩;obtain⟨b,j⟩:=j;cases b with
 | false=>exact zOM N hy V J j W
 | true =>
  intro H0 a s B H E I ⟨S,O,o,ds,h0,G,p⟩;obtain⟨r,er,G⟩:=bind_some G;obtain⟨zs,e1,h⟩:=bind_some er;by_cases hz:zs.length<=10000
  .rw [if_pos hz] at h;obtain⟨ys,e2,h⟩:=bind_some h;cases h;rw[exec_Assign_Name_used _ _ _ _ j];refine qX (wpAny_standAt (qX ?_));show wpAny _ X.A (do let _<-comprehension (.ListComp elt [⟨tg,iter,ifs,0⟩] scope pos) scope X.env _ (newList []) false (eval iter X.env) (some (assign (.Name y py) X.env))) _ _ s;refine qX (wpAny_mono (wpAny_comprehension_free (use:=some (assign (.Name y py) X.env)) (Q:=λ_ w=>SP X a E .next w) rfl hs (zBa (zEi I cs)) cs.kind (zCv cs) ?_) (λ_ w hq=>xq (xq hq)) λ_ _ e=>e);refine zGo (RR:=λacc C=>compPost (model X.prog X.w) X.A X.xe (some (assign (.Name y py) X.env)) (λ_ w=>SP X a E .next w) acc C) d hi cs P U R T I ds e1 hz e2 λD C l g m ns hI n k L F K M sm rv=>?_
   have Z:Inv X a B g l:=hI l.heap (Heap.SameBut.refl ..);obtain⟨v,es,ep,ho,hd,w3⟩:=id ns;have I2:Inv X (a++[(C,v)]) B g l:=Z.pins_of λq hq=>(mem_append.mp hq).elim (λz=>Z.pin q (xy _ z)) λz=>by
    have e:q=(C,v):=by simpa using z
    subst e;exact⟨ho,n,k,L,λv z=>by rw[hd] at z;cases z⟩
   show wpAny (model X.prog X.w) X.A (assign (.Name y py) X.env (.ref D)) _ X.xe l;refine thn (zFh N hy V W _ l B g (.ref D) (.ref D) (λB6 A=>A=g/\B6=B.set i (some (.ref D))) I2 rfl ⟨rfl,rfl⟩) λ_ s6 u=>?_
   obtain⟨B6,A,Y,q1,q2⟩:=u;subst q1 q2;have pc:=Y.pin (C,v) (xy _ (xy _ (by simp)));refine⟨m,⟨v,es,ep,pc.1,hd,w3⟩,λh' sb=>?_⟩;refine⟨_,A,Y.unpinned.turned (it:=C) (t':=s6.toks) (λb o j q=>sb.extBut b o j q) n (Ne.symm (Ne.symm k)) (.inr F) K M,?_⟩;exact zEz ds h0 sm rv G p
  .rw [if_neg hz] at h;cases h
end
section
variable {X:Cx}{tg:Expr}
def iAny (K:W.Frag)(tl:TE):TI:=λB H R=>tl B H λx H1=>∃ a,x=.ref a/\(((∃ xs,SqL K H1 a xs)/\R (Itl K a) H1)\/((∃ xs,SqT K H1 a xs)/\R (Itt K a) H1))
def zN7 (t:PE X l tl):PI X tg l (iAny X.K tl):=by
 intro f s B H R I h;refine thn (t f s B H _ I h) λv c i=>?_
 obtain⟨x,k,d,r1,r⟩:=i;obtain⟨a,e,q⟩:=r;subst e;cases r1;rcases q with ⟨⟨n,hq⟩,q⟩ | ⟨⟨n,hq⟩,q⟩
 .obtain ⟨g,m,p,u⟩:=d.list hq;refine wpAny_pyIter_list p.isList ?_;refine⟨c.heap.objs.size,[c.heap.objs.size],_,_,k,rfl,d.kept (t':=c.toks) λb o e=>get?_push_of_some _ e,zJR a _,⟨_,get?_push_size _ rfl,rfl,rfl⟩,λb j=>?_,q⟩;have e:b=c.heap.objs.size:=by simpa using j
  subst e;exact d.fpOk (le_refl _) (d.hok.fresh (le_refl _))
 .obtain ⟨g,m,p,u⟩:=d.tuple hq;refine wpAny_pyIter_tuple (show c.heap.IsTuple a g.toArray from p) ?_;refine⟨c.heap.objs.size,[c.heap.objs.size],_,_,k,rfl,d.kept (t':=c.toks) λb o e=>get?_push_of_some _ e,zIi a _,⟨_,get?_push_size _ rfl,rfl,rfl⟩,λb j=>?_,q⟩;have e:b=c.heap.objs.size:=by simpa using j
  subst e;exact d.fpOk (le_refl _) (d.hok.fresh (le_refl _))
noncomputable def zDP (f:Dst->Option R):Dst->Option (List D):=λO=>match f O with
 | some (.lst ds,.cl)=>some ds
 | some (.lst ds,.fr)=>some ds
 | some (.tup ds,.cl)=>some ds
 | _=>none
def zSv (h:GE X iter f):GI X tg iter (zDP f):=by
 refine⟨_,zN7 h,λB H S O t C A e q=>?_⟩;have m:∀ {k:Kd},k≠.dt->f O=some (.lst t,k)->iAny X.K (gT X.K f) B H C:=λ{k} F J=>by
  refine⟨S,O,_,A,J,λv p r r1=>?_⟩;have n:=RV.den (d:=.lst t) (k:=k) r1 F;rw[Den] at n;obtain⟨a,b,rfl,o,l⟩:=n;refine⟨a,rfl,.inl ⟨⟨b,zAf.seq o⟩,q _ p r λi I E w=>?_⟩⟩;have j:=w.seq o;refine⟨λei=>⟨b,j,by rw[<- l.length,ei];exact le_refl _⟩,λhl=>?_⟩;have g:i < b.length:=by rw[<- l.length];exact hl
  refine⟨⟨b,b[i],j,by simp[g]⟩,λv K y=>⟨y.1,λx s=>?_⟩⟩;have x:=y.2 b j;obtain⟨u,c,z⟩:=l.get s
  simp_all
 unfold zDP at e;split at e
 .rename_i c;cases e;exact m (by decide) c
 .rename_i c;cases e;exact m (by decide) c
 .rename_i c;cases e;refine⟨S,O,_,A,c,λv p r r1=>?_⟩;have n:Den X.K (hide p S) (.tup t) v:=r1;rw[Den] at n;obtain⟨a,b,rfl,o,l⟩:=n;refine⟨a,rfl,.inr ⟨⟨b,Same.tupS zAf o⟩,q _ p r λi I E w=>?_⟩⟩;have j:=Same.tupS w o;refine⟨λei=>⟨b,j,by rw[<- l.length,ei];exact le_refl _⟩,λhl=>?_⟩;have g:i < b.length:=by rw[<- l.length];exact hl
  refine⟨⟨b,b[i],j,by simp[g]⟩,λv K y=>⟨y.1,λx s=>?_⟩⟩;have x:=y.2 b j;obtain⟨u,c,z⟩:=l.get s;rw[x] at c;cases c;exact z
 .cases e
noncomputable def Itr3 (lo c:Int)(n:Nat):It:=⟨λi _=>i < n,λi H x H'=>H'=H/\x=.int (lo+i*c),λi _=>n<=i⟩
def zG7 {P:Program}{w:World}{K:W.Frag}{M:Expr}(it:Addr)(j c:Int)(n:Nat):Turn P w K M (Itr3 j c n) [it] it (λi h=>IsRangeIter h it (j+(i:Nat)*c) ((n:Int) - (i:Nat)) c) where
 mem:=by simp
 obj:=λi h a b f=>by
  simp_all
 keep:=λi h u a k=>k it (by simp) _ a
 item:=by
  intro X A r m y i d s B H E I l a q;subst A r m;obtain⟨v,C,L,z,p,x⟩:=l it (by simp);have W:=Walks.range (prog:=X.prog) (w:=X.w) (I.ok.hd y) it j c n;refine W.item i s _ _ q a λv u D F g G=>?_
  obtain⟨t,rfl⟩:=F;have J:Inv X d B H { s with heap:=u,toks:=D }:=I.turned (λb o f e=>G b o (by simpa using f) e) v C z p x;exact⟨_,rfl,zM4 (s:={ s with heap:=u,toks:=D }) (n := "range_iterator") g rfl rfl (by decide) ⟨.int (j+i*c),H,J,⟨t,rfl⟩,⟨rfl,rfl⟩,g,λb f=>(l b f).1⟩⟩
 done:=by
  intro X A r m y i d s B H E I l a q;subst A r m;obtain⟨v,C,L,z,p,x⟩:=l it (by simp);exact wpAny_pyNext_range_end (I.ok.hd y) a (by have:n<=i:=q;omega) λh' N=>⟨rfl,I.turned (t':=s.toks) (λb o f e=>N b o f e) v C z p x⟩
 self:=λ_ _ _ _ _ a h=>wpAny_pyIter_rangeiter a h
def zHA (a b c:Int)(d:c≠0):0<=Builtin.Range.rangeSize a b c:=by
 unfold Builtin.Range.rangeSize;split
 .split
  .have:=Int.ediv_nonneg (a:=b - a - 1) (b:=c) (by omega) (by omega);omega
  .simp
 .split
  .have:=Int.ediv_nonneg (a:=a - b - 1) (b:=-c) (by omega) (by omega);omega
  .simp
def ROk (a b c:Int):Prop:=c≠0/\c.natAbs < 1073741824/\Builtin.Range.small a b c=true
noncomputable instance (a b c:Int):Decidable (ROk a b c):=by unfold ROk;exact inferInstance
theorem zJt {R:It->Hp->Prop}{lo:Int}(I:Inv X pins B H s)(ok:ROk lo hi c)
  (q:R (Itr3 lo c (Builtin.Range.rangeSize lo hi c).toNat) H):wpAny (model X.prog X.w) X.A (pyIter (.ref s.heap.objs.size)) (PIE X pins B tg R) E { s with heap:=s.heap.push { cls:=.type "range",data:=.fields #[.int lo t,.int hi u,.int c v] },toks:=tk }:=by
 refine wpAny_pyIter_range (IsRange.new ..) ok.2.2 ?_;have I1:Inv X pins B H { s with heap:=s.heap.push { cls:=.type "range",data:=.fields #[.int lo t,.int hi u,.int c v] },toks:=tk }:=I.kept λb o e=>get?_push_of_some _ e
 refine⟨(s.heap.push { cls:=.type "range",data:=.fields #[.int lo t,.int hi u,.int c v] }).objs.size,[(s.heap.push { cls:=.type "range",data:=.fields #[.int lo t,.int hi u,.int c v] }).objs.size],_,_,H,rfl,
  I1.kept λb o e=>get?_push_of_some _ e,zG7 _ lo c (Builtin.Range.rangeSize lo hi c).toNat,?_,λb hb=>?_,q⟩
 .have e1:lo+((0:Nat):Int)*c=lo:=by simp
  have e2:(((Builtin.Range.rangeSize lo hi c).toNat:Nat):Int) - ((0:Nat):Int)=Builtin.Range.rangeSize lo hi c:=by have:=zHA lo hi c ok.1;omega
  rw[e1,e2];exact get?_push_size _ rfl
 .have e:b=(s.heap.push { cls:=.type "range",data:=.fields #[.int lo t,.int hi u,.int c v] }).objs.size:=by simpa using hb
  subst e;exact I1.fpOk (le_refl _) (I1.hok.fresh (le_refl _))
def zUg (ta:TA):TI:=λB H R=>ta B H λvs H1=>∃ i j c:Int,vs=[.int i,.int j,.int c]/\ROk i j c/\R (Itr3 i c (Builtin.Range.rangeSize i j c).toNat) H1
def zJy (v:Gl X "range")(n:X.mg "range"=none)(u:PA X [a,b,c] ta)(z:starEach [a,b,c] X.env=[(false,eval a X.env),(false,eval b X.env),(false,eval c X.env)])(f:starEach [b,c] X.env=[(false,eval b X.env),(false,eval c X.env)]) :
  PI X tg (.Call (.Name "range" p) [a,b,c] [] pos) (zUg ta):=by
 intro g s B H R I h;refine Call_ (zCy I v n boot_range (PyProof.Rows.callWith_type1 (thn (u pos g s B H _ I h) λus C d=>?_) (by rw[z,f]) (by rw[f];rfl)));obtain⟨A,D,y,r1,o⟩:=d;obtain⟨i,j,k,e,ok,q⟩:=o;subst e;cases r1 with
 | cons r l =>
  cases l with
  | cons x l =>
   cases l with
   | cons m l =>
    cases l;obtain⟨t,rfl⟩:=r;obtain⟨E,rfl⟩:=x;obtain⟨w,rfl⟩:=m;exact call_range_3 ok.1 (zJt y ok q) (.inl (PyProof.noPylong_small ok.2.1))
noncomputable def rngS (lo c:Int)(n:Nat):List D:=(List.range n).map λ(k:Nat)=>D.int (lo+k*c)
theorem zIq {K:W.Frag}{lo:Int}(i:Nat)(H2:Hp)(hi:i<=(rngS lo c n).length):(i=(rngS lo c n).length->(Itr3 lo c n).stop i H2)/\(i < (rngS lo c n).length->(Itr3 lo c n).go i H2/\∀ v H3,(Itr3 lo c n).yld i H2 v H3->H3=H2/\∀ x,(rngS lo c n)[i]?=some x->Den K (hide H1 S) x v):=by
 have hl:(rngS lo c n).length=n:=by unfold rngS;simp
 refine⟨λe=>by rw[hl] at e;exact Nat.le_of_eq e.symm,λh=>⟨by rw[hl] at h;exact h,λv H3 y=>⟨y.1,λx ex=>?_⟩⟩⟩;rw[hl] at h;have:(rngS lo c n)[i]?=some (D.int (lo+i*c)):=by unfold rngS;simp[h]
 rw[this] at ex;cases ex;exact y.2
noncomputable def zFb (f g h:Dst->Option R):Dst->Option (List D):=λO=>match f O,g O,h O with
 | some (.int i,_),some (.int j,_),some (.int c,_)=>if ROk i j c then some (rngS i c (Builtin.Range.rangeSize i j c).toNat) else none
 | _,_,_=>none
def zKu (w:Gl X "range")(t:X.mg "range"=none)(x:GE X a f)(A:GE X b g)(u:GE X c h)(D:starEach [a,b,c] X.env=(false,eval a X.env)::starEach [b,c] X.env)(l:starEach [b,c] X.env=(false,eval b X.env)::starEach [c] X.env)(d:starEach [c] X.env=[(false,eval c X.env)]) :
  GI X tg (.Call (.Name "range" p) [a,b,c] [] pos) (zFb f g h):=by
 refine⟨_,zJy w t (zAX x (zAX A (zAX u zBE d) l) D) (by simp_all) (by rw[l,d]),λB H S O I G n e q=>?_⟩;unfold zFb at e;split at e
 .rename_i i k j K s J v z y;by_cases hj:ROk i j s
  .rw [if_pos hj] at e;cases e;exact⟨S,O,_,n,v,λv F m r1=>⟨S,O,_,n.mono m,z,λu o r r2=>⟨S,O,_,n.mono (m.trans r),y,λu3 B E r3=>⟨i,j,s,by rw[r1.rd.int,r2.rd.int,r3.rd.int],hj,q _ B (m.trans (r.trans E)) λi o C _=>zIq i o C⟩⟩⟩⟩
  .simp_all
 .cases e
end
end DL
end
section
namespace DL
open PySem
abbrev zCk (h:Heap) (z TI TO:Addr) (f0 f1:Value):Prop :=
 h.get? z=some { cls:=.type "zip",dict:=none,data:=.fields #[f0,f1,.bool false,.ref TI,.ref TO],slots:=#[] }
section
variable {prog:Program}{w:World}{A:Around}{E:Value->Shared->Prop}{s:Shared}
def zL6 (h:Q (s.heap.get? a) s):wpAny M A (loadIfAlive a) Q E s:=λJ p b=>by
 assumption
def zE3 {T:Addr}(hz:zCk s.heap z TI TO (rawInt T) (.bool f1))(c:s.heap.get? T=some oT)
  (b:∀ h' f1',zCk h' z TI TO (rawInt T) (.bool f1')->Heap.SameBut z s.heap h'->Q false { s with heap:=h' }) :
  wpAny (model prog w) A (Builtin.SmallTypes.ownedTupleIsFree (.ref z)) Q E s:=by
 refine qX (wpAny_field hz rfl (x:=rawInt T) rfl ?_);refine qX (zL6 ?_);rw[toNat_natCast,c];refine qX (wpAny_field hz rfl (x:=.bool f1) rfl ?_);cases f1 with
 | true =>
  have e:((Value.bool true) != .bool true)=false:=by simp
  rw[e];exact xq (b s.heap true hz (Heap.SameBut.refl ..))
 | false =>
  have e:((Value.bool false) != .bool true)=true:=by simp
  rw[e];simp only[if_true];refine qX (wpAny_setField_rec hz (by simp) λO9 a d=>?_);exact xq (b O9 true a d)
def zFT {T:Addr}{Q:Value->Shared->Prop}(D:ZipApart z TI TO i1 i2 l1 l2)
  (hz:zCk s.heap z TI TO (rawInt T) (.bool f1)) (n:s.heap.get? T=some oT) (i:IsPair s.heap TI (.ref i1) (.ref i2))
  (h1:s.heap.IsListIter i1 l1 k1) (h2:s.heap.IsListIter i2 l2 k2) (g:s.heap.IsList l1 xs) (h:s.heap.IsList l2 ys) (u:xs[k1]?=some x) (t:ys[k2]?=some y)
  (B:∀ h' f1',zCk h' z TI TO (rawInt T) (.bool f1')->h'.IsListIter i1 l1 (k1+1)->h'.IsListIter i2 l2 (k2+1)->IsPair h' s.heap.objs.size x y->h'.objs.size=s.heap.objs.size+1 ->
   (∀ c o,c≠z->c≠i1->c≠i2->s.heap.get? c=some o->h'.get? c=some o)->Q (.ref s.heap.objs.size) { s with heap:=h' }) :
  wpAny (model prog w) A (Builtin.«zip.__next__» ⟨[.ref z],[]⟩) (λfin s'=>∃ v,fin=.done (.ret v)/\Q v s') E s:=by
 show wpAny _ _ (field (.ref z) 2>>=_) _ _ _;refine qX (wpAny_field hz rfl (x:=.bool false) rfl ?_);show wpAny _ _ (field (.ref z) 3>>=_) _ _ _;refine qX (wpAny_field hz rfl (x:=.ref TI) rfl ?_);refine qX (wpAny_seqItems i rfl ?_);show wpAny _ _ (Builtin.SmallTypes.ownedTupleIsFree (.ref z)>>=_) _ _ _;refine qX (zE3 hz n λO9 f1' k b=>?_);simp only[Bool.false_eq_true,if_false];refine qX ?_;simp only[<- Array.forIn_toList,forIn_cons,List.forIn_nil];refine qX (qX (wpAny_holding ?_));show wpAny _ _ (Builtin.SmallTypes.nextOf (.ref i1)>>=_) _ _ _;refine qX (wpAny_nextOf_list_item (h1.extBut b.extBut D.i1z) (g.extBut b.extBut D.l1z) u λY9 r d=>xq ?_);refine xq ?_;refine qX (qX (wpAny_holding ?_));show wpAny _ _ (Builtin.SmallTypes.nextOf (.ref i2)>>=_) _ _ _;refine qX (wpAny_nextOf_list_item ((h2.extBut b.extBut D.i2z).extBut d.extBut D.i12.symm) ((h.extBut b.extBut D.l2z).extBut d.extBut D.l2i1) t λZ1 q f=>xq ?_);refine xq (xq ?_);refine qX (wpAny_newTuple ?_ (show 2<=sizeLine by decide));have a:Z1.objs.size=s.heap.objs.size:=by rw[f.1,d.1,b.1]
 have j:zCk Z1 z TI TO (rawInt T) (.bool f1'):=f.extBut _ _ D.i2z.symm (d.extBut _ _ D.i1z.symm k);refine xq ⟨_,rfl,?_⟩;show Q (.ref Z1.objs.size) _;rw[a];refine B _ f1' (get?_push_of_some _ j) ((r.extBut f.extBut D.i12).at λo e=>get?_push_of_some _ e) (q.at λo e=>get?_push_of_some _ e) ?_ (by rw[Heap.size_push,a]) λc o p C m e=>get?_push_of_some _ (f.extBut _ _ m (d.extBut _ _ C (b.extBut _ _ p e)))
 rw[<- a];exact get?_push_size _ rfl
def zFS {T:Addr}{k2:Nat}{ys:Array Value}(n:A.handled=none)(D:ZipApart z TI TO i1 i2 l1 l2)
  (hz:zCk s.heap z TI TO (rawInt T) (.bool f1)) (l:s.heap.get? T=some oT) (f:IsPair s.heap TI (.ref i1) (.ref i2))
  (h1:s.heap.IsListIter i1 l1 k1) (b:s.heap.IsList l1 xs) (a:xs[k1]?=none)
  (h:∀ h' e,(∀ c o,c≠z->c≠i1->s.heap.get? c=some o->h'.get? c=some o)->(∃ o,h'.get? e=some o/\o.cls=.type "StopIteration")->E (.ref e) { s with heap:=h' }) :
  wpAny (model prog w) A (Builtin.«zip.__next__» ⟨[.ref z],[]⟩) Q E s:=by
 show wpAny _ _ (field (.ref z) 2>>=_) _ _ _;refine qX (wpAny_field hz rfl (x:=.bool false) rfl ?_);show wpAny _ _ (field (.ref z) 3>>=_) _ _ _;refine qX (wpAny_field hz rfl (x:=.ref TI) rfl ?_);refine qX (wpAny_seqItems f rfl ?_);show wpAny _ _ (Builtin.SmallTypes.ownedTupleIsFree (.ref z)>>=_) _ _ _;refine qX (zE3 hz l λO9 g k d=>?_);simp only[Bool.false_eq_true,if_false];refine qX ?_;simp only[<- Array.forIn_toList,forIn_cons,List.forIn_nil];refine qX (qX (wpAny_holding ?_));show wpAny _ _ (Builtin.SmallTypes.nextOf (.ref i1)>>=_) _ _ _;refine qX (wpAny_nextOf_list_end n (h1.extBut d.extBut D.i1z) (b.extBut d.extBut D.l1z) a λY9 e j m=>?_);exact h Y9 e (λc o i p x=>j _ _ p (d.extBut _ _ i x)) m
def zKK {T:Addr}(D:ZipApart z TI TO i1 i2 l1 l2)
  (hz:zCk s.heap z TI TO (rawInt T) (.bool f1)) (j:s.heap.get? T=some oT) (b:IsPair s.heap TI (.ref i1) (.ref i2))
  (h1:s.heap.IsListIter i1 l1 k1) (h2:s.heap.IsListIter i2 l2 k2) (d:s.heap.IsList l1 xs) (e:s.heap.IsList l2 ys) (i:xs[k1]?=some x) (k:ys[k2]?=some y)
  (m:∀ h' f1',zCk h' z TI TO (rawInt T) (.bool f1')->h'.IsListIter i1 l1 (k1+1)->h'.IsListIter i2 l2 (k2+1)->IsPair h' s.heap.objs.size x y->h'.objs.size=s.heap.objs.size+1 ->
   (∀ c o,c≠z->c≠i1->c≠i2->s.heap.get? c=some o->h'.get? c=some o)->Q (some (.ref s.heap.objs.size)) { s with heap:=h' }) :
  wpAny (model prog w) A (pyNext (.ref z)) Q E s:=by
 have a:s.TypeIs (.ref z) "zip":=⟨_,hz,rfl⟩;exact qX (wpAny_attempt (wpAny_callSpecial?_slot a F.slot_zip_next
  (wpAny_call_entry F.slot_zip_next a F.entry_zip_next
   (zFT D hz j b h1 h2 d e i k λh' q p g f n h l=>xq (m h' q p g f n h l)) (F.args_zip_next_1 _))))
def zKJ {T:Addr}{k2:Nat}{ys:Array Value}(h:A.handled=none)(D:ZipApart z TI TO i1 i2 l1 l2)
  (hz:zCk s.heap z TI TO (rawInt T) (.bool f1)) (j:s.heap.get? T=some oT) (f:IsPair s.heap TI (.ref i1) (.ref i2))
  (h1:s.heap.IsListIter i1 l1 k1) (d:s.heap.IsList l1 xs) (b:xs[k1]?=none)
  (l:∀ h',(∀ c o,c≠z->c≠i1->s.heap.get? c=some o->h'.get? c=some o)->Q none { s with heap:=h' }):wpAny (model prog w) A (pyNext (.ref z)) Q E s:=by
 have a:s.TypeIs (.ref z) "zip":=⟨_,hz,rfl⟩;refine qX (wpAny_attempt (wpAny_callSpecial?_slot a F.slot_zip_next
  (wpAny_call_entry F.slot_zip_next a F.entry_zip_next (zFS (k2:=k2) (ys:=ys) h D hz j f h1 d b λh' e k i=>?_) (F.args_zip_next_1 _))))
 obtain⟨o,m,g⟩:=i;refine qX (wpAny_isInstance ⟨o,m,g⟩ isSubtype_stop ?_);exact xq (l _ k)
end
def zIg:typeLookup (.type "zip") "__len__"=pure none:=by rw[typeLookup_type];kernel_rfl
def zG6:typeLookup (.type "zip") "__length_hint__"=pure none:=by rw[typeLookup_type];kernel_rfl
noncomputable def zB4 (S n:Nat):Array Value:=((List.range n).map λk=>Value.ref (S+1+k)).toArray
def zGG (S n:Nat):(zB4 S n).push (.ref (S+1+n))=zB4 S (n+1):=by
 unfold zB4;rw[range_succ];simp
def zDq (S n:Nat):(zB4 S n).size=n:=by unfold zB4;simp
structure ZJ (s:Shared)(S z TI TO i1 i2 l1 l2:Nat)(xs ys:Array Value)(i:Nat)(s':Shared):Prop where
 same:∃ h',s'={ s with heap:=h' }
 size:s'.heap.objs.size=S+1+i
 lst:∃ c,s'.heap.get? S=some { cls:=.type "list",dict:=none,data:=.seq (zB4 S i) c,slots:=#[] }
 zip:(i=0/\IsZip s'.heap z TI TO .none)\/(0 < i/\∃ f1,zCk s'.heap z TI TO (rawInt (S+1:Nat)) (.bool f1))
 ti:IsPair s'.heap TI (.ref i1) (.ref i2)
 tO:∃ a b,IsPair s'.heap TO a b
 it1:s'.heap.IsListIter i1 l1 i
 it2:s'.heap.IsListIter i2 l2 i
 ls1:s'.heap.IsList l1 xs
 ls2:s'.heap.IsList l2 ys
 tup:∀ k x y,k < i->xs[k]?=some x->ys[k]?=some y->IsPair s'.heap (S+1+k) x y
 keep:∀ (c:Nat) o,c≠z->c≠TO->c≠i1->c≠i2->s.heap.get? c=some o->s'.heap.get? c=some o
structure ZEnd (s:Shared)(S z TO i1 i2:Nat)(xs ys:Array Value)(s':Shared):Prop where
 same:∃ h',s'={ s with heap:=h' }
 lst:∃ c,s'.heap.get? S=some { cls:=.type "list",dict:=none,data:=.seq (zB4 S xs.size) c,slots:=#[] }
 tup:∀ k x y,xs[k]?=some x->ys[k]?=some y->IsPair s'.heap (S+1+k) x y
 keep:∀ (c:Nat) o,c≠z->c≠TO->c≠i1->c≠i2->s.heap.get? c=some o->s'.heap.get? c=some o
section
variable {prog:Program}{w:World}{A:Around}{E:Value->Shared->Prop}{s:Shared}{R:Result->Shared->Prop}
variable {S z TI TO i1 i2 l1 l2:Nat}{xs ys:Array Value}
def zL3 (hh:A.in1.handled=none)(D:ZipApart z TI TO i1 i2 l1 l2)(c5:xs.size=ys.size)(hn:xs.size<=10000)(hz:z < S)(d8:TI < S)(d0:TO < S)(d9:i1 < S)(e5:i2 < S)(d1:l1 < S)(d2:l2 < S)(r:s.heap.objs.size<=S)(p:Value)
  (hR:∀ s',ZEnd s S z TO i1 i2 xs ys s'->R (.ok (.ret p)) s') :
  ∀ (k i:Nat) (s':Shared),xs.size - i=k->i<=xs.size->ZJ s S z TI TO i1 i2 l1 l2 xs ys i s'->codeAny (model prog w) A (.builtin "list.extend.loop" ⟨[.ref S,.ref z,p],[]⟩) R s':=by
 intro k
 induction k with
 | zero =>
  intro i s' hk hi J;have W:i=xs.size:=by omega
  subst W;obtain⟨h0,rfl⟩:=J.same;refine codeAny_builtin F.entry_extend_loop ?_;rw[Around.under_plainId F.plain_extend_loop _];show wpAny _ A.in1 (pyNext (.ref z)>>=_) _ _ _;have t:xs[xs.size]?=none:=by simp
  obtain⟨c,hc⟩:=J.lst;obtain⟨ta,tb,m⟩:=J.tO;refine qX ?_;have fin:∀ h',(∀ (c:Nat) o,c≠z->c≠TO->c≠i1->c≠i2->h0.get? c=some o->h'.get? c=some o)->R (.ok (.ret p)) { s with heap:=h' }:=λh' j=>by
   have up:∀ (b:Nat) o,S<=b->h0.get? b=some o->h'.get? b=some o:=λb o V e=>j b o (by omega) (by omega) (by omega) (by omega) e
   refine hR _ ⟨⟨h',rfl⟩,⟨c,up S _ (le_refl _) hc⟩,λk x y E L=>up _ _ (by omega) (J.tup k x y ?_ E L),λb o b1 b2 b3 b4 e=>j b o b1 b2 b3 b4 (J.keep b o b1 b2 b3 b4 e)⟩;by_cases q:k < xs.size
   .exact q
   .have:xs[k]?=none:=Array.getElem?_eq_none (Nat.le_of_not_lt q);rw[this] at E;cases E
  rcases J.zip with ⟨i0,d⟩ | ⟨ip,O,d⟩
  .exact wpAny_pyNext_zip_end hh D d J.ti m J.it1 J.it2 J.ls1 J.ls2 (.inl t) λh' j=>xq (fin h' j)
  .have G:∃ x,xs[0]?=some x:=⟨xs[0],by simp[ip]⟩;have B:∃ y,ys[0]?=some y:=⟨ys[0]'(by omega),Array.getElem?_eq_getElem (by omega)⟩;obtain⟨x0,C⟩:=G;obtain⟨y0,u⟩:=B;have M:=J.tup 0 x0 y0 ip C u;rw[Nat.add_zero] at M;exact zKJ (k2:=0) (ys:=ys) hh D d M J.ti J.it1 J.ls1 t λh' j=>xq (fin h' λc o U _ T _ e=>j c o U T e)
 | succ k ih =>
  intro i s' hk hi J;have n:i < xs.size:=by omega
  obtain⟨h0,rfl⟩:=J.same;have E:xs[i]?=some xs[i]:=by simp[n]
  have L:ys[i]?=some (ys[i]'(by omega)):=Array.getElem?_eq_getElem (by omega);refine codeAny_builtin F.entry_extend_loop ?_;rw[Around.under_plainId F.plain_extend_loop _];show wpAny _ A.in1 (pyNext (.ref z)>>=_) _ _ _;obtain⟨c,hc⟩:=J.lst;obtain⟨ta,tb,m⟩:=J.tO;have H:h0.objs.size=S+1+i:=J.size;have go:∀ h',(∀ (c:Nat) o,c≠z->c≠TO->c≠i1->c≠i2->h0.get? c=some o->h'.get? c=some o)->(∃ O,zCk h' z TI TO (rawInt (S+1:Nat)) (.bool O))->(∃ a b,IsPair h' TO a b)->h'.IsListIter i1 l1 (i+1)->h'.IsListIter i2 l2 (i+1) ->
    IsPair h' (S+1+i) xs[i] (ys[i]'(by omega))->h'.objs.size=S+1+i+1 ->
    wpAny (model prog w) A.in1 (updateSeq S (·.push (.ref (S+1+i)))>>=λ_=>again (.builtin "list.extend.loop" ⟨[.ref S,.ref z,p],[]⟩))
     (λfin s'=>match fin with | .done f=>R (.ok f) s' | .again c'=>c'.quiet=true/\codeAny (model prog w) A c' R s') (λe s'=>R (.error e) s') { s with heap:=h' }:=λh' j d l a8 a0 hp b5=>by
   have up:∀ (b:Nat) o,S<=b->h0.get? b=some o->h'.get? b=some o:=λb o V e=>j b o (by omega) (by omega) (by omega) (by omega) e
   have N:=up S _ (le_refl _) hc;refine qX ?_;refine wpAny_updateSeq N rfl (xq ⟨plainId_quiet F.plain_extend_loop _,ih (i+1) _ (by omega) n ?_⟩) (by rw[zDq];exact le_trans (Nat.le_of_lt n) (le_trans hn (by decide))) (by show ((zB4 S i).push _).size<=sizeLine+1;rw[Array.size_push,zDq];exact Nat.succ_le_succ (le_trans (Nat.le_of_lt n) (le_trans hn (by decide))));have h:∀ (b:Nat) o,b≠S->h'.get? b=some o->(h'.update S (Obj.mapSeq (·.push (.ref (S+1+i))))).get? b=some o:=λb o V e=>(Heap.get?_update_other _ _ (Ne.symm V)).trans e
   obtain⟨O,d⟩:=d;obtain⟨a',b',l⟩:=l;have ql:∃ c,(h'.update S (Obj.mapSeq (·.push (.ref (S+1+i))))).get? S=some { cls:=.type "list",dict:=none,data:=.seq (zB4 S (i+1)) c,slots:=#[] }:=⟨_,by
    rw[<- zGG];exact Heap.get?_update_self (Obj.mapSeq (·.push (Value.ref (S+1+i)))) N rfl⟩
   refine⟨⟨_,rfl⟩,?_,ql,.inr ⟨Nat.succ_pos i,O,h _ _ (by omega) d⟩,h _ _ (by omega) (j _ _ D.TIz D.TITO D.TIi1 D.TIi2 J.ti),⟨a',b',h _ _ (by omega) l⟩,a8.at λo e=>h _ o (by omega) e,a0.at λo e=>h _ o (by omega) e,
    (J.ls1.at λo e=>j _ o D.l1z D.l1TO D.l1i1 D.l1i2 e).at λo e=>h _ o (by omega) e,(J.ls2.at λo e=>j _ o D.l2z D.l2TO D.l2i1 D.l2i2 e).at λo e=>h _ o (by omega) e,λk x y c9 X Y=>?_,λb o b1 b2 b3 b4 e=>?_⟩
   .show (h'.update S _).objs.size=_;rw[Heap.size_update,b5];omega
   .refine h _ _ (by omega) ?_;by_cases q:k < i
    .exact up _ _ (by omega) (J.tup k x y q X Y)
    .have:k=i:=by omega
     subst this;rw[E] at X;rw[L] at Y;cases X;cases Y;exact hp
   .by_cases q:b=S
    .subst q;have:=lt_size e;exact absurd (xX this r) (lt_irrefl _)
    .exact h b o q (j b o b1 b2 b3 b4 (J.keep b o b1 b2 b3 b4 e))
  refine qX ?_;rcases J.zip with ⟨i0,d⟩ | ⟨ip,O,d⟩
  .subst i0;refine wpAny_pyNext_zip_item D d J.ti m J.it1 J.it2 J.ls1 J.ls2 E L λh' Q a2 a3 a4 I K P=>?_
   have Z:({ s with heap:=h0 }:Shared).heap.objs.size=S+1+0:=H;rw[Z] at Q I K ⊢;exact go h' P ⟨false,Q⟩ ⟨_,_,a2⟩ a3 a4 I K
  .have G:∃ x,xs[0]?=some x:=⟨xs[0]'(by omega),Array.getElem?_eq_getElem (by omega)⟩;have B:∃ y,ys[0]?=some y:=⟨ys[0]'(by omega),Array.getElem?_eq_getElem (by omega)⟩;obtain⟨x0,C⟩:=G;obtain⟨y0,u⟩:=B;have M:=J.tup 0 x0 y0 ip C u;rw[Nat.add_zero] at M;refine zKK D d M J.ti J.it1 J.it2 J.ls1 J.ls2 E L λh' f' Q a3 a4 I K P=>?_
   have Z:({ s with heap:=h0 }:Shared).heap.objs.size=S+1+i:=H;rw[Z] at I K ⊢;exact go h' (λc o U _ T c4 e=>P c o U T c4 e) ⟨f',Q⟩ ⟨ta,tb,P _ _ D.TOz D.TOi1 D.TOi2 m⟩ a3 a4 I K
end
section
variable {prog:Program}{w:World}{A:Around}{E:Value->Shared->Prop}{s:Shared}
variable {z TI TO i1 i2 l1 l2:Nat}{xs ys:Array Value}
def zF9 (V:A.handled=none)(D:ZipApart z TI TO i1 i2 l1 l2)(hz:IsZip s.heap z TI TO .none)(m:IsPair s.heap TI (.ref i1) (.ref i2))(n:IsPair s.heap TO a b)(h1:s.heap.IsListIter i1 l1 0)(h2:s.heap.IsListIter i2 l2 0)
  (v:s.heap.IsList l1 xs) (j:s.heap.IsList l2 ys) (q:xs.size=ys.size) (S:xs.size<=10000) (T:∀ s',ZEnd s s.heap.objs.size z TO i1 i2 xs ys s'->Q (.ref s.heap.objs.size) s') :
  wpAny (model prog w) A (call (.type "list") [.ref z]) Q E s:=by
 have u:z < s.heap.objs.size:=lt_size hz;have r:TI < s.heap.objs.size:=lt_size m;have l:TO < s.heap.objs.size:=lt_size n;have L:i1 < s.heap.objs.size:=by obtain⟨o,e,_⟩:=h1;exact lt_size e
 have I:i2 < s.heap.objs.size:=by obtain⟨o,e,_⟩:=h2;exact lt_size e
 have B:l1 < s.heap.objs.size:=by obtain⟨o,e,_⟩:=v;exact lt_size e
 have C:l2 < s.heap.objs.size:=by obtain⟨o,e,_⟩:=j;exact lt_size e
 refine callType_codes (Q₁:=λobj P=>obj=.ref s.heap.objs.size/\P={ s with heap:=s.heap.push { cls:=.type "list",data:=.seq #[] } }) F.called_list (F.typeCall_list_1 _) F.entry_list_init
  (code_list_new _ ⟨rfl,rfl⟩) λobj P Z=>?_
 obtain⟨rfl,rfl⟩:=Z;have G:(s.heap.push { cls:=.type "list",data:=.seq #[] }).get? s.heap.objs.size=some { cls:=.type "list",data:=.seq #[] }:=get?_push_size _ rfl;refine⟨⟨_,G,rfl⟩,F.args_list_init_2 _ _,?_⟩;show wpAny _ A.in1.in1 (do let N<-Builtin.List.listItems (.ref s.heap.objs.size);Builtin.List.listUpdate (.ref s.heap.objs.size) (λ_=>#[]);letGo N.toList.reverse;Builtin.List.listExtendWith (.ref s.heap.objs.size) (.ref z) .none) _ _ _;refine qX ?_;unfold Builtin.List.listItems;refine qX (wpAny_seqItems G rfl (xq ?_));show wpAny _ A.in1.in1 (updateSeq s.heap.objs.size (λ_=>#[])>>=λ_=>letGo (#[]:Array Value).toList.reverse>>=λ_=>Builtin.List.listExtendWith (.ref s.heap.objs.size) (.ref z) .none) _ _ _;refine qX (wpAny_updateSeq G rfl ?_);have h:=Heap.get?_update_self (Obj.mapSeq (λ_=>(#[]:Array Value))) G rfl;refine qX (wpAny_letGo ?_);have Y:∃ d,d=(s.heap.push { cls:=.type "list",data:=.seq #[] }).update s.heap.objs.size (Obj.mapSeq (λ_=>(#[]:Array Value))):=⟨_,rfl⟩;obtain⟨d,i⟩:=Y;rw[<- i] at h ⊢;have p:∀ (b:Nat) o,b≠s.heap.objs.size->(s.heap.push { cls:=.type "list",data:=.seq #[] }).get? b=some o->d.get? b=some o:=λb o H e=>by rw[i];exact(Heap.get?_update_other _ _ (Ne.symm H)).trans e
 have g:∀ (b:Nat) o,s.heap.get? b=some o->d.get? b=some o:=λb o e=>p b o (ne_of_lt (lt_size e)) (get?_push_of_some _ e)
 have M:d.objs.size=s.heap.objs.size+1:=by rw[i,Heap.size_update,Heap.size_push]
 unfold Builtin.List.listExtendWith;have K:({ s with heap:=d }:Shared).TypeIs (.ref z) "zip":=⟨_,g _ _ hz,rfl⟩;refine qX (wpAny_typeOf K ?_);have U:Builtin.List.listSameRef (.ref s.heap.objs.size) (.ref z)=false:=by
  have:s.heap.objs.size≠z:=Nat.ne_of_gt u;simp[Builtin.List.listSameRef,this]
 have X:(Value.type "zip"==Value.type "list")=false:=by decide
 have R:(Value.type "zip"==Value.type "tuple")=false:=by decide
 simp only[U,X,R,Bool.or_false,Bool.false_eq_true,if_false];refine qX (wpAny_pyIter_zip (g _ _ hz) ?_);refine qX (wpAny_holding ?_);unfold Builtin.List.listLengthHint;refine qX (wpAny_specialOf K zIg ?_);show wpAny _ A.in1.in1 (specialOf (Value.ref z) (Str.ofString "__length_hint__")>>=_) _ _ _;refine qX (wpAny_specialOf K zG6 ?_);refine xq ?_;show wpAny _ A.in1.in1 (rule "list.extend.makes-room">>=λ_=>Builtin.List.listTouch (.ref s.heap.objs.size)>>=λ_ =>
  again (.builtin "list.extend.loop" ⟨[.ref s.heap.objs.size,.ref z,.none],[]⟩)) _ _ _
 refine qX (wpAny_rule ?_);refine qX ?_;show wpAny _ A.in1.in1 (updateSeq s.heap.objs.size (·.push .none)>>=λ_=>updateSeq s.heap.objs.size (·.pop)) _ _ _;refine qX (wpAny_updateSeq h rfl ?_);have t:=Heap.get?_update_self (Obj.mapSeq (·.push Value.none)) h rfl;refine wpAny_updateSeq (hz:=by seq_fits) t rfl ?_;have J:=Heap.get?_update_self (Obj.mapSeq (·.pop)) t rfl;have O:∀ (b:Nat) o,b≠s.heap.objs.size->d.get? b=some o->((d.update s.heap.objs.size (Obj.mapSeq (·.push Value.none))).update s.heap.objs.size (Obj.mapSeq (·.pop))).get? b=some o :=
  λb o H e=>(Heap.get?_update_other _ _ (Ne.symm H)).trans ((Heap.get?_update_other _ _ (Ne.symm H)).trans e)
 have f:∀ (b:Nat) o,s.heap.get? b=some o->((d.update s.heap.objs.size (Obj.mapSeq (·.push Value.none))).update s.heap.objs.size (Obj.mapSeq (·.pop))).get? b=some o:=λb o e=>O b o (ne_of_lt (lt_size e)) (g b o e)
 refine xq ⟨plainId_quiet F.plain_extend_loop _,zL3 (s:=s) (A:=A.in1) V D q S u r l L I B C (le_refl _) .none (λs' e=>⟨rfl,T s' e⟩) xs.size 0 _ rfl (zero_le _) ?_⟩;exact⟨⟨_,rfl⟩,by show (Heap.update _ _ _).objs.size=_;rw[Heap.size_update,Heap.size_update,M],⟨_,J⟩,.inl ⟨rfl,f _ _ hz⟩,f _ _ m,⟨a,b,f _ _ n⟩,h1.at λo e=>f _ o e,h2.at λo e=>f _ o e,v.at λo e=>f _ o e,j.at λo e=>f _ o e,
  λk x y W=>absurd W (Nat.not_lt_zero k),λc o _ _ _ _ e=>f c o e⟩
end
end DL
end
section
namespace DL
open PySem Spec PyProof.Rows L2
noncomputable def HZ (H:Hp)(S:Nat)(us ws:List V):Hp:=λ(b:Nat)=>if b=S then some (.lst ((List.range us.length).map λk=>V.ref (S+1+k))) else if S+1<=b/\b < S+1+us.length then some (.tup [us.getD (b - (S+1)) .non,ws.getD (b - (S+1)) .non]) else H b
theorem hz_S :HZ H S us ws S=some (.lst ((List.range us.length).map λk=>V.ref (S+1+k))):=if_pos rfl
def hz_t {H:Hp}{S k:Nat}{us ws:List V}(a:k < us.length):HZ H S us ws (S+1+k)=some (.tup [us.getD k .non,ws.getD k .non]):=by
 unfold HZ;rw[if_neg (by omega),if_pos (by omega),Nat.add_sub_cancel_left]
theorem zOL (hb:b < S):HZ H S us ws b=H b:=by
 unfold HZ;grind
theorem zGI:∀ l:List Nat,Vals (l.map V.ref) (l.map Value.ref)
 | []=>.nil
 | a::l=>.cons rfl (zGI l)
def zJP (r:Vals us its)(a:k < us.length):∃ x,its[k]?=some x/\RelV (us.getD k .non) x:=by
 have e:us[k]?=some (us.getD k .non):=by
  simp_all
 exact r.get e
noncomputable def zipT (xs ys:List D):List D:=List.zipWith (λa b=>D.tup [a,b]) xs ys
noncomputable def zipD (x y:D):Option R:=match x,y with
 | .lst xs,.lst ys=>if xs.length=ys.length/\xs.length<=10000 then some (.lst (zipT xs ys),.fr) else none
 | _,_=>none
section
variable {X:Cx}
def zJB (J:X.calm=true)(c0:Gl X "list")(b2:X.mg "list"=none)(b4:Gl X "zip")(a8:X.mg "zip"=none)(ha:GE X a f)(hb:GE X b g)
  (hs:starEach [a,b] X.env=(false,eval a X.env)::starEach [b] X.env) (R:starEach [b] X.env=[(false,eval b X.env)]) :
  GE X (.Call (.Name "list" p) [.Call (.Name "zip" p2) [a,b] [] pos2] [] pos) (two f g zipD):=by
 intro Y s B H Q I ⟨S,O,r,ds,e,c⟩;obtain⟨x,ex,e⟩:=bind_some e;obtain⟨y,ey,e⟩:=bind_some e;unfold zipD at e;split at e
 .rename_i xs ys c8 b1;by_cases ok:xs.length=ys.length/\xs.length<=10000
  .rw [if_pos ok] at e;cases e;obtain⟨h9,f1⟩:=ok;refine wpAny_Call_Name_kw (zCy I c0 b2 boot_list ?_ (by decide) (by decide));refine PyProof.Rows.callWith_type1 ?_ rfl rfl;show wpAny _ _ (spliced ((false,eval (.Call (.Name "zip" p2) [a,b] [] pos2) X.env)::[])) _ _ s;refine Calls.spliced_cons ?_;refine wpAny_Call_Name_kw (zCy I b4 a8 boot_zip ?_ (by decide) (by decide));refine PyProof.Rows.callWith_type1 (thn ((zAX ha (zAX hb zBE R) hs) pos2 Y s B H (λvs H2=>∃ vx vy,vs=[vx,vy]/\Same H H2/\Rdv X.K H2 S x.1 vx/\Rdv X.K H2 S y.1 vy) I
    ⟨S,O,x,ds,ex,λvx l t r1=>⟨S,O,y,ds.mono t,ey,λvy H2 s2 r2=>⟨vx,vy,rfl,t.trans s2,r1.rd.mono s2,r2.rd⟩⟩⟩) λus t ⟨vs,l,K,r1,q1⟩=>?_) hs (by rw[R];rfl)
   obtain⟨vx,vy,rfl,sm,dx,dy⟩:=q1;rw[c8] at dx;rw[b1] at dy;obtain⟨l1,m,rfl,w1,d1⟩:=dx.lst;obtain⟨l2,E,rfl,w2,d2⟩:=dy.lst;obtain⟨u1,u2,rfl,c5,b8⟩:=zOj r1;cases c5;cases b8;obtain⟨U,T,p1,z1⟩:=K.list w1;obtain⟨e4,W,p2,z2⟩:=K.list w2;have n1:xs.length=m.length:=d1.length;have n2:ys.length=E.length:=d2.length;have m1:=T.length;have m2:=W.length;have N:l1 < t.heap.objs.size:=by obtain⟨o,q,_⟩:=p1.isList;exact lt_size q
   have V:l2 < t.heap.objs.size:=by obtain⟨o,q,_⟩:=p2.isList;exact lt_size q
   refine call_zip_2 p1.isList p2.isList λh' hz c3 a7 P M b9 hk=>?_
   refine Calls.spliced_nil ?_;refine zF9 (s:={ t with heap:=h' }) (I.ok.hd J) (zipApart_new N V) hz c3 a7 P M (p1.isList.at λo q=>hk _ o q) (p2.isList.at λo q=>hk _ o q) (by rw[xj,xj];omega) (by rw[xj];omega) λs' Z=>?_
   obtain⟨G,a6⟩:=Z.same;have eS:({ t with heap:=h' }:Shared).heap.objs.size=t.heap.objs.size+5:=b9;have gS:∃ h,h=t.heap.objs.size:=⟨_,rfl⟩;obtain⟨h,A⟩:=gS;rw[eS,<- A] at Z ⊢;rw[<- A] at N V;subst a6;have kp:∀ (b:Nat) o,t.heap.get? b=some o->G.get? b=some o:=λb o q=>by
    have hb:b < h:=by rw[A];exact lt_size q
    exact Z.keep b o (by omega) (by omega) (by omega) (by omega) (hk b o q)
   obtain⟨cc,D⟩:=Z.lst;have F:∀ {b:Nat} {o:HO},l b=some o->b < h:=λ{b o} q=>by rw[A];exact(K.hok b o q).lt
   have j:∀ {b:Nat} {o:HO},l b=some o->HZ l (h+5) m E b=some o:=λ{b o} q=>by rw[zOL (by have:=F q;omega)];exact q
   have hn:U.toArray.size=m.length:=by rw[xj];exact m1.symm
   rw[hn] at D;have b6:HOk X.prog X.w (HZ l (h+5) m E) G:=λ(b:Nat) o q=>by
    by_cases c1:b=h+5
    .subst c1;rw[hz_S] at q;cases q;refine⟨by rw[qy,length_range];exact z1,(List.range m.length).map λk=>Value.ref (h+5+1+k),cc,?_,D⟩;have:=zGI ((List.range m.length).map λk=>h+5+1+k);rw[map_map,map_map] at this;exact this
    .by_cases c2:h+5+1<=b/\b < h+5+1+m.length
     .have eb:b=h+5+1+(b - (h+5+1)):=by omega
      have L:b - (h+5+1) < m.length:=by omega
      rw[eb,hz_t L] at q;cases q;obtain⟨ux,d0,rx⟩:=zJP T L;obtain⟨uy,c7,ry⟩:=zJP W (k:=b - (h+5+1)) (by omega);have tp:=Z.tup (b - (h+5+1)) ux uy (by simpa using d0) (by simpa using c7);refine⟨by show 2<=sizeLine;decide,[ux,uy],.cons rx (.cons ry .nil),?_⟩;rw[<- eb] at tp;exact⟨_,tp,rfl,_,rfl⟩
     .have q':l b=some o:=by
       unfold HZ at q;rw[if_neg c1,if_neg c2] at q;exact q
      exact(K.hok b o q').stay (λd v _ w=>kp d v w) (λd w=>j w) (λd ws w=>j w) λd ob u w _=>j w
   have a0:∀ (b:Nat) o,t.heap.get? b=some o->l b=none->HZ l (h+5) m E b=none:=λb o q n=>by
    have hb:b < h:=by rw[A];exact lt_size q
    rw[zOL (by omega)];exact n
   have un:Un X.fs [] l (HZ l (h+5) m E) t.heap G:=⟨λb o q _ _ _=>kp b o q,λb o q _ _ _=>⟨o.slots,kp b o q⟩,λb o q n _=>a0 b o q n,λb o q _=>⟨o,kp b o q⟩,λb ws q=>j q,λb o w q=>j q,λb ps q=>j q⟩;have sH:Same l (HZ l (h+5) m E):=λb o q=>j q
   have fr:l (h+5)=none:=K.hok.fresh (by rw[<- A];omega);have nS:∀ {b:Nat},b∈S->b < h:=λ{b} z=>by
    obtain⟨ws,q,_⟩:=(ds.mono sm).sok b z;exact F q
   refine⟨.ref (h+5),_,K.un (t':=t.toks) un b6,rfl,c _ _ (sm.trans sH) ⟨h+5,_,_,rfl,rfl,λz=>absurd (nS z) (by omega),sm.free fr,hz_S,?_⟩⟩;refine DenL.of_get ?_ λi d v C ev=>?_
   .unfold zipT;rw[List.length_zipWith,qy,length_range];omega
   .unfold zipT at C;rw[List.getElem?_zipWith] at C;rw[getElem?_map] at ev;cases e1:xs[i]? with
    | none=>rw[e1] at C;simp at C
    | some i1 =>
     cases e2:ys[i]? with
     | none=>rw[e1,e2] at C;simp at C
     | some h7 =>
      rw[e1,e2] at C;cases C;have hi:i < m.length:=by rw[<- n1];exact(zzg e1).1
      rw[getElem?_range hi] at ev;cases ev;obtain⟨va,qa,da⟩:=d1.get e1;obtain⟨vb,qb,db⟩:=d2.get e2;have ga:m.getD i .non=va:=by rw[getD_eq_getElem?_getD,qa];rfl
      have gb:E.getD i .non=vb:=by rw[getD_eq_getElem?_getD,qb];rfl
      have up:Same (hide l S) (hide (HZ l (h+5) m E) ((h+5)::S)):=λ(b:Nat) o q=>by
       obtain⟨q1,q2⟩:=zA3 q;rw[zAQ λz=>(mem_cons.mp z).elim (λz=>by have z':b=h+5:=z;have:=F q2;omega) q1];exact j q2
      rw[Den];refine⟨h+5+1+i,[va,vb],rfl,SqT.of ?_,.cons (da.mono up) (.cons (db.mono up) .nil)⟩;rw[zAQ λz=>(mem_cons.mp z).elim (λz=>by have z':h+5+1+i=h+5:=z;omega) λz=>by have:=nS z;omega,hz_t hi,ga,gb]
  .rw [if_neg ok] at e;cases e
 .cases e
end
def Arr (stack:List Env)(H':Hp)(h0:Heap)(ex:List Addr)(a C:Addr)(h:Heap):Prop :=
 ∃ B:Heap,B.StaysIn h/\B.get? a=none/\h.FunFrames B stack/\(∀ b u,H' b=some u->∃ o,B.get? b=some o)/\(∀ b o,h0.get? b=some o->b∉frs stack->b∉ex->∃ o',B.get? b=some o') /\
  ∃ a0,(∃ fl,h.TracedAtW B a (.ref C) a0 fl)\/(∃ oe vs,h.get? a=some oe/\oe.cls=.ref C/\oe.data=.fields vs/\vs[1]?=some .none/\vs[0]?=some a0)
structure Gone (P:Program)(w:World)(stack:List Env)(ex:List Addr)(H H':Hp)(s s':Shared)(a C:Addr):Prop where
 os:s'.os=s.os
 bare:AllBare s'.gens
 un:Un (frs stack) ex H H' s.heap s'.heap
 hok:HOk P w H' s'.heap
 arr:Arr stack H' s.heap ex a C s'.heap
def GX {T:Type}(X:Cx)(m:Sem T)(f:Dst->Option Str):Prop:=True
abbrev GXs (X:Cx) (st:Stmt) (f:Dst->Option Str):Prop:=GX X (exec st X.env) f
abbrev GXss (X:Cx) (st:List Stmt) (f:Dst->Option Str):Prop:=GX X (execs st X.env) f
section
variable {X:Cx}
def zAM {T:Type}{m:Sem T}:GX X m λ_=>none:=trivial
end
end DL
end
section
namespace DL
open PySem Spec PyProof.Rows L2 PySem.W Builtin Builtin.ObjectAttr Builtin.Getset_descriptor
section
variable {prog:Program}{w:World}{A:Around}{E:Value->Shared->Prop}{h:Heap}{g:Array GenState}{d:Drawn}{t:Nat}{os:OsState}{a C:Addr}{o:Obj}{K:W.Frag}
structure XCls (K:W.Frag)(C:Addr):Prop where
 ga:findIn K (.ref C) "__getattribute__"=some (some (.builtin "BaseException.__getattribute__"))
 gt:findIn K (.ref C) "__getattr__"=some none
 cl:findIn K (.ref C) "__class__"=some (some (.builtin "object.__class__"))
 mo:mroIn K C (.type "object")=some true
 mb:subIn K (.ref C) (.type "BaseException")=some true
 is:(clsIn K C).isSome=true
end
end DL
end
section
namespace DL
open PySem Spec PyProof.Rows L2
end DL
end
section
namespace DL
open PySem Spec PyProof.Rows L2
section
variable {X:Cx}
noncomputable def chD (o o':D->D->Option R)(f g h:Dst->Option R):Dst->Option R:=λO=>(f O).bind λx=>(g O).bind λy=>match o x.1 y.1 with
 | some (.bl true,_)=>(h O).bind λz=>o' y.1 z.1
 | some (.bl false,_)=>some (.bl false,.cl)
 | _=>none
def zH2 {r r':R2}{o t:D->D->Option R}{f g h:Dst->Option R}(u:OpD X.K r o)(l:OpD X.K r' t){B:St}{H:Hp}{Q:VK}(q:gT X.K (chD o t f g h) B H Q):zJU r r' (gT X.K f) (gT X.K g) (gT X.K h) B H Q:=by
 obtain⟨S,O,z,i,e,c⟩:=q;obtain⟨x,J,e⟩:=bind_some e;obtain⟨y,A,e⟩:=bind_some e;refine⟨S,O,x,i,J,λvx N b r1=>⟨S,O,y,i.mono b,A,λvy p a r2=>?_⟩⟩;split at e
 .rename_i k m;obtain⟨w,I,e⟩:=bind_some e;refine u S p x.1 y.1 _ vx vy _ (i.mono (b.trans a)).sok m (r1.rd.mono a) r2.rd λv s d r3=>⟨true,r3.rd.bl,?_⟩
  refine⟨S,O,w,i.mono (b.trans (a.trans d)),I,λvw v j C=>?_⟩;exact l S v y.1 w.1 z vy vw Q (i.mono (b.trans (a.trans (d.trans j)))).sok e (r2.rd.mono (d.trans j)) C.rd λv' E F K=>c v' E (b.trans (a.trans (d.trans (j.trans F)))) (K.from (b.trans (a.trans (d.trans j))))
 .rename_i k m;cases e;refine u S p x.1 y.1 _ vx vy _ (i.mono (b.trans a)).sok m (r1.rd.mono a) r2.rd λv s d r3=>⟨false,r3.rd.bl,?_⟩
  exact c _ s (b.trans (a.trans d)) (.bl _)
 .cases e
noncomputable def chB (op:CmpOp):Bool:=decide (op=.Lt)||decide (op=.LtE)||decide (op=.Gt)||decide (op=.GtE)
def zIA (h:chB op'=true):lastMarks [op,op'] [b,c]=false:=by
 unfold chB at h
 simp_all
 rcases h with ((h | h) | h) | h<;>subst h<;>exact zDM c
noncomputable def zEx:D->Option R
 | .lst ds=>some (.tup ds,.cl)
 | .tup ds=>some (.tup ds,.cl)
 | _=>none
def zJ3:OpD1 X.K (λxs H Q=>∃ p ys,xs=[.ref p]/\((SqL X.K H p ys/\∀ l,H l=none->Q (.ref l) (upd H l (.tup ys)))\/(SqT X.K H p ys/\Q (.ref p) H))) zEx:=by
 intro S H x z i Q d e f c;unfold zEx at e;split at e
 .cases e;obtain⟨a,b,rfl,h1,h2⟩:=f.lst;exact⟨a,b,rfl,.inl ⟨h1,λp n=>c _ _ (zAe n _) (.tupNew d n h2)⟩⟩
 .cases e;rcases f with h | ⟨a,b,ds',h1,h2,_⟩
  .have g:=h;obtain⟨a,b,rfl,h1,h2⟩:=h;exact⟨a,b,rfl,.inr ⟨Same.tupS zAf h1,c _ H (Same.refl _) g⟩⟩
  .cases h2
 .cases e
end
end DL
namespace DL
open PySem Spec PyProof.Rows L2
noncomputable def extD (i:Nat)(f:Dst->Option R):Dst->Option Out:=λO=>match O[i]? with
 | some (some (.lst xs,true))=>(f O).bind λr=>match r with
  | (.lst ys,.fr)=>if xs.length+ys.length<=10000 then some (.nx (O.set i (some (.lst (xs++ys),true)))) else none
  | _=>none
 | _=>none
def zSn (J:X.N[i]?=some x)(K:Vis X.env.scope x)(R:(x==("__debug__":Str))=false)(l:(x==("__classdict__":Str))=false)(h:GE X e f)
  (w:starEach [e] X.env=[(false,eval e X.env)]) (d:attributeBase (.Name x npos) "extend" X.env (eval (.Name x npos) X.env)=eval (.Name x npos) X.env) (c:(apos.endLine==cpos.line)=true) :
  GS X (.Expr (.Call (.Attribute (.Name x npos) "extend" apos) [e] [] cpos) pos) (extD i f):=λH0=>(zHF (zO9 PySem.F.plainAttrs_list PySem.F.slot_list_extend PySem.F.type_list_extend zKN (zDK J K R l) (zAX h zBE w) d (by rw[w];rfl) c w rfl) rfl).imp λE B H g=>by
 obtain⟨S,O,o,s,h0,e,p⟩:=g;unfold extD at e;split at e
 .rename_i A q;obtain⟨r,P,e⟩:=bind_some e;split at e
  .rename_i I;by_cases hl:A.length+I.length<=10000
   .rw [if_pos hl] at e;cases e;obtain⟨v,C,M⟩:=s.get i _ true q;obtain⟨a,y,es,rfl,Q,U,D,E⟩:=M.ownL rfl;cases Q;refine⟨.ref a,C,.inl ⟨rfl,_,SqL.of D⟩,S,O,_,s,P,λy G j r1=>?_⟩;obtain⟨b,u,V,rfl,N,Z,W,n,F⟩:=r1;cases N;have m:=E.mono (zAR j (S:=S));have k:=F.mono (zB1 (H:=G) (S:=S) (T:=b::S) λc z=>qJ _ z);have Y:=E.length;have l2:=F.length;refine⟨a,b,y,u,rfl,rfl,j _ _ D,n,le_trans (show y.length+u.length<=10000 by omega) (by decide),?_⟩;have t:DenL X.K (hide G S) (A++I) (y++u):=m.append k;have L:=(s.mono j).change (i:=i) q C t;refine p S B _ L ?_;rw[zFx U];exact h0.trans (zAR j)
   .rw [if_neg hl] at e;cases e
  .cases e
 .cases e
end DL
namespace DL
open PySem Spec PyProof.Rows L2
section
variable {X:Cx}
structure Tgt (X:Cx)(i:Nat)(x:Str):Prop where
 at_:X.N[i]?=some x
 loc:Loc X.env.scope x
 fn:X.fn x=true\/X.env.scope.names.lookup x=some .local
end
end DL
end
section
namespace DL
open PySem
def zI4:typeLookup (.type "list_reverseiterator") "__len__"=pure none:=by rw[typeLookup_type];kernel_rfl
def zMj:typeLookup (.type "list_reverseiterator") "__length_hint__"=pure (some (.builtin "list_reverseiterator.__length_hint__")):=by rw[typeLookup_type];kernel_rfl
def zMi:isSubtype (.type "list_reverseiterator") (.type "list_reverseiterator")=pure true:=by rw[isSubtype_type];kernel_rfl
section
variable {prog:Program}{w:World}{A:Around}{E:Value->Shared->Prop}{s:Shared}{I l:Addr}{items:Array Value}
def zMv (a:s.TypeIs (.ref I) "list_reverseiterator")(h:Q false s):wpAny M A (Builtin.List.listLengthHint (.ref I)) Q E s:=by
 unfold Builtin.List.listLengthHint;refine qX (wpAny_specialOf a zI4 ?_);show wpAny _ A (specialOf (Value.ref I) (Str.ofString "__length_hint__")>>=_) _ _ _;refine qX (wpAny_specialOf a zMj ?_);have b:splitId "list_reverseiterator.__length_hint__"=some ("list_reverseiterator","__length_hint__"):=by decide +kernel
 simp only[b];unfold isInstance;refine qX (qX (wpAny_typeOf a (wpAny_of_eq zMi ?_)));rw[if_neg (show ¬ ((!true)=true) by decide)];rw[if_pos (by decide +kernel)];rw[if_neg (by decide +kernel)];exact xq h
def zGA (O:A.handled=none)(t:l≠I)(c:s.heap.IsRevIter I l ((items.size:Int) - 1))(C:s.heap.IsList l items)(J:items.size<=10000)
  (M:∀ s' acc' c',Moved (s.heap.objs.size::[I]) (λa b=>b=a) { s with heap:=s.heap.push { cls:=.type "list",data:=.seq #[] } } s' ->
   s'.heap.get? s.heap.objs.size=some { cls:=.type "list",dict:=none,data:=.seq acc' c',slots:=#[] }->ItemsOf (λi v=>items[items.size - 1 - i]?=some v) acc' items.size->Q (.ref s.heap.objs.size) s') :
  wpAny (model prog w) A (call (.type "list") [.ref I]) Q E s:=by
 have W:=(Walks.listRev (prog:=prog) (w:=w) (A:=A.in1.in1) O I l t items).toS;have K:(items.size:Nat)>=0/\True:=⟨zero_le _,trivial⟩;have q:(λ(i:Nat) (s:Shared)=>i<=items.size/\s.heap.IsRevIter I l ((items.size:Int) - 1 - (i:Int))/\s.heap.IsList l items) 0 s:=⟨zero_le _,by simpa using c,C⟩;have f:I < s.heap.objs.size:=by obtain⟨o,e,_⟩:=c;exact lt_size e
 have p:l < s.heap.objs.size:=by obtain⟨o,e,_⟩:=C;exact lt_size e
 have u:s.heap.objs.size∉[I,l]:=λhm=>by
  rcases mem_cons.mp hm with e | e
  .exact lt_irrefl _ (e▸f)
  .exact lt_irrefl _ ((mem_singleton.mp e)▸p)
 have R:items.size<=sizeLine:=le_trans J (by decide);refine callType_codes (Q₁:=λobj B=>obj=.ref s.heap.objs.size/\B={ s with heap:=s.heap.push { cls:=.type "list",data:=.seq #[] } }) F.called_list (F.typeCall_list_1 _) F.entry_list_init
  (code_list_new _ ⟨rfl,rfl⟩) λobj B S=>?_
 obtain⟨rfl,rfl⟩:=S;have m:(s.heap.push { cls:=.type "list",data:=.seq #[] }).get? s.heap.objs.size=some { cls:=.type "list",data:=.seq #[] }:=get?_push_size _ rfl;refine⟨⟨_,m,rfl⟩,F.args_list_init_2 _ _,?_⟩;show wpAny _ A.in1.in1 (do let y<-Builtin.List.listItems (.ref s.heap.objs.size);Builtin.List.listUpdate (.ref s.heap.objs.size) (λ_=>#[]);letGo y.toList.reverse;Builtin.List.listExtendWith (.ref s.heap.objs.size) (.ref I) .none) _ _ _;refine qX ?_;unfold Builtin.List.listItems;refine qX (wpAny_seqItems m rfl (xq ?_));show wpAny _ A.in1.in1 (updateSeq s.heap.objs.size (λ_=>#[])>>=λ_=>letGo (#[]:Array Value).toList.reverse>>=λ_=>Builtin.List.listExtendWith (.ref s.heap.objs.size) (.ref I) .none) _ _ _;refine qX (wpAny_updateSeq m rfl ?_);have r:=Heap.get?_update_self (Obj.mapSeq (λ_=>(#[]:Array Value))) m rfl;refine qX (wpAny_letGo ?_);have k:∀ b o,b≠s.heap.objs.size->(s.heap.push { cls:=.type "list",data:=.seq #[] }).get? b=some o->((s.heap.push { cls:=.type "list",data:=.seq #[] }).update s.heap.objs.size (Obj.mapSeq (λ_=>(#[]:Array Value)))).get? b=some o :=
  λb o n e=>(Heap.get?_update_other _ _ (Ne.symm n)).trans e
 have z:∀ (b:Nat) o,s.heap.get? b=some o->((s.heap.push { cls:=.type "list",data:=.seq #[] }).update s.heap.objs.size (Obj.mapSeq (λ_=>(#[]:Array Value)))).get? b=some o:=λb o e=>k b o (ne_of_lt (lt_size e)) (get?_push_of_some _ e)
 have d:=c.at (h':=(s.heap.push { cls:=.type "list",data:=.seq #[] }).update s.heap.objs.size (Obj.mapSeq (λ_=>(#[]:Array Value)))) λo e=>z I o e
 have D:({ s with heap:=(s.heap.push { cls:=.type "list",data:=.seq #[] }).update s.heap.objs.size (Obj.mapSeq (λ_=>(#[]:Array Value))) }:Shared).TypeIs (.ref I) "list_reverseiterator":=d.typeIs;have j:=W.frame 0 s ((s.heap.push { cls:=.type "list",data:=.seq #[] }).update s.heap.objs.size (Obj.mapSeq (λ_=>(#[]:Array Value)))) s.toks q (le_refl _) λb n o e=>z b o e
 unfold Builtin.List.listExtendWith;refine qX (wpAny_typeOf D ?_);have N:Builtin.List.listSameRef (.ref s.heap.objs.size) (.ref I)=false:=by
  have:s.heap.objs.size≠I:=Nat.ne_of_gt f;simp[Builtin.List.listSameRef,this]
 have P:(Value.type "list_reverseiterator"==Value.type "list")=false:=by decide
 have H:(Value.type "list_reverseiterator"==Value.type "tuple")=false:=by decide
 simp only[N,P,H,Bool.or_false,Bool.false_eq_true,if_false];refine qX (W.self 0 _ _ _ j ?_);refine qX (wpAny_holding (zMv D ?_));rw[if_neg (by decide +kernel)];refine xq ⟨plainId_quiet F.plain_extend_loop _,codeAny_extend_loopS W R _ u _ items.size 0 _ _ _ rfl (zero_le _) j r (ItemsOf.nil _) λs' acc' c' hm x g=>?_⟩;have L:Moved (s.heap.objs.size::[I]) (λa b=>b=a) { s with heap:=s.heap.push { cls:=.type "list",data:=.seq #[] } } { s with heap:=(s.heap.push { cls:=.type "list",data:=.seq #[] }).update s.heap.objs.size (Obj.mapSeq (λ_=>(#[]:Array Value))) } :=
  ⟨λb o n e=>k b o (λh=>n (by rw[h];exact q9)) e,rfl,rfl,rfl,le_refl _⟩
 exact⟨rfl,M s' acc' c' (Moved.trans W.gtrans L hm) x g⟩
end
end DL
namespace DL
open PySem Spec PyProof.Rows L2
def zL8 (h:Vals xs us):Vals xs.reverse us.reverse:=by
 induction h with
 | nil=>exact .nil
 | cons r t a =>
  simp;exact a.append (.cons r .nil)
def DenL.rev {K:W.Frag}:∀ {ds:List D} {vs:List V},DenL K H ds vs->DenL K H ds.reverse vs.reverse
 | [],_,h=>by rw[DenL] at h;subst h;exact .nil
 | d::ds,_,h=>by
  rw[DenL] at h;obtain⟨v,ws,rfl,h1,h2⟩:=h;rw[reverse_cons,reverse_cons];exact(DenL.rev h2).append (.cons h1 .nil)
def zNj:bootBuiltins "reversed"=some (.type "reversed"):=by decide
noncomputable def revD:D->Option R
 | .lst xs=>if xs.length<=10000 then some (.lst xs.reverse,.fr) else none
 | _=>none
section
variable {X:Cx}
def zKi {a:List Value}(h:ItemsOf (λi v=>a.toArray[a.toArray.size - 1 - i]?=some v) acc a.toArray.size):acc=a.reverse.toArray:=by
 apply Array.ext';apply ext_getElem?;intro j;obtain⟨h1,h2⟩:=h;by_cases hj:j < acc.size
 .have e:=h2 j _ (Array.getElem?_eq_getElem hj);simp;grind
 .simp_all
def zJC (j:X.calm=true)(G:Gl X "list")(A:X.mg "list"=none)(F:Gl X "reversed")(J:X.mg "reversed"=none)(Z:GE X a f)
  (V:starEach [a] X.env=[(false,eval a X.env)]) :
  GE X (.Call (.Name "list" p) [.Call (.Name "reversed" p2) [a] [] pos2] [] pos) (one f revD):=by
 intro h s B H Q I ⟨S,O,r,T,e,c⟩;obtain⟨x,ex,e⟩:=bind_some e;unfold revD at e;split at e
 .rename_i U L;by_cases ok:U.length<=10000
  .rw [if_pos ok] at e;cases e;refine wpAny_Call_Name_kw (zCy I G A boot_list ?_ (by decide) (by decide));refine PyProof.Rows.callWith_type1 ?_ rfl rfl;show wpAny _ _ (spliced ((false,eval (.Call (.Name "reversed" p2) [a] [] pos2) X.env)::[])) _ _ s;refine Calls.spliced_cons ?_;refine wpAny_Call_Name_kw (zCy I F J zNj ?_ (by decide) (by decide));refine PyProof.Rows.callWith_type1 (thn ((zAX Z zBE V) pos2 h s B H (λvs R=>∃ vx,vs=[vx]/\Same H R/\Rdv X.K R S x.1 vx) I
    ⟨S,O,x,T,ex,λvx D d r1=>⟨vx,rfl,d,r1.rd⟩⟩) λus d ⟨vs,D,v,r1,q1⟩=>?_) V rfl
   obtain⟨vx,rfl,M,P⟩:=q1;rw[L] at P;obtain⟨n,K,rfl,w1,W⟩:=P.lst;obtain⟨u1,rfl,C⟩:=zIh r1;cases C;obtain⟨g,m,E,z1⟩:=v.list w1;have n1:U.length=K.length:=W.length;have m1:=m.length;have w:n < d.heap.objs.size:=by obtain⟨o,q,_⟩:=E.isList;exact lt_size q
   refine call_reversed_list E.isList ?_;refine Calls.spliced_nil ?_;have Y:∀ b o,d.heap.get? b=some o->(d.heap.push (revObj n ((g.toArray.size:Int) - 1))).get? b=some o:=λb o q=>get?_push_of_some _ q
   refine zGA (s:={ d with heap:=d.heap.push (revObj n ((g.toArray.size:Int) - 1)) }) (I:=d.heap.objs.size) (l:=n) (items:=g.toArray) (v.ok.hd j) (ne_of_lt w) ⟨_,get?_push_size _ rfl,rfl,rfl⟩ (E.isList.at λo q=>Y _ o q) (by rw[xj];omega) λs' b4 c' t i y=>?_
   have sz:({ d with heap:=d.heap.push (revObj n ((g.toArray.size:Int) - 1)) }:Shared).heap.objs.size=d.heap.objs.size+1:=Heap.size_push _ _;rw[sz] at t i ⊢;obtain rfl:=zKi y;have kp:∀ b o,d.heap.get? b=some o->s'.heap.get? b=some o:=λb o q=>by
    have N:b < d.heap.objs.size:=lt_size q;refine t.heap b o (λz=>?_) (get?_push_of_some _ (Y b o q));rcases mem_cons.mp z with z | z
    .exact absurd N (by rw[z];exact Nat.not_lt.mpr (Nat.le_succ _))
    .exact absurd N (by rw[mem_singleton.mp z];exact lt_irrefl _)
   have es:s'={ d with heap:=s'.heap,toks:=s'.toks }:=by
    obtain⟨h',g',d',t',o'⟩:=s';have e1:g'=d.gens:=t.gens;have e2:d'=d.drawn:=t.drawn;have e3:o'=d.os:=t.os;subst e1 e2 e3
    rfl
   have fr:D (d.heap.objs.size+1)=none:=v.hok.fresh (Nat.le_succ _);have I2:Inv X h B (upd D (d.heap.objs.size+1) (.lst K.reverse)) { d with heap:=s'.heap,toks:=s'.toks } :=
    v.laid kp (Nat.le_succ _) (show zCj X.prog X.w _ _ _ (.lst K.reverse) from ⟨by rw[List.length_reverse];exact z1,g.reverse,c',zL8 m,i⟩)
   rw[es];refine⟨.ref (d.heap.objs.size+1),_,I2,rfl,c _ _ (M.trans (zAe fr _)) (.lstNew M (T.mono M).sok fr W.rev)⟩
  .rw [if_neg ok] at e;cases e
 .cases e
end
end DL
end
section
namespace DL
open PySem Spec PyProof.Rows L2
section
variable {X:Cx}
noncomputable def augI:Operator->Int->Int->Option Int
 | .Add,a,b=>some (a+b)
 | .Sub,a,b=>some (a - b)
 | _,_,_=>none
noncomputable def augD (op:Operator)(i:Nat)(f:Dst->Option R):Dst->Option Out:=λO=>match O[i]? with
 | some (some (.int a,false))=>(f O).bind λr=>match r.1 with
  | .int b=>(augI op a b).bind λc=>some (.nx (O.set i (some (.int c,false))))
  | _=>none
 | _=>none
def zSo (T:X.N.Nodup)(G:X.N[i]?=some x)(N:Loc X.env.scope x)(h:GE X e f)(U:X.fn x=true\/X.env.scope.names.lookup x=some .local) :
  GS X (.AugAssign (.Name x pos') op e pos) (augD op i f):=λH0=>by
 have A:∀ (g:Int->Int->Int),(∀ a b,augI op a b=some (g a b))->OpR X (inplaceOp op) (rI0 λi j=>.int (g i j))->PS X (.AugAssign (.Name x pos') op e pos) (gS X.K H0 (augD op i f)):=λg F K=>(zRj T G N h (λpins s B H x y v u Q I P D q=>K pins s B H x y v u Q I P D q) U).imp λE B H l=>by
  obtain⟨S,O,o,m,h0,e,p⟩:=l;unfold augD at e;split at e
  .rename_i a q;obtain⟨r,C,e⟩:=bind_some e;obtain⟨d,k⟩:=r;split at e
   .rename_i b z;rw[F] at e;cases e;dsimp only at z;subst z;obtain⟨v,J,E⟩:=m.get i _ _ q;have w:=E.den rfl;rw[Den] at w;subst w;refine⟨_,J,S,O,_,m,C,λy M n r1=>⟨a,b,rfl,r1.rd.int,?_⟩⟩;exact p S _ M ((m.mono n).set (by rw[Den])) (h0.trans (zAR n))
   .cases e
  .cases e
 have R:(∀ a b,augI op a b=none)->PS X (.AugAssign (.Name x pos') op e pos) (gS X.K H0 (augD op i f)):=λhn=>(zFf (X:=X)).imp λE B H c=>by
  obtain⟨S,O,o,m,h0,e,p⟩:=c;unfold augD at e;split at e
  .obtain ⟨r,C,e⟩:=bind_some e;split at e
   .rw [hn] at e;cases e
   .cases e
  .cases e
 cases op with
 | Add=>exact A (·+·) (λ_ _=>rfl) (opI0 λ_ _ _ _ _ _ _ q=>iadd_int q)
 | Sub=>exact A (· - ·) (λ_ _=>rfl) (opI0 λ_ _ _ _ _ _ _ q=>isub_int q)
 | _=>exact R λ_ _=>rfl
theorem zDD:∀ {ns:List Int} {its:List Value},Vals (ns.map V.int) its->∃ ps:List (Int×Tok),its=ps.map (λp=>Value.int p.1 p.2)/\ps.map (·.1)=ns
 | [],[],_=>⟨[],rfl,rfl⟩
 | n::ns,_::_,.cons r t=>by
  obtain⟨ps,rfl,e2⟩:=zDD t;obtain⟨tk,rfl⟩:=r;exact⟨(n,tk)::ps,rfl,by rw[map_cons,e2]⟩
end
section
variable {X:Cx}
theorem RV.str {K:W.Frag}(x:Str):RV K H H' S (.str x,.cl) (.str x):=rfl
inductive T1 where
 | str | int | all | len
 deriving DecidableEq
noncomputable def T1.nm:T1->Str
 | .str => "str"
 | .int => "int"
 | .all => "all"
 | .len => "len"
inductive T2 where
 | add | inn | ix | drp | sw | spl | join | zf | fs (x:Str)
noncomputable def txtD:D->Option Str
 | .int i=>if i.natAbs.log2 < 1920 then some (Str.ofString (toString i)) else none
 | .str x=>if x.length<=10000 then some x else none
 | _=>none
noncomputable def fsD (m:Str)(x y:D):Option R:=(txtD x).bind λa=>(txtD y).bind λb=>if a.length+m.length+b.length<=10000 then some (.str (a++m++b),.cl) else none
end
section
variable {X:Cx}
noncomputable def anyS (sub:Str->Str->Option Bool)(c:Str):List Str->Option Bool
 | []=>some false
 | y::ys=>match sub y c with
  | some true=>some true
  | some false=>anyS sub c ys
  | none=>none
inductive ClsT (X:Cx) (sub:Str->Str->Option Bool):List Str->List Expr->List V->List Value->Prop
 | nil:ClsT X sub [] [] [] []
 | cons {y:Str} {ys:List Str} {p:Pos} {es:List Expr} {v:V} {vs:List V} {u:Value} {us:List Value}:(∀ u',RelV v u'->u'=u)->PE X (.Name y p) (tC v)->(∀ c b,sub y c=some b->∀ C,zBl X.K c C->XCls X.K C/\W.kitOne X.K (.ref C) u=some b) ->
   ClsT X sub ys es vs us->ClsT X sub (y::ys) (.Name y p::es) (v::vs) (u::us)
theorem ClsT.pa (h:ClsT X sub ys es vs us):PA X es (λ_ H Q=>Q vs H):=by
 induction h with
 | nil=>exact zBE
 | cons h1 h2 h3 h4 ih=>exact zAX h2 ih rfl
def ClsT.us {vs:List V}{us ws:List Value}(h:ClsT X sub ys es vs us)(r:Vals vs ws):ws=us:=by
 induction h generalizing ws with
 | nil=>cases r;rfl
 | cons h1 h2 h3 h4 a =>
  cases r with
  | cons r1 r2=>rw[h1 _ r1,a r2]
def ClsT.any {vs:List V}{us:List Value}(h:ClsT X sub ys es vs us){c:Str}{C:Addr}(q:zBl X.K c C):∀ {b:Bool},anyS sub c ys=some b->W.kitAny X.K (.ref C) us=some b:=by
 induction h with
 | nil=>intro b e;exact e
 | cons h1 h2 h3 h4 d =>
  intro b e;unfold anyS at e;unfold W.kitAny;split at e
  .rename_i a;rw[(h3 c true a C q).2];omega
  .rename_i a;simpa [(h3 c false a C q).2] using d e
  .cases e
def ClsT.len {es:List Expr}{vs:List V}{us:List Value}(h:ClsT X sub ys es vs us):vs.length=ys.length:=by
 induction h with
 | nil=>rfl
 | cons h1 h2 h3 h4 a=>rw[xJ,xJ,a]
def rRep (K:W.Frag):R2:=λx y H Q=>∃ l xs i,x=.ref l/\y=.int i/\SqL K H l xs/\0<=i/\i<=10000/\xs.length*i.toNat<=10000/\∀ p,H p=none->Q (.ref p) (upd H p (.lst (List.replicate i.toNat xs).flatten))
theorem zHt (h:Vals vs us):∀ n:Nat,Vals (List.replicate n vs).flatten (List.replicate n us).flatten
 | 0=>.nil
 | n+1=>by rw[replicate_succ,flatten_cons,replicate_succ,flatten_cons];exact h.append (zHt h n)
theorem zLb {K:W.Frag}(h:DenL K H ds vs):∀ n:Nat,DenL K H (List.replicate n ds).flatten (List.replicate n vs).flatten
 | 0=>.nil
 | n+1=>by rw[replicate_succ,flatten_cons,replicate_succ,flatten_cons];exact h.append (zLb h n)
theorem zHT {T:Type}(xs:List T):∀ n:Nat,(List.replicate n xs).flatten.length=xs.length*n
 | 0=>by simp
 | n+1=>by rw[replicate_succ,flatten_cons,qQ,zHT xs n,Nat.mul_succ];omega
def zRx:OpR X (binaryOp .Mult) (rRep X.K):=by
 intro c s B H x y v u Q I m o h;obtain⟨l,r,i,rfl,rfl,j,h0,h1,e,q⟩:=h;cases m;obtain⟨t,rfl⟩:=o;obtain⟨a,g,⟨⟨k,f,d,sl⟩,n,e1,e2,e3,e4⟩,z1⟩:=I.list j;subst e2 e4;have b:a.toArray.size*i.toNat<=10000:=by rw[xj,<- g.length];exact e
 refine wpAny_binaryOp_repeat_ref (T := "list") (U := "int") (by decide) ⟨_,e1,rfl⟩ (λs'=>typeIs_int s' i t) noFill_list_mul F.fills_int_mul F.slot_int_rmul repeat_list F.slot_int_index.lookup ?_;refine call_meets F.slot_int_rmul (typeIs_int s i t) F.entry_int_rmul (F.args_int_rmul_2 _ _) (lm_int_rmul_list_any i t l _ n f sl) ⟨e1,rfl,⟨_,e1,rfl⟩,?_⟩;refine call_meets F.slot_list_mul ⟨_,e1,rfl⟩ F.entry_list_mul (F.args_list_mul_2 _ _) (lm_list_mul_any l _ n f sl i t (by simp[Builtin.List.listFitsIndex];omega) (by omega) (by simp[Builtin.List.listTooLong,sizeLine];rw[xj] at b;omega)) ⟨e1,?_⟩;rw[listMul_foldl_if];exact⟨.ref _,_,I.lnew (zHt g i.toNat) (by rw[zHT];exact zDr e),rfl,q _ I.fresh⟩
end
end DL
end
section
namespace L2
open PySem Spec PyProof.Rows
section
variable {c:Type}[DecidableEq c]
noncomputable def valV (kvs:List (c×V))(k:c):Option V:=(kvs.find? λkv=>decide (kv.1=k)).map (·.2)
noncomputable def putK (kvs:List (c×V))(k:c)(v:V):List (c×V) :=
 if (kvs.any λkv=>decide (kv.1=k))=true then kvs.map (λkv=>if kv.1=k then (kv.1,v) else kv) else kvs++[(k,v)]
end
abbrev KT (H:Hp):List (List Key×V)->List (List Key×Addr×Value)->Prop:=Paired λp q=>p.1=q.1/\H q.2.1=some (.tup (p.1.map kV))/\RelV p.2 q.2.2
def KT.keeps (r:KT H kvs xs)(a:∀ b ys,H b=some (.tup ys)->H' b=some (.tup ys)):KT H' kvs xs :=
 Paired.mapP r λ_ _ z=>⟨z.1,a _ _ z.2.1,z.2.2⟩
section
variable {X:Cx}{pins:List (Addr×Obj)}{B:St}{H:Hp}{s:Shared}{a:Addr}{y v:V}{u r:Value}{o:Option V}{A:Around}{E:Value->Shared->Prop}
def Inv.big (I:Inv X pins B H s):sysModules < s.heap.objs.size:=Nat.lt_trans (by decide) (I.mod.glob.keeps I.bk).lt
end
end L2
end
section
namespace DL
open PySem Spec PyProof.Rows L2
variable {X:Cx}
end DL
end
section
namespace L2
open PySem Spec PyProof.Rows
section
variable {c:Type}[DecidableEq c]
noncomputable def zTb (kvs:List (c×V))(k:c):List (c×V):=kvs.filter λkv=>decide (kv.1≠k)
def KV.any (r:KV kvs vs)(k:c):(kvs.any λkv=>decide (kv.1=k))=vs.any λkv=>decide (kv.1=k):=by
 induction r with
 | nil=>rfl
 | cons h t a=>rw[List.any_cons,List.any_cons,a,h.1]
def KV.drop (r:KV kvs vs)(k:c):KV (zTb kvs k) (without vs k):=by
 unfold zTb without
 induction r with
 | nil=>exact .nil
 | @cons p q ps qs h t ih =>
  obtain⟨h1,h2⟩:=h;rw[filter_cons,filter_cons];by_cases e:p.1=k
  .grind
  .have a:=λz=>e (h1.trans z)
   rw[if_pos (by grind),if_pos (by grind)];exact .cons ⟨h1,h2⟩ ih
theorem KV.length {a:List (c×V)}{vs:List (c×Value)}(r:KV a vs):a.length=vs.length:=Paired.length r
end
def DGet (H:Hp)(a:Addr)(y:V)(r:Option V):Prop :=
 (∃ kvs k,Rd H a (.dK kvs)/\y=kV k/\r=valV kvs k)\/∃ kvs k b,Rd H a (.dT kvs)/\y=.ref b/\H b=some (.tup (k.map kV))/\r=valV kvs k
def DPut (H:Hp)(a:Addr)(y v:V)(H':Hp):Prop :=
 (∃ kvs k,H a=some (.dK kvs)/\y=kV k/\kvs.length < sizeLine/\H'=upd H a (.dK (putK kvs k v))) \/
 ∃ kvs k b,H a=some (.dT kvs)/\y=.ref b/\H b=some (.tup (k.map kV))/\kvs.length < sizeLine/\H'=upd H a (.dT (putK kvs k v))
theorem DGet.k {kvs:List (Key×V)}{k:Key}(e:H a=some (.dK kvs)):DGet H a (kV k) (valV kvs k):=.inl ⟨kvs,k,.inl e,rfl,rfl⟩
theorem DPut.k {kvs:List (Key×V)}{k:Key}{v:V}(e:H a=some (.dK kvs))(hl:kvs.length < sizeLine):DPut H a (kV k) v (upd H a (.dK (putK kvs k v))):=.inl ⟨kvs,k,e,rfl,hl,rfl⟩
def DPut.t {c:List (List Key×V)}{k:List Key}{v:V}(e:H a=some (.dT c))(d:H b=some (.tup (k.map kV)))(f:c.length < sizeLine) :
  DPut H a (.ref b) v (upd H a (.dT (putK c k v))):=.inr ⟨c,k,b,e,rfl,d,f,rfl⟩
end L2
end
section
namespace DL
open PySem Spec PyProof.Rows L2
def zEY (e:h.get? b=some o):zCj P w H h b (.frz o anyU):=⟨e,True.intro,⟨o,e⟩,λ_ _ _ _=>True.intro⟩
theorem zOx (hS:∀ b∈S,∃ o,H b=some (.frz o anyU))(nf:∀ b∈S,b∉fs)(hok:HOk P w H h)(un:Un fs [] (hide H S) H2 h h')(hok2:HOk P w H2 h') :
  ∃ H':Hp,(∀ b∈S,H' b=H b)/\(∀ b,b∉S->H' b=H2 b)/\Same H2 H'/\(∀ b∈S,H2 b=none)/\Un fs [] H H' h h'/\HOk P w H' h':=by
 have there:∀ {b:Addr},b∈S->∃ o,H b=some (.frz o anyU)/\h'.get? b=some o/\H2 b=none:=λ{b} z=>by
  obtain⟨o,e⟩:=hS b z;obtain⟨e1,_⟩:=hok b _ e;exact⟨o,e,un.keep b o e1 (zCC z) (nf b z) (by simp),un.free b o e1 (zCC z) (by simp)⟩
 have nS:∀ {b:Addr} {u:HO},H2 b=some u->b∉S:=λ{b u} e z=>by
  obtain⟨_,_,_,q⟩:=there z;grind
 have nN:∀ {b:Addr},H b=none->b∉S:=λ{b} e z=>by
  obtain⟨_,q,_⟩:=there z;grind
 have hid:∀ {b:Addr},b∉S->hide H S b=H b:=λz=>zAQ z
 obtain⟨H',hin,hout⟩:∃ H':Hp,(∀ b∈S,H' b=H b)/\(∀ b,b∉S->H' b=H2 b):=⟨λb=>if b∈S then H b else H2 b,λb z=>if_pos z,λb z=>if_neg z⟩;have sm:Same H2 H':=λb u e=>by rw[hout b (nS e)];exact e
 refine⟨H',hin,hout,sm,λb z=>(there z).choose_spec.2.2,⟨λb o e n=>un.keep b o e (by rw[hid (nN n)];exact n),λb o e n=>un.slot b o e (by rw[hid (nN n)];exact n),λb o e n hx=>?_,un.there,λb xs e=>?_,λb o u e=>?_,λb q e=>?_⟩,λb u e=>?_⟩
 .rw [hout b (nN n)];exact un.free b o e (by rw[hid (nN n)];exact n) hx
 .have z:b∉S:=λz=>by obtain⟨_,q,_⟩:=there z;rw[q] at e;cases e
  rw[hout b z];exact un.tups b xs (by rw[hid z];exact e)
 .by_cases z:b∈S
  .rw [hin b z];exact e
  .rw [hout b z];exact un.frzs b o u (by rw[hid z];exact e)
 .have z:b∉S:=λz=>by obtain⟨_,q,_⟩:=there z;rw[q] at e;cases e
  rw[hout b z];exact un.tbls b q (by rw[hid z];exact e)
 .by_cases z:b∈S
  .obtain ⟨o,q,g,_⟩:=there z;rw[hin b z,q] at e;cases e;exact zEY g
  .rw [hout b z] at e;exact(hok2 b u e).stay (λ_ _ _ q=>q) (λ_ q=>sm _ _ q) (λ_ _ q=>sm _ _ q) λ_ _ _ q _=>sm _ _ q
theorem zMu (hS:∀ b∈S,∃ o v,H b=some (.frz o anyU)/\o.data=.cell v)(hok:HOk P w H h):HOk P w (hide H S) h:=λb u e=>by
 obtain⟨nb,e1⟩:=zA3 e;have keep:∀ {c:Addr} {v:HO},H c=some v->(∀ o,v≠.frz o anyU)->hide H S c=some v:=λ{c v} q n=>by
  rw[zAQ λz=>?_]
  .exact q
  .obtain ⟨o,_,q2,_⟩:=hS c z;rw[q] at q2;exact n o (xQ q2)
 refine(hok b u e1).stay (λ_ _ _ q=>q) (λc q=>keep q λo z=>nomatch z) (λc xs q=>keep q λo z=>nomatch z) λc ob v q zz76=>?_
 obtain⟨vs,d⟩:=zz76;rw[zAQ λz=>?_]
 .exact q
 .obtain ⟨o,cv,q2,d2⟩:=hS c z;rw[q] at q2;cases q2;rw[d] at d2;cases d2
def zBV.get:∀ {H:Hp} {cl:List (Str×Addr)} {vs:List V},zBV H cl vs->∀ {i:Nat} {v:V},vs[i]?=some v->∃ p o u,cl[i]?=some p/\H p.2=some (.frz o anyU)/\o.data=.cell (some u)/\RelV v u
 | _,_,_,.nil,i,v,e=>by simp at e
 | H,_,_,.cons (a:=p) (b:=v0) ⟨o,u,h1,h2,h3⟩ t,i,v,e=>by
  cases i with
  | zero=>simp at e;subst e;exact⟨p,o,u,by simp,h1,h2,h3⟩
  | succ i =>
   obtain⟨p',o',u',e1,e2⟩:=zBV.get (H:=H) t (i:=i) (v:=v) (by simpa using e);exact⟨p',o',u',by simpa using e1,e2⟩
def zBV.mem (h:zBV H cl vs):∀ p∈cl,∃ o u,H p.2=some (.frz o anyU)/\o.data=.cell (some u):=by
 induction h with
 | nil=>intro p a;exact absurd a (by simp)
 | cons r t b =>
  intro p a;rcases mem_cons.mp a with rfl | a
  .obtain ⟨o,u,h1,h2,_⟩:=r;exact⟨o,u,h1,h2⟩
  .exact b p a
noncomputable def zTf (P:Program)(w:World)(K:W.Frag)(mg:Str->Option Value)(base:Heap)(N:List Str)(L:LamI)(f c:Addr)(cl:List (Str×Addr))(A:Around)(outer:List Env)(s:Shared)(H:Hp):Cx where
 prog:=P
 w:=w
 K:=K
 mg:=mg
 base:=base
 A:=A.deeper (W.envX L.qual L.scope s.heap.objs.size f (.ref c) cl)
 N:=N
 O6:=s
 Y6:=H
 env:=W.envX L.qual L.scope s.heap.objs.size f (.ref c) cl
 outer:=outer
 stack:=W.envX L.qual L.scope s.heap.objs.size f (.ref c) cl::outer
 ex:=[]
 calm:=true
 fn:=λ_=>false
 pn:=[]
 xe:=λ_ _=>False
structure zG4 (x:Str)(ys:List Str)(L:LamI):Prop where
 kind:L.scope.kind=.function
 co:L.scope.isCoroutine=false
 gen:L.scope.isGenerator=false
 nd:(x::ys).Nodup
 par:L.scope.names.lookup x=some .local
 fr:∀ y∈ys,L.scope.names.lookup y=some .free
 all:∀ y,L.scope.names.lookup y=some .free->y∈ys
 nocell:∀ y∈L.scope.names,y.2≠.cell
 bind:∀ cl pm c ctv u,bindArgs (W.kla_fn "<lambda>" L.qual L.params L.body L.scope cl pm c ctv) ⟨[u],[]⟩=pure [(x,u)]
def zGd {ys:List Str}:∀ {cl:List (Str×Addr)},cl.map (·.1)=ys->ys.Nodup->∀ {i:Nat} {p:Str×Addr},cl[i]?=some p->cl.lookup p.1=some p.2/\ys[i]?=some p.1:=λ{cl} h a {i p} e=>by
 refine⟨?_,by rw[<- h,getElem?_map,e];rfl⟩;subst h
 induction cl generalizing i with
 | nil=>simp at e
 | cons q cl c =>
  rw[map_cons,nodup_cons] at a;cases i with
  | zero=>simp at e;subst e;rw[lookup_cons,beq_self_eq_true]
  | succ i =>
   have b:cl[i]?=some p:=by simpa using e
   rw[lookup_cons,beq_eq_false_iff_ne.mpr λz=>a.1 (by rw[<- z];exact mem_map.mpr ⟨p,mem_of_getElem? b,rfl⟩)];exact c b a.2
def zPy {P:Program}{w:World}{K:W.Frag}{mg:Str->Option Value}{base:Heap}{x:Str}{ys:List Str}{L:LamI}{f c:Addr}{cl:List (Str×Addr)}{A:Around}{k:List Env}{s:Shared}{H:Hp}{u:Value}{v:V}{vs:List V}{F:Heap}
  (S:zG4 x ys L) (hd:A.handled=none) (O:A.depth+1+Builtin.pylongFrames < recursionLimit) (d:Env0 P w K mg base A k s H) (r:RelV v u) (I:cl.map (·.1)=ys) (T:(cl.map (·.2)).Nodup) (M:zBV H cl vs)
  (Q:F.Ns s.heap.objs.size (λy=>([(x,u)]:List (Str×Value)).reverse.lookup y)) (X:Heap.SameBut s.heap.objs.size (s.heap.push { cls:=.type "frame",data:=.dict #[] }) F) (tk:Nat) :
  Inv (zTf P w K mg base (x::ys) L f c cl A k s (hide H (cl.map (·.2)))) [] (some v::vs.map some) (hide H (cl.map (·.2))) { s with heap:=F,toks:=tk }:=by
 have G:∀ b o,s.heap.get? b=some o->F.get? b=some o:=λb o e=>X.extBut b o (ne_of_lt (lt_size e)) (get?_push_of_some _ e)
 have hS:∀ b∈cl.map (·.2),∃ o v,H b=some (.frz o anyU)/\o.data=.cell v:=λb z=>by
  obtain⟨p,C,rfl⟩:=mem_map.mp z;obtain⟨o,u,h1,h2⟩:=M.mem p C;exact⟨o,_,h1,h2⟩
 have R:=zMu hS d.hok;have none_of:∀ {b:Addr},H b=none->hide H (cl.map (·.2)) b=none:=λ{b} q=>by
  by_cases z:b∈cl.map (·.2)
  .exact zCC z
  .rw [zAQ z];exact q
 have J:∀ {y:Str} {j:Addr},cl.lookup y=some j->(y,j)∈cl:=λe=>PySem.mem_of_lookup e
 have cell:∀ {y:Str} {j:Addr},(y,j)∈cl->∃ cv,F.IsCell j cv:=λ{y j} m=>by
  obtain⟨o,u,h1,h2⟩:=M.mem _ m;obtain⟨D,_⟩:=d.hok _ _ h1;exact⟨_,o,G _ _ D,h2⟩
 have g:ys.Nodup:=(nodup_cons.mp S.nd).2;have nx:x∉ys:=(nodup_cons.mp S.nd).1;have B:∀ b:Addr,b∉([]:List Addr):=λb z=>absurd z (by simp)
 have lv:vs.length=cl.length:=(Paired.length M).symm;refine⟨⟨d.mod,S.kind,rfl,rfl,le_refl _,λy z j h1 h2=>?_,λy t=>?_,λy j q _=>(by cases q),λ_=>hd,Around.frames_deeper d.frames,.inr ⟨rfl,rfl⟩,λb z=>absurd z (B b),λb o e=>⟨(d.bs b o e).1,none_of (d.bs b o e).2⟩,d.bsz,λb _ _=>B b,λb z=>absurd z (B b),d.funs,λb z=>none_of (d.frf b z),⟨O,d.tree,_,_,rfl,S.gen,S.co,rfl,rfl⟩,λy t j N e=>?_⟩,
  rfl,d.bare,Un.kept G,⟨_,Q,λi y v' h1 h2 h3=>?_⟩,λy j h=>cell (J h),d.hok.fresh (le_refl _) |> none_of,λy j h=>zCC (mem_map.mpr ⟨_,J h,rfl⟩),λp C=>absurd (show p∈([]:List (Addr×Obj)) from C) (by simp),R.kept G,?_⟩
 .-- the cells are apart
  have a1:=J h1;have a2:=J h2;have U:∀ {l:List (Str×Addr)},(l.map (·.2)).Nodup->∀ {p q:Str×Addr},p∈l->q∈l->p.2=q.2->p=q:=by
   intro l nd
   induction l with
   | nil=>intro p q C;exact absurd C (by simp)
   | cons a l ih =>
    grind
  exact congrArg Prod.fst (U T a1 a2 rfl)
 .have E:L.scope.names.lookup y=some .cell\/L.scope.names.lookup y=some .free:=t;rcases E with q | q
  .exact absurd rfl (S.nocell _ (PySem.mem_of_lookup q))
  .have m:=S.all y q;rw[<- I] at m;obtain⟨p,C,rfl⟩:=mem_map.mp m;obtain⟨i,hi,e⟩:=List.getElem_of_mem C;exact⟨p.2,(zGd I g (i:=i) (p:=p) (by rw[<- e];exact getElem?_eq_getElem hi)).1⟩
 .have q:=d.tabs y t j N e;show hide H _ N=_;rw[zAQ λz=>?_]
  .exact q
  .obtain ⟨o,_,Z,_⟩:=hS N z;rw[q] at Z;cases Z
 .cases i with
  | zero =>
   have D:x=y:=by
    have n:(x::ys)[0]?=some y:=h1;simpa using n
   have Y:v=v':=by simpa using h2
   subst D Y;exact⟨u,r,.inl ⟨S.par,by simp⟩⟩
  | succ i =>
   have D:ys[i]?=some y:=by
    have n:(x::ys)[i+1]?=some y:=h1;simpa using n
   have Y:vs[i]?=some v':=by
    simp_all
   obtain⟨p,o,uu,g1,g2,g3,g4⟩:=M.get Y;obtain⟨k1,k2⟩:=zGd I g g1;rw[D] at k2;have ey:y=p.1:=xQ k2;subst ey;obtain⟨g5,_⟩:=d.hok _ _ g2;exact⟨uu,g4,.inr ⟨.inr (S.fr _ (mem_of_getElem? D)),p.2,k1,o,G _ _ g5,g3⟩⟩
 .show (some v::vs.map some).length=(x::ys).length;rw[xJ,xJ,qy,lv,<- I,qy]
def zMr {P:Program}{w:World}{K:W.Frag}{C:Str->Option Value}{base:Heap}{A:Around}{a:List Env}{s:Shared}{H:Hp}{Q:VK}{E:XK}{k:Nat}{f:Addr}{L:LamI}{x:Str}{ys:List Str}{v:V}{u:Value}{vs:List V}
  (m:Room (k+1) A) (d:Env0 P w K C base A a s H) (la:zD6 H L f vs) (G:frN L=ys) (S:zG4 x ys L) (R:RelV v u)
  (i:∀ (c:Addr) (cl:List (Str×Addr)),cl.map (·.1)=ys->zBV H cl vs->(∀ b∈cl.map (·.2),∃ o v,H b=some (.frz o anyU)/\o.data=.cell v)->∃ t:TE,PE (zTf P w K C base (x::ys) L f c cl A a s (hide H (cl.map (·.2)))) L.body t /\
   t (some v::vs.map some) (hide H (cl.map (·.2))) λv' H2=>∀ H',(∀ b∈cl.map (·.2),H' b=H b)->(∀ b,b∉cl.map (·.2)->H' b=H2 b)->Same H2 H'->(∀ b∈cl.map (·.2),H2 b=none)->Q v' H') :
  codeAny (model P w) A (.call (.ref f) ⟨[u],[]⟩) (CR CX0 a P w H s Q E) s:=by
 obtain⟨cl,pm,c,D,Y,u1,h1,h2,h3,h4,h5,h6⟩:=la;rw[G] at h4;obtain⟨Z,_⟩:=d.hok _ _ h1;obtain⟨g2,_⟩:=d.hok _ _ h2;obtain⟨B,ct,U,d2⟩:=h3;have y:∀ b∈cl.map (·.2),∃ o v,H b=some (.frz o anyU)/\o.data=.cell v:=λb z=>by
  obtain⟨p,N,rfl⟩:=mem_map.mp z;obtain⟨o,u,X,q2⟩:=h6.mem p N;exact⟨o,_,X,q2⟩
 refine W.kla_callFunE m.depth Z rfl S.co S.gen rfl ⟨c,Y,B,ct,rfl,g2,U,d2⟩ ?_;rw[S.bind];have l:s.heap.NoLimit:=d.mod.nolimit.keeps λb o e=>(d.bs b o e).1
 refine xq (wpAny_newFunctionEnv S.nocell (λy T=>by rw[mem_singleton.mp T];exact S.par) (λO9 j h=>⟨l.fresh _ h,?_⟩) S.kind);obtain⟨t,M,hq⟩:=i c cl h4 h6 y;have I:=zPy (f:=f) (c:=c) S m.hd (by have:=m.dp;show A.depth+1+100 < _;omega) d R h4 h5 h6 j h (s.toks+1);refine W.kla_codeExpr (wpAny_mono (M [] _ _ _ _ I hq) (λuu F n=>?_) λe F n=>n.elim);obtain⟨v',H2,J,r,q⟩:=n;obtain⟨H',p1,p2,O,p4,un,g⟩:=zOx (P:=P) (w:=w) (fs:=frs a) (S:=cl.map (·.2)) (λb z=>let ⟨o,_,q,_⟩:=y b z;⟨o,q⟩) (λb z z2=>by
  obtain⟨o,_,q,_⟩:=y b z;rw[d.frf b z2] at q;cases q) d.hok J.base J.hok
 exact⟨v',H',J.os,J.bare,un,g,r,q H' p1 p2 O p4⟩
noncomputable def clos:List (Str×NameKind)->List (Str×Addr)->List (Str×Addr)->Option (List (Str×Addr))
 | [],_,acc=>some acc
 | (x,k)::r,cs,acc=>if k==.free then (match cs.lookup x with
  | some c=>clos r cs ((x,c)::acc)
  | none=>none) else clos r cs acc
theorem zHq :∀ {l:List (Str×NameKind)} {acc:List (Str×Addr)},clos l env.cells acc=some cl ->
  (forIn l acc (λ(x:Str×NameKind) (r:List (Str×Addr))=>match x with
   | (name,kind)=>if (kind==.free)=true then (do let c<-cellOf env name;pure (ForInStep.yield ((name,c)::r))) else pure (ForInStep.yield r)):Sem (List (Str×Addr)))=pure cl
 | [],acc,h=>by
  cases h;simp
 | (x,k)::l,acc,h=>by
  unfold clos at h;rw[forIn_cons];by_cases e:(k==NameKind.free)=true
  .rw [if_pos e] at h;split at h
   .rename_i c ec;have:=zHq (l:=l) h;have ce:cellOf env x=pure c:=by unfold cellOf;rw[ec]
    simp only[e,if_true,ce,pure_bind];exact this
   .cases h
  .rw [if_neg e] at h;have:=zHq (l:=l) h;simp only[e,Bool.false_eq_true,if_false,pure_bind];exact this
def zFJ (h:clos sc.names env.cells []=some cl):closureFor sc env=pure cl:=by
 unfold closureFor;have:=zHq h;simp only[bind_pure];omega
def zGJ {a b:Nat}{c:Value}(l:List Value)(h:TriplesOk l):TriplesOk (l++[rawInt a,rawInt b,c]):=by
 fun_induction TriplesOk l with
 | case1=>simp[TriplesOk,rawInt]
 | case2 _ _ _ _ _ d e=>simpa [TriplesOk] using e h
 | case3=>cases h
def zJI {pos:Pos}{a b:Nat}{c d:Value}(l:List Value)(h:TriplesOk l)(e:codeAmong pos (l++[rawInt a,rawInt b,c])=some d):codeAmong pos l=some d\/d=c:=by
 fun_induction TriplesOk l with
 | case1 =>
  simp only[nil_append,rawInt,codeAmong] at e
  simp_all
 | case2 f t j u x g i =>
  simp only[cons_append,codeAmong] at e ⊢;split at e
  .simp_all
  .rename_i z;rw[if_neg z];exact i h e
 | case3=>cases h
section
variable {X:Cx}{pins:List (Addr×Obj)}{B:St}{H:Hp}{s:Shared}
theorem zMq (I:Inv X pins B H s)
  (hd:defaultsOf params X.env=([],[])) (hcl:clos scope.names X.env.cells []=some cl) (hcode:X.env.code=.ref c) (C:W.CodeHd X.base c P) (hP:H P=some (.tbl (X.env.qual ++ "<lambda>")))
  (h:∀ f c' ctv pm oc u1 H1 s',Same H H1->H f=none->H1 f=some (.frz (W.kla_obj "<lambda>" (X.env.qual ++ "<lambda>") params body scope cl pm c' ctv) anyU)->H1 c'=some (.frz oc u1)->zL2 oc (X.env.qual ++ "<lambda>")->Inv X pins B H1 s'->Q (.ref f) s') :
  wpAny (model X.prog X.w) X.A (eval (.Lambda params body scope pos) X.env) Q E s:=by
 refine W.kla_eval hd ?_;have hg:s.heap.Ns mainGlobals X.mg:=I.ok.mod.glob.keeps I.bk;obtain⟨ps,e1,t1,cs⟩:=I.hok P _ hP;have C':=C.keeps I.bk;have hgP:mainGlobals≠P:=λz=>by
  obtain⟨o,es,ep,e,d,_⟩:=hg;rw[z,e1] at e;cases e;cases d
 obtain⟨bm,ob,b1,b2,b3,b4,b5,b6⟩:=I.ok.mod.bm;have b3':=I.bk _ _ b3;have hbm:bm≠mainGlobals:=λz=>by
  obtain⟨o,es,ep,e,d,_⟩:=hg;rw[<- z,b3'] at e;cases e;rw[b6] at d;cases d
 have hbP:bm≠P:=λz=>by
  rw[z,e1] at b3';cases b3';cases b4
 have hb:s.heap.BuiltinsAt X.mg P:=⟨bm,ob,b1,b2,hbm,hbP,b3',b4,b5,b6⟩;cases e:codeAmong pos ps.toList with
 | none =>
  refine W.kla_makeFunction (zFJ hcl) I.ok.glob hg hcode C' e1 t1 e hgP hb λc' ctv h' tk hx hge hlt hrec htb=>?_
  obtain⟨c2,oc,vs,t,q1,q2,q3,q4⟩:=hrec;cases q1;have szh:s.heap.objs.size<=h'.objs.size:=le_trans hge (Nat.le_of_lt hlt);have nc:H c'=none:=I.hok.fresh hge;have nf:H h'.objs.size=none:=I.hok.fresh szh;have ncf:c'≠h'.objs.size:=ne_of_lt hlt;obtain⟨fo,efo⟩:∃ fo:Obj,fo=W.kla_obj "<lambda>" (X.env.qual ++ "<lambda>") params body scope cl ((X.mg "__name__").getD .none) c' ctv:=⟨_,rfl⟩;obtain⟨H1,eH⟩:∃ H1:Hp,H1=upd (upd H c' (.frz oc anyU)) h'.objs.size (.frz fo anyU):=⟨_,rfl⟩;have sm:Same H H1:=λb o q=>by
   rw[eH,zAS (zAp q nf),zAS (zAp q nc)];exact q
  have at1:H1 h'.objs.size=some (.frz fo anyU):=by rw[eH];exact zAd
  have at2:H1 c'=some (.frz oc anyU):=by rw[eH,zAS ncf];exact zAd
  have oth:∀ {b:Addr},b≠c'->b≠h'.objs.size->H1 b=H b:=λ{b} z1 z2=>by rw[eH,zAS z2,zAS z1]
  have kp:∀ b o,b≠P->s.heap.get? b=some o->(h'.push fo).get? b=some o:=λb o z q=>get?_push_of_some _ (hx b o z q)
  have lt:∀ {b:Addr} {o:Obj},s.heap.get? b=some o->b≠c'/\b≠h'.objs.size:=λ{b o} q=>⟨ne_of_lt (xX (lt_size q) hge),ne_of_lt (xX (lt_size q) szh)⟩
  have nP:∀ {b:Addr},H b=none->b≠P:=λ{b} q z=>by rw[z,hP] at q;cases q
  have un:Un X.fs [] H H1 s.heap (h'.push fo):=⟨λb o q n _ _=>kp b o (nP n) q,λb o q n _ _=>⟨o.slots,kp b o (nP n) q⟩,λb o q n _=>by
    obtain⟨z1,z2⟩:=lt q;rw[oth z1 z2];exact n,λb o q _=>by
    by_cases z:b=P
    .subst z;exact⟨_,get?_push_of_some _ htb⟩
    .exact ⟨o,kp b o z q⟩,λb xs q=>sm _ _ q,λb o u q=>sm _ _ q,λb q' q=>sm _ _ q⟩
  have hok:HOk X.prog X.w H1 (h'.push fo):=λb u q=>by
   by_cases z1:b=h'.objs.size
   .subst z1;rw[at1] at q;cases q;exact zEY (get?_push_size _ (by rw[efo];rfl))
   .by_cases z2:b=c'
    .subst z2;rw[at2] at q;cases q;exact zEY (get?_push_of_some _ q2)
    .rw [oth z2 z1] at q;by_cases z3:b=P
     .subst z3;rw[hP] at q;cases q;refine⟨_,get?_push_of_some _ htb,?_,λpos' cv z=>?_⟩
      .rw [Array.toList_append];exact zGJ _ t1
      .rw [Array.toList_append] at z;rcases zJI _ t1 z with z | z
       .obtain ⟨c3,oc3,u3,g1,g2,g3⟩:=cs pos' cv z;exact⟨c3,oc3,u3,g1,sm _ _ g2,g3⟩
       .exact ⟨c',oc,anyU,z,at2,vs,t,q3,q4⟩
     .refine (I.hok b u q).stay (λd v hd w'=>kp d v ?_ w') (λd w'=>sm _ _ w') (λd xs w'=>sm _ _ w') λd o' u' w' _=>sm _ _ w'
      grind
  have I1:=I.un (t':=tk) un hok;rw[efo] at I1 at1;exact h _ c' ctv _ oc anyU H1 _ sm nf at1 at2 ⟨vs,t,q3,q4⟩ I1
 | some cv =>
  obtain⟨c',oc,u1,rfl,hc',co⟩:=cs pos cv e;refine W.kla_makeFunctionHit (zFJ hcl) I.ok.glob hg hcode C' e1 t1 e hb λctv h' tk hk hsz=>?_
  have nf:H h'.objs.size=none:=I.hok.fresh hsz;have I1:=I.laid (a:=h'.objs.size) (o:=.frz (W.kla_obj "<lambda>" (X.env.qual ++ "<lambda>") params body scope cl ((X.mg "__name__").getD .none) c' ctv) anyU) (t':=tk) (λb o q=>get?_push_of_some _ (hk b o q)) hsz (zEY (get?_push_size _ rfl));exact h _ c' ctv _ oc u1 _ _ (zAe nf _) nf zAd (by rw[zAS (zAp hc' nf)];exact hc') co I1
end
end DL
end
section
namespace DL
open PySem Spec PyProof.Rows L2
mutual
noncomputable def noF:D->Bool
 | .lam _ _ _=>false
 | .tup ds=>noFs ds
 | .lst ds=>noFs ds
 | .obj _ _ ds=>noFs ds
 | _=>true
noncomputable def noFs:List D->Bool
 | []=>true
 | d::ds=>noF d&&noFs ds
end
abbrev zRA (H:Hp) (S:List Addr):Prop:=∀ b∈S,∃ o v,H b=some (.frz o anyU)/\o.data=.cell v
section
variable {K:W.Frag}{H:Hp}{S:List Addr}
def zCJ (a:zRA H S)(e:H b=some u)(n:∀ o v,u=.frz o anyU->o.data≠.cell v):hide H S b=some u:=by
 rw[zAQ λz=>?_]
 .omega
 .obtain ⟨o,v,d,c⟩:=a b z
  simp_all
mutual
theorem Den.hideC (hS:zRA H S):∀ {d:D} {v:V},noF d=true->Den K H d v->Den K (hide H S) d v
 | .non,_,_,h=>by rw[Den] at h ⊢;exact h
 | .bl _,_,_,h=>by rw[Den] at h ⊢;exact h
 | .int _,_,_,h=>by rw[Den] at h ⊢;exact h
 | .str _,_,_,h=>by rw[Den] at h ⊢;exact h
 | .tup ds,_,n,h=>by
  rw[noF] at n;rw[Den] at h ⊢;obtain⟨a,vs,h1,h2,h3⟩:=h;refine⟨a,vs,h1,?_,DenL.hideC hS n h3⟩;rcases h2 with (q | ⟨o,q⟩) | q
  .exact .inl (.inl (zCJ hS q λo v z=>nomatch z))
  .exact .inl (.inr ⟨o,zCJ hS q λo v z=>nomatch z⟩)
  .exact .inr q
 | .lst ds,_,n,h=>by
  rw[noF] at n;rw[Den] at h ⊢;obtain⟨a,vs,h1,h2,h3⟩:=h;refine⟨a,vs,h1,?_,DenL.hideC hS n h3⟩;rcases h2 with (q | ⟨o,q⟩) | q
  .exact .inl (.inl (zCJ hS q λo v z=>nomatch z))
  .exact .inl (.inr ⟨o,zCJ hS q λo v z=>nomatch z⟩)
  .exact .inr q
 | .exc c,_,_,h=>by
  rw[Den] at h ⊢;obtain⟨a,o,u,C,h1,h2,h3,⟨vs,h4⟩,h5⟩:=h;exact⟨a,o,u,C,h1,zCJ hS h2 (λo' v z d=>by cases z;rw[h4] at d;cases d),h3,⟨vs,h4⟩,h5⟩
 | .dct ks,_,_,h=>by
  rw[Den] at h ⊢;obtain⟨a,kvs,h1,h2,h3⟩:=h;exact⟨a,kvs,h1,zCJ hS h2 (λo v z=>nomatch z),h3⟩
 | .lam _ _ _,_,n,_=>by rw[noF] at n;cases n
 | .obj c ns ds,_,n,h=>by
  rw[noF] at n;rw[Den] at h ⊢;obtain⟨a,vs,h1,⟨C,dx,gs,h2,h3⟩,h4⟩:=h;exact⟨a,vs,h1,⟨C,dx,gs,zCJ hS h2 (λo v z=>nomatch z),h3⟩,DenL.hideC hS n h4⟩
 | .fn _ x,_,_,h=>by rw[Den] at h ⊢;exact h
theorem DenL.hideC (hS:zRA H S):∀ {ds:List D} {vs:List V},noFs ds=true->DenL K H ds vs->DenL K (hide H S) ds vs
 | [],_,_,h=>by rw[DenL] at h ⊢;exact h
 | d::ds,_,n,h=>by
  rw[noFs,x9] at n;rw[DenL] at h ⊢;obtain⟨v,ws,h1,h2,h3⟩:=h;exact⟨v,ws,h1,Den.hideC hS n.1 h2,DenL.hideC hS n.2 h3⟩
end
end
def zFQ (P:Program)(w:World)(K:W.Frag)(mg:Str->Option Value)(base:Heap)(k:Nat)(L:LamI)(F:List D->Option R):Prop :=
 ∀ (A:Around) (outer:List Env) (s:Shared) (H:Hp) (f:Addr) (vs:List V) (ds:List D) (v:V) (u:Value) (d:D) (r:R) (Q:VK) (E:XK),Room k A->Env0 P w K mg base A outer s H->zD6 H L f vs->DenL K H ds vs->RelV v u->Den K H d v->F (d::ds)=some r->r.2≠.dt ->
  (∀ v' H',Same H H'->RV K H H' [] r v'->Q v' H')->codeAny (model P w) A (.call (.ref f) ⟨[u],[]⟩) (CR CX0 outer P w H s Q E) s
def zFQ.mono {K:W.Frag}(h:zFQ P w K mg base j L F)(e:j<=k):zFQ P w K mg base k L F :=
 λA a s H f b g v u d r Q E c=>h A a s H f b g v u d r Q E (c.mono e)
def zPm {K:W.Frag}(S:zG4 x ys L)(T:frN L=ys)
  (hb:∀ Y:Cx,Y.prog=P->Y.w=w->Y.K=K->Y.mg=mg->Y.base=base->Room k Y.A->Y.calm=true->Y.N=x::ys->Y.env.scope=L.scope->Y.xe=(λ_ _=>False)->GE Y L.body G) :
  zFQ P w K mg base (k+1) L (λds=>if ds.length=ys.length+1/\noFs ds=true then G (ds.map λd=>some (d,false)) else none):=by
 intro A t s H f vs ds v u d r Q E J U la O rv Z h hk c;replace h:(if (d::ds).length=ys.length+1/\noFs (d::ds)=true then G ((d::ds).map λd=>some (d,false)) else none)=some r:=h;have q:=Classical.byContradiction λz=>by rw[if_neg z] at h;cases h
 rw[if_pos q] at h;have F:=q.2;rw[noFs,x9] at F;refine zMr J U la T S rv λcc cl a7 hc N=>⟨_,hb _ rfl rfl rfl rfl rfl (J.deeper _) rfl rfl rfl rfl,?_⟩
 have m:=Den.hideC N F.1 Z;have B:=DenL.hideC N F.2 O;refine⟨[],(d::ds).map λd=>some (d,false),r,⟨?_,λa z=>absurd z (by simp),λi g o z=>?_,λi j g e' a l _ _ _=>?_⟩,h,λv' V s2 r2 y p1 p2 n p4=>?_⟩
 .rw [qy,xJ,xJ,qy,O.length]
 .rw [getElem?_map] at z;obtain⟨d2,l,C⟩:=yq.mp z;cases C;cases i with
  | zero =>
   have:d=g:=by simpa using l
   subst this;exact⟨v,rfl,.of_den (by rw[zCB];exact m)⟩
  | succ i =>
   have p:ds[i]?=some g:=by simpa using l
   obtain⟨R,g1,g2⟩:=B.get p;exact⟨R,by show (vs.map some)[i]?=_;rw[getElem?_map,g1];rfl,.of_den (by rw[zCB];exact g2)⟩
 .rw [getElem?_map] at l;obtain⟨d2,_,C⟩:=yq.mp l;cases C
 .have X:Same H y:=λb o e=>by
   by_cases z:b∈cl.map (·.2)
   .rw [p1 b z];exact e
   .rw [p2 b z];exact s2 b o (by rw[zAQ z];exact e)
  refine c v' y X ?_;obtain⟨g,kd⟩:=r;cases kd with
  | cl =>
   have z:Den K (hide V []) g v':=r2;show Den K (hide y []) g v';rw[zCB] at z ⊢;exact z.mono n
  | fr =>
   obtain⟨a,ws,es,m,B,e3,I,D,e6⟩:=r2;have na:a∉cl.map (·.2):=λz=>by rw[p4 a z] at D;cases D
   refine⟨a,ws,es,m,B,e3,by rw[zAQ na] at I;exact I,n _ _ D,e6.mono (zAR n)⟩
  | dt=>exact absurd rfl hk
open Classical in
noncomputable def lamF (lm:List (LamI×(List D->Option R)))(j:Nat)(L:LamI)(ds:List D):Option R:=match lm[j]? with
 | some (L',F)=>if L'=L then F ds else none
 | none=>none
noncomputable def fnvF (fns:List (Str×(List D->Option R)))(n:Nat)(x:Str)(ds:List D):Option R:=match fns[n]? with
 | some (y,F)=>if y=x then F ds else none
 | none=>none
noncomputable def zEk (lm:List (LamI×(List D->Option R)))(fns:List (Str×(List D->Option R)))(i:Nat)(f:Dst->Option R):Dst->Option R:=λO=>match O[i]? with
 | some (some (.fn n y,false))=>(f O).bind λx=>if x.2=.dt then none else (fnvF fns n y [x.1]).bind λr=>if r.2=.dt then none else some r
 | some (some (.lam j L ds,false))=>(f O).bind λx=>if x.2=.dt then none else (lamF lm j L (x.1::ds)).bind λr=>if r.2=.dt then none else some r
 | _=>none
variable {X:Cx}
def zM9 (LR:∀ (j:Nat) L F,lm[j]?=some (L,F)->zFQ X.prog X.w X.K X.mg X.base k L F)(FR:∀ x F,(x,F)∈fns->∃ f fd ps,FnOk X.prog X.w X.K X.mg X.base CX0 k f fd ps (spD X.K F)/\X.mg x=some (.ref f)/\W.keepIn X.K (.ref f)=true/\zBJ X.K fd ps [])(hr:Room k X.A)(hN:X.N[i]?=some y)(hv:Vis X.env.scope y)(hd:(y==("__debug__":Str))=false)(K:(y==("__classdict__":Str))=false)
  (ha:GE X a f) (he:starEach (a::[]) X.env=(false,eval a X.env)::starEach [] X.env) (px:PassesOwn (model X.prog X.w) X.A X.env X.xe:=by assumption):GE X (.Call (.Name y p) [a] [] pos) (zEk lm fns i f):=by
 intro h s B H Q I ⟨S,O,z,C,e,c⟩;unfold zEk at e;split at e
 .rename_i n x0 q;obtain⟨x,ex,e⟩:=bind_some e;by_cases hx:x.2=.dt
  .rw [if_pos hx] at e;cases e
  rw[if_neg hx] at e;obtain⟨r,b,e⟩:=bind_some e;by_cases hk:r.2=.dt
  .rw [if_pos hk] at e;cases e
  rw[if_neg hk] at e;cases e;obtain⟨v0,q1,q2⟩:=C.get i _ false q;have R:=q2.den rfl;rw[Den] at R;obtain⟨m,rfl,cn⟩:=R;unfold fnvF at b;split at b
  .rename_i y' F el;have U:y'=x0:=Classical.byContradiction λz=>by rw[if_neg z] at b;cases b
   rw[if_pos U] at b;subst U;obtain⟨f1,fd,ps,FO,hm,b7,hb⟩:=FR _ F (mem_of_getElem? el);have T:X.mg y'=some (.ref m):=W.mg_of I.ok.mod.kin I.ok.mod.glob cn;rw[hm] at T;cases T;refine wpAny_Call_Name_kw (thn (zDK hN hv hd K h s B H (λx g=>x=.ref m/\g=H) I ⟨_,q1,rfl,rfl⟩) λu t N=>?_);obtain⟨x1,g,Z,rx,e1,e2⟩:=N;subst e1 e2;obtain rfl:u=Value.ref m:=rx;refine W.callWith_K (h₀:=X.base) Z.ok.mod.kin b7 (thn (zAX ha zBE he pos h t B _ (λvs l=>spD X.K F (vs++[]) l Q E0) Z ?_) λus o A=>by obtain⟨vs,l,D,rr,qq⟩:=A;exact⟨D.kIn,zE1 FO hr hb .nil zHH D rr qq⟩) he rfl;refine⟨S,O,x,C,ex,λvx l o r2=>?_⟩;exact⟨S,[x.1],_,(C.mono o).sok,.cons (RV.den (d:=x.1) (k:=x.2) r2 hx) .nil,b,hk,λv H' J r3=>c v H' (o.trans J) (r3.from o)⟩
  .cases b
 .rename_i j L dl q;obtain⟨x,ex,e⟩:=bind_some e;by_cases hx:x.2=.dt
  .rw [if_pos hx] at e;cases e
  rw[if_neg hx] at e;obtain⟨r,b,e⟩:=bind_some e;by_cases hk:r.2=.dt
  .rw [if_pos hk] at e;cases e
  rw[if_neg hk] at e;cases e;obtain⟨v0,q1,q2⟩:=C.get i _ false q;have R:=q2.den rfl;rw[Den] at R;obtain⟨m,vs,rfl,la,b1⟩:=R;unfold lamF at b;split at b
  .rename_i L' F el;have U:L'=L:=Classical.byContradiction λz=>by rw[if_neg z] at b;cases b
   rw[if_pos U] at b;subst U;have G:∀ {g:Hp} {t:Shared},zD6 g L' m vs->HOk X.prog X.w g t.heap->W.FnAt m t.heap:=λ{g t} la a9=>by
    obtain⟨cl,pm,c',d6,oc,u1,g1,_⟩:=la;obtain⟨g2,_⟩:=a9 _ _ g1;exact⟨_,_,_,_,g2⟩
   refine wpAny_Call_Name_kw (thn (zDK hN hv hd K h s B H (λx g=>x=.ref m/\g=H) I ⟨_,q1,rfl,rfl⟩) λu t M=>?_);obtain⟨x1,g,Z,rx,e1,e2⟩:=M;subst e1 e2;obtain rfl:u=Value.ref m:=rx;have b4:gT X.K f B g λvx l=>Same g l/\RV X.K g l S x vx:=⟨S,O,x,C,ex,λvx l o r2=>⟨o,r2⟩⟩
   refine W.callWith_F (G (la.mono zAf) Z.hok) (thn (zAX ha zBE he pos h t B _ (λxs l=>∃ vx,xs=[vx]/\Same g l/\RV X.K g l S x vx) Z (by
    obtain⟨S',O1,r',g1,g2,g3⟩:=b4;exact⟨S',O1,r',g1,g2,λvx l o r2=>⟨vx,rfl,g3 vx l o r2⟩⟩)) λus o ⟨xs,l,D,a7,vx,a5,P,b3⟩=>?_) he
   subst a5;obtain⟨uu,rfl,c0⟩:=zIh a7;have V:zD6 (hide l S) L' m vs:=la.mono (zAR P);refine⟨G (V.mono zAf) D.hok,?_⟩;refine wpAny_call (codeAny_mono (zEZ (r:=z) (Q:=Q) (E:=E0) D.env0 (C.mono P).sok hk (λe1=>LR j L' F el _ _ _ _ m vs dl vx uu x.1 z _ _ hr e1 V (b1.mono (zAR P)) c0 (RV.den (d:=x.1) (k:=x.2) b3 hx) b hk λv' H' J r3=>⟨r3,J⟩) λv H' J r3=>c v H' (P.trans J) (r3.from P)) λrr s' hq=>?_);cases rr with
   | error e=>exact hq.elim
   | ok fl =>
    cases fl with
    | ret u=>exact D.after hq
    | next=>exact False.elim hq
    | brk=>exact False.elim hq
    | cont=>exact False.elim hq
  .cases b
 .cases e
noncomputable def zGt (fns:List (Str×(List D->Option R)))(i:Nat)(g:Dst->Option (List D)):Dst->Option R:=λO=>match O[i]? with
 | some (some (.fn n y,false))=>(g O).bind λds=>(fnvF fns n y ds).bind λr=>if r.2=.dt then none else some r
 | _=>none
def zM8 {k i:Nat}{j:List (Str×(List D->Option R))}{y:Str}{a:Expr}{es:List Expr}{g:Dst->Option (List D)}{p pos:Pos}(FR:∀ x F,(x,F)∈j->∃ f fd ps,FnOk X.prog X.w X.K X.mg X.base CX0 k f fd ps (spD X.K F)/\X.mg x=some (.ref f)/\W.keepIn X.K (.ref f)=true/\zBJ X.K fd ps [])(hr:Room k X.A)(hN:X.N[i]?=some y)(Y:Vis X.env.scope y)(hd:(y==("__debug__":Str))=false)(E:(y==("__classdict__":Str))=false)
  (ha:GA X (a::es) g) (he:starEach (a::es) X.env=(false,eval a X.env)::starEach es X.env) (G:∀ pos,(backTo pos (starEach es X.env)).any (·.1)=false) (px:PassesOwn (model X.prog X.w) X.A X.env X.xe:=by assumption):GE X (.Call (.Name y p) (a::es) [] pos) (zGt j i g):=by
 intro b s B H Q I ⟨S,O,z,A,e,c⟩;unfold zGt at e;split at e
 .rename_i n x0 q;obtain⟨K,ex,e⟩:=bind_some e;obtain⟨r,d,e⟩:=bind_some e;by_cases hk:r.2=.dt
  .rw [if_pos hk] at e;cases e
  rw[if_neg hk] at e;cases e;obtain⟨v0,q1,q2⟩:=A.get i _ false q;have T:=q2.den rfl;rw[Den] at T;obtain⟨w,rfl,cn⟩:=T;unfold fnvF at d;split at d
  .rename_i M F el;have P:M=x0:=Classical.byContradiction λz=>by rw[if_neg z] at d;cases d
   rw[if_pos P] at d;subst P;obtain⟨f1,fd,ps,FO,V,t,hb⟩:=FR _ F (mem_of_getElem? el);have m:X.mg M=some (.ref w):=W.mg_of I.ok.mod.kin I.ok.mod.glob cn;rw[V] at m;cases m;refine wpAny_Call_Name_kw (thn (zDK hN Y hd E b s B H (λx N=>x=.ref w/\N=H) I ⟨_,q1,rfl,rfl⟩) λu s1 l=>?_);obtain⟨x1,N,L,rx,e1,e2⟩:=l;subst e1 e2;obtain rfl:u=Value.ref w:=rx;refine W.callWith_K (h₀:=X.base) L.ok.mod.kin t (thn (ha pos b s1 B _ (λvs C=>spD X.K F (vs++[]) C Q E0) L ⟨S,O,K,A,ex,λvs C o dl=>⟨S,K,_,(A.mono o).sok,by rw[append_nil];exact dl,d,hk,λv U s3 r3=>c v U (o.trans s3) (r3.from o)⟩⟩) λus o h=>by obtain⟨vs,C,J,rr,qq⟩:=h;exact⟨J.kIn,zE1 FO hr hb .nil zHH J rr qq⟩) he (G pos)
  .cases d
 .cases e
end DL
end
section
namespace DL
open PySem Spec PyProof.Rows L2
variable {X:Cx}
noncomputable def fldD (ob:List (Str×Str×Option Bool))(f:Str):D->Option R
 | .obj c ns l=>if (c,f,none)∈ob then ((ns.zip l).lookup f).map λd=>(d,.cl) else none
 | _=>none
theorem zK6 {K:W.Frag}{gs:List (Str×V)}:∀ {ns:List Str} {vs:List V} {l:List D},(ns.map λn=>gs.lookup n)=vs.map some->DenL K H l vs->(ns.zip l).lookup f=some d->∃ v,gs.lookup f=some v/\Den K H d v
 | [],_,_,_,_,e=>by simp at e
 | n::ns,vs,[],_,_,e=>by simp at e
 | n::ns,vs,x::l,h,t,e=>by
  rw[DenL] at t;obtain⟨v,us,rfl,t1,t2⟩:=t;simp only[map_cons,List.cons.injEq] at h;rw[List.zip_cons_cons,lookup_cons] at e;by_cases q:(f==n)=true
  .rw [q] at e;cases e;exact⟨v,by rw[eq_of_beq q];exact h.1,t1⟩
  .rw [Bool.not_eq_true] at q;rw[q] at e;exact zK6 h.2 t2 e
theorem Rdv.obj {K:W.Frag}(h:Rdv K H S (.obj c ns l) v):Den K (hide H S) (.obj c ns l) v:=by
 rcases h with h | ⟨_,_,_,_,h2,_⟩
 .omega
 .cases h2
def zS6 (h:GE X e g)(o:attributeBase e fl X.env (eval e X.env)=eval e X.env)(j:∀ c,(c,fl,none)∈ob->∀ C,zBl X.K c C->Cls X.K C/\zBT X.K C fl):GE X (.Attribute e fl pos) (one g (fldD ob fl)):=by
 refine(zN9 h o).imp λB H Q b=>?_
 obtain⟨S,O,z,r,e,c⟩:=b;obtain⟨x,t,e⟩:=bind_some e;unfold fldD at e;split at e
 .rename_i f D l s;by_cases m:(f,fl,none)∈ob
  .rw [if_pos m] at e;obtain⟨d,k,u⟩:=yq.mp e;cases u;refine⟨S,O,x,r,t,λvx n A r1=>?_⟩;have r2:=r1.rd;rw[s] at r2;have r3:=r2.obj;rw[Den] at r3;obtain⟨a,E,rfl,⟨C,p,w,h1,h2,h3,h4⟩,h5⟩:=r3;obtain⟨v,q,i⟩:=zK6 h4 h5 k;obtain⟨y,B⟩:=j f m C h3;exact⟨a,C,p,w,v,rfl,zAf _ _ h1,y,B,q,c v n A i⟩
  .rw [if_neg m] at e;cases e
 .cases e
structure OCls (K:W.Frag)(C:Addr):Prop where
 cl:Cls K C
 ha:W.findIn K (.ref C) "__class__"=some (some (.builtin "object.__class__"))
 hm:W.mroIn K C (.type "object")=some true
 hn:W.specialIn K (.builtin "object.__class__") "__get__"=some (some (.builtin "getset_descriptor.__get__"))
 htk:W.takesIn K (.builtin "object.__class__")=some true
def ObOk (K:W.Frag)(mg:Str->Option Value)(p:Str×Str×Option Bool):Prop:=match p.2.2 with
 | none=>∀ C,zBl K p.1 C->Cls K C/\zBT K C p.2.1
 | some b=>∃ Y,mg p.2.1=some (.ref Y)/\∀ C,zBl K p.1 C->OCls K C/\W.kitOne K (.ref C) (.ref Y)=some b
end DL
end
section
namespace DL
open PySem Spec PyProof.Rows L2
set_option genSizeOf false in
set_option genInjectivity false in
inductive E where
 | var (i:Nat) | glob (n:Nat) (x:Str) | int (i:Int) | bl (b:Bool) | non | str (x:Str)
 | bin (op:Operator) (a b:E) | neg (a:E) | not (a:E) | cmp (op:CmpOp) (a b:E)
 | andl (es:E) | orl (es:E) | ite (c a b:E) | tup (es:E) | lst (es:E) | ix (a i:E) | sl (a lo hi:E)
 | comp1 (n:Nat) (ms:List Nat) (x:Str) (src c elt:E) 
 | lzip (a b:E)
 | it (e:E) | r1 (a:E) | r2 (a b:E) | r3 (a b c:E)
 | call (n:Nat) (f:Str) (es:E) | len (a:E) | abs (a:E) | list (a:E) | max (a b:E) | isi (t:Ty) (a:E) | chn (op op':CmpOp) (a b c:E) | tupl (a:E) | lrev (a:E) | callv (i:Nat) (a:E) | callw (i:Nat) (es:E) | fld (a:E) (f:Str) 
 | nil | cons (e es:E)
set_option genSizeOf false in
set_option genInjectivity false in
inductive S where
 | nil | cons (a b:S) | frz (i:Nat) (rest:S)
 | set (i:Nat) (e:E) | setC (i:Nat) (e:E) | app (i:Nat) (e:E) 
 | ife (c:E) (a b:S) | whl (c:E) (b:S) | for1 (i:Nat) (it:E) (b:S) 
 | ret (e:E) | retOwn (i:Nat) | never | ext (i:Nat) (e:E) | aug (op:Operator) (i:Nat) (e:E) | rse (c:Str) (m:E) 
structure Gm where
 fns:List (Str×(List D->Option R))
 cs:List (Str×D)
 xf:List (Str×(List D->Option Str))
 sub:List (Str×Str×Bool)
 rs:List Str
 lm:List (LamI×(List D->Option R))
 ob:List (Str×Str×Option Bool)
open Classical in
def mulD (i j:Int):Option R:=if IntMulOk i j then some (.int (i*j),.cl) else none
open Classical in
def zQS (i j:Int):Option R:=if zJL i j then some (.int (i.fdiv j),.cl) else none
noncomputable def binD (op:Operator)(x y:D):Option R:=match op with
 | .Add=>(match x,y with
  | .int i,.int j=>some (.int (i+j),.cl)
  | .lst xs,.lst ys=>if xs.length+ys.length<=10000 then some (.lst (xs++ys),.fr) else none
  | .tup (x::xs),.tup (y::ys)=>if (x::xs).length+(y::ys).length<=10000 then some (.tup ((x::xs)++(y::ys)),.cl) else none
  | _,_=>none)
 | .Sub=>(match x,y with
  | .int i,.int j=>some (.int (i - j),.cl)
  | _,_=>none)
 | .Mult=>(match x,y with
  | .int i,.int j=>mulD i j
  | .lst xs,.int j=>if 0<=j/\j<=10000/\xs.length*j.toNat<=10000 then some (.lst (List.replicate j.toNat xs).flatten,.fr) else none
  | _,_=>none)
 | .FloorDiv=>(match x,y with
  | .int i,.int j=>zQS i j
  | _,_=>none)
 | .Mod=>(match x,y with
  | .int i,.int j=>if j=0 then none else some (.int (i.fmod j),.cl)
  | _,_=>none)
 | .Pow=>(match x,y with
  | .int i,.int j=>if 0<=j/\j<=1000000/\i.natAbs < 2^64 then some (.int (i^j.toNat),.cl) else none
  | _,_=>none)
 | _=>none
def cmpD (op:CmpOp)(x y:D):Option R:=match op with
 | .Lt=>(match x,y with
  | .int i,.int j=>some (.bl (decide (i < j)),.cl)
  | _,_=>none)
 | .LtE=>(match x,y with
  | .int i,.int j=>some (.bl (decide (i<=j)),.cl)
  | _,_=>none)
 | .Gt=>(match x,y with
  | .int i,.int j=>some (.bl (decide (j < i)),.cl)
  | _,_=>none)
 | .GtE=>(match x,y with
  | .int i,.int j=>some (.bl (decide (j<=i)),.cl)
  | _,_=>none)
 | .Eq=>eqD id x y
 | .NotEq=>eqD (λb=>!b) x y
 | .Is=>isN id x y
 | .IsNot=>isN (λb=>!b) x y
 | _=>none
noncomputable def zD4 (J:Gm)(n:Nat)(x:Str):Dst->Option R:=λ_=>match J.cs[n]? with
 | some (y,d)=>if y=x then some (d,.cl) else none
 | none=>none
noncomputable def fnD (J:Gm)(n:Nat)(x:Str)(g:Dst->Option (List D)):Dst->Option R:=λO=>match J.fns[n]? with
 | some (y,F)=>if y=x then zJG F g O else none
 | none=>none
noncomputable def tg1 (i:Nat):D->Dst->Option Dst:=λd O=>some (O.set i (some (d,false)))
mutual
def evE (J:Gm):E->Dst->Option R
 | .var i=>varD i
 | .glob n x=>zD4 J n x
 | .int i=>λ_=>some (.int i,.cl)
 | .bl b=>λ_=>some (.bl b,.cl)
 | .non=>λ_=>some (.non,.cl)
 | .str x=>λ_=>some (.str x,.cl)
 | .bin op a b=>two (evE J a) (evE J b) (binD op)
 | .neg a=>negD (evE J a)
 | .not a=>notD (evE J a)
 | .cmp op a b=>two (evE J a) (evE J b) (cmpD op)
 | .andl es=>evAnd J es
 | .orl es=>evOr J es
 | .ite c a b=>iteD (evE J c) (evE J a) (evE J b)
 | .tup es=>tupD (evEs J es)
 | .lst es=>lstD (evEs J es)
 | .ix a i=>two (evE J a) (evE J i) ixD
 | .sl a lo hi=>slD (evE J a) (evO J lo) (evO J hi)
 | .call n f es=>fnD J n f (evEs J es)
 | .len a=>one (evE J a) lenD
 | .abs a=>one (evE J a) absD
 | .list a=>one (evE J a) zHS
 | .max a b=>two (evE J a) (evE J b) maxD
 | .isi t a=>one (evE J a) (isiF t)
 | .chn op op' a b c=>chD (cmpD op) (cmpD op') (evE J a) (evE J b) (evE J c)
 | .tupl a=>one (evE J a) zEx
 | .lrev a=>one (evE J a) revD
 | .callv i a=>zEk J.lm J.fns i (evE J a)
 | .callw i es=>zGt J.fns i (evEs J es)
 | .fld a f=>one (evE J a) (fldD J.ob f)
 | .comp1 n ms _ src c e=>zF5 ms 1 (evI J src) (tg1 n) (evC J c) (evE J e)
 | .lzip a b=>two (evE J a) (evE J b) zipD
 | .it _=>λ_=>none
 | .r1 _=>λ_=>none
 | .r2 _ _=>λ_=>none
 | .r3 _ _ _=>λ_=>none
 | .nil=>λ_=>none
 | .cons _ _=>λ_=>none
def evI (J:Gm):E->Dst->Option (List D)
 | .it e=>zDP (evE J e)
 | .r1 a=>zFc (evE J a)
 | .r2 a b=>zGS (evE J a) (evE J b)
 | .r3 a b c=>zFb (evE J a) (evE J b) (evE J c)
 | _=>λ_=>none
def evC (J:Gm):E->Dst->Option Bool
 | .nil=>λ_=>some true
 | .cons c _=>asB (evE J c)
 | _=>λ_=>none
def evEs (J:Gm):E->Dst->Option (List D)
 | .nil=>λ_=>some []
 | .cons e es=>zHn (evE J e) (evEs J es)
 | _=>λ_=>none
def evLs (J:Gm):E->Dst->Option (List D)
 | .nil=>λ_=>some []
 | .cons e es=>zTk (evE J e) (evLs J es)
 | _=>λ_=>none
def evAnd (J:Gm):E->Dst->Option R
 | .cons e es=>(match es with
  | .nil=>evE J e
  | es=>andD (evE J e) (evAnd J es))
 | _=>λ_=>none
def evOr (J:Gm):E->Dst->Option R
 | .cons e es=>(match es with
  | .nil=>evE J e
  | es=>orD (evE J e) (evOr J es))
 | _=>λ_=>none
def evO (J:Gm):E->Dst->Option (Option Int)
 | .cons e _=>zFj (evE J e)
 | _=>λ_=>some none
end
noncomputable def xvS (J:Gm):S->Dst->Option Str:=λ_ _=>none
noncomputable def xvSs (J:Gm):S->Dst->Option Str:=λ_ _=>none
mutual
noncomputable def evS (J:Gm):S->Dst->Option Out
 | .set i e=>setD i (evE J e)
 | .setC i e=>setD i (evE J e)
 | .app i e=>appD i (evE J e)
 | .ext i e=>extD i (evE J e)
 | .aug op i e=>augD op i (evE J e)
 | .ife c a b=>ifD (asB (evE J c)) (evSs J a) (evSs J b)
 | .whl c b=>zBW (asB (evE J c)) (evSs J b)
 | .for1 i it b=>λO=>(evI J it O).bind λxs=>forD (tg1 i) (evSs J b) xs O
 | .ret e=>retD (evE J e)
 | .retOwn i=>zDY i
 | .nil=>λ_=>none
 | .cons _ _=>λ_=>none
 | .frz _ _=>λ_=>none
 | .never=>λ_=>none
 | .rse _ _=>λ_=>none
noncomputable def evSs (J:Gm):S->Dst->Option Out
 | .nil=>λO=>some (.nx O)
 | .cons a b=>seqD (evS J a) (evSs J b)
 | .frz i r=>seqD (frzD i) (evSs J r)
 | _=>λ_=>none
end
noncomputable def visB (sc:Scope)(x:Str):Bool:=match sc.names.lookup x with
 | some .local=>true
 | some .cell=>true
 | some .free=>true
 | _=>false
noncomputable def locB (sc:Scope)(x:Str):Bool:=match sc.names.lookup x with
 | some .local=>true
 | some .cell=>true
 | _=>false
noncomputable def glB (sc:Scope)(x:Str):Bool:=match sc.names.lookup x with
 | some .globalImplicit=>true
 | _=>false
noncomputable def okN (x:Str):Bool:=!(x==("__debug__":Str))&&!(x==("__classdict__":Str))
noncomputable def zAY:Expr->Bool
 | .Starred _ _=>false
 | _=>true
noncomputable def zHK:Expr->Bool
 | .Slice _ _ _ _=>false
 | _=>true
noncomputable def zH6:Expr->Bool
 | .ListComp _ _ _ _=>false
 | .SetComp _ _ _ _=>false
 | .DictComp _ _ _ _ _=>false
 | _=>true
noncomputable def zKI:Expr->Bool
 | .Set _ _ _=>false
 | _=>true
noncomputable def bltB (sc:Scope)(bs:List Str)(x:Str):Bool:=glB sc x&&bs.contains x
noncomputable def opB (op op':Operator):Bool:=decide (op=op')
noncomputable def cmB (op op':CmpOp):Bool:=decide (op=op')
noncomputable def cscB (sc scope:Scope):Bool:=(scope.kind==.function)&&decide ((scope.names.map (·.1)).Nodup)&&scope.names.all λx=>!(x.2==.free)||sc.names.lookup x.1==some .cell||sc.names.lookup x.1==some .free
noncomputable def zMe (scope:Scope)(N:List Str)(ms:List Nat):Bool:=(List.range N.length).all λi=>!(ownB scope (N.getD i (noN N)))||ms.contains i
noncomputable def zSC:Expr->Bool
 | .Name _ _=>true
 | _=>false
noncomputable def zA0 (e:Expr)(k:Str->Pos->Bool):Bool:=match e with
 | .Name x0 x1=>k x0 x1
 | _=>false
def zAN (h:zA0 e k=true):∃ x0 x1,e=.Name x0 x1/\k x0 x1=true:=by
 cases e<;>first | exact⟨_,_,rfl,h⟩ | exact nof h
noncomputable def zB0 (e:Expr)(k:Const->Nat->Pos->Bool):Bool:=match e with
 | .Constant x0 x1 x2=>k x0 x1 x2
 | _=>false
def zBY (h:zB0 e k=true):∃ x0 x1 x2,e=.Constant x0 x1 x2/\k x0 x1 x2=true:=by
 cases e<;>first | exact⟨_,_,_,rfl,h⟩ | exact nof h
noncomputable def zKF (e:Expr)(k:Expr->Operator->Expr->Pos->Bool):Bool:=match e with
 | .BinOp x0 x1 x2 x3=>k x0 x1 x2 x3
 | _=>false
def zIz (h:zKF e k=true):∃ x0 x1 x2 x3,e=.BinOp x0 x1 x2 x3/\k x0 x1 x2 x3=true:=by
 cases e<;>first | exact⟨_,_,_,_,rfl,h⟩ | exact nof h
noncomputable def zDL (e:Expr)(k:UnaryOp->Expr->Pos->Bool):Bool:=match e with
 | .UnaryOp x0 x1 x2=>k x0 x1 x2
 | _=>false
def zCX (h:zDL e k=true):∃ x0 x1 x2,e=.UnaryOp x0 x1 x2/\k x0 x1 x2=true:=by
 cases e<;>first | exact⟨_,_,_,rfl,h⟩ | exact nof h
noncomputable def zD8 (e:Expr)(k:BoolOp->List Expr->Pos->Bool):Bool:=match e with
 | .BoolOp x0 x1 x2=>k x0 x1 x2
 | _=>false
def zC6 (h:zD8 e k=true):∃ x0 x1 x2,e=.BoolOp x0 x1 x2/\k x0 x1 x2=true:=by
 cases e<;>first | exact⟨_,_,_,rfl,h⟩ | exact nof h
noncomputable def zEK (e:Expr)(k:Expr->List CmpOp->List Expr->Pos->Bool):Bool:=match e with
 | .Compare x0 x1 x2 x3=>k x0 x1 x2 x3
 | _=>false
def zDs (h:zEK e k=true):∃ x0 x1 x2 x3,e=.Compare x0 x1 x2 x3/\k x0 x1 x2 x3=true:=by
 cases e<;>first | exact⟨_,_,_,_,rfl,h⟩ | exact nof h
noncomputable def zKB (e:Expr)(k:Expr->Expr->Expr->Pos->Bool):Bool:=match e with
 | .IfExp x0 x1 x2 x3=>k x0 x1 x2 x3
 | _=>false
def zIx (h:zKB e k=true):∃ x0 x1 x2 x3,e=.IfExp x0 x1 x2 x3/\k x0 x1 x2 x3=true:=by
 cases e<;>first | exact⟨_,_,_,_,rfl,h⟩ | exact nof h
noncomputable def zJ5 (e:Expr)(k:List Expr->Nat->Pos->Bool):Bool:=match e with
 | .Tuple x0 x1 x2=>k x0 x1 x2
 | _=>false
def zIv (h:zJ5 e k=true):∃ x0 x1 x2,e=.Tuple x0 x1 x2/\k x0 x1 x2=true:=by
 cases e<;>first | exact⟨_,_,_,rfl,h⟩ | exact nof h
noncomputable def zJ9 (e:Expr)(k:List Expr->Pos->Bool):Bool:=match e with
 | .List x0 x1=>k x0 x1
 | _=>false
def zGX (h:zJ9 e k=true):∃ x0 x1,e=.List x0 x1/\k x0 x1=true:=by
 cases e<;>first | exact⟨_,_,rfl,h⟩ | exact nof h
noncomputable def zB6 (e:Expr)(k:Expr->Expr->Pos->Bool):Bool:=match e with
 | .Subscript x0 x1 x2=>k x0 x1 x2
 | _=>false
def zBs (h:zB6 e k=true):∃ x0 x1 x2,e=.Subscript x0 x1 x2/\k x0 x1 x2=true:=by
 cases e<;>first | exact⟨_,_,_,rfl,h⟩ | exact nof h
noncomputable def zJ6 (e:Expr)(k:Option Expr->Option Expr->Option Expr->Pos->Bool):Bool:=match e with
 | .Slice x0 x1 x2 x3=>k x0 x1 x2 x3
 | _=>false
def zIw (h:zJ6 e k=true):∃ x0 x1 x2 x3,e=.Slice x0 x1 x2 x3/\k x0 x1 x2 x3=true:=by
 cases e<;>first | exact⟨_,_,_,_,rfl,h⟩ | exact nof h
noncomputable def zCQ (e:Expr)(k:Expr->List Expr->List Keyword->Pos->Bool):Bool:=match e with
 | .Call x0 x1 x2 x3=>k x0 x1 x2 x3
 | _=>false
def zA7 (h:zCQ e k=true):∃ x0 x1 x2 x3,e=.Call x0 x1 x2 x3/\k x0 x1 x2 x3=true:=by
 cases e<;>first | exact⟨_,_,_,_,rfl,h⟩ | exact nof h
noncomputable def zDc (e:Expr)(k:Expr->List Comprehension->Scope->Pos->Bool):Bool:=match e with
 | .ListComp x0 x1 x2 x3=>k x0 x1 x2 x3
 | _=>false
def zB7 (h:zDc e k=true):∃ x0 x1 x2 x3,e=.ListComp x0 x1 x2 x3/\k x0 x1 x2 x3=true:=by
 cases e<;>first | exact⟨_,_,_,_,rfl,h⟩ | exact nof h
noncomputable def zA2 (e:Expr)(k:Expr->Str->Pos->Bool):Bool:=match e with
 | .Attribute x0 x1 x2=>k x0 x1 x2
 | _=>false
def zAm (h:zA2 e k=true):∃ x0 x1 x2,e=.Attribute x0 x1 x2/\k x0 x1 x2=true:=by
 cases e<;>first | exact⟨_,_,_,rfl,h⟩ | exact nof h
noncomputable def zCo (e:Stmt)(k:List Expr->Expr->Pos->Bool):Bool:=match e with
 | .Assign x0 x1 x2=>k x0 x1 x2
 | _=>false
def zBf (h:zCo e k=true):∃ x0 x1 x2,e=.Assign x0 x1 x2/\k x0 x1 x2=true:=by
 cases e<;>first | exact⟨_,_,_,rfl,h⟩ | exact nof h
noncomputable def zEL (e:Stmt)(k:Expr->Operator->Expr->Pos->Bool):Bool:=match e with
 | .AugAssign x0 x1 x2 x3=>k x0 x1 x2 x3
 | _=>false
def zEu (h:zEL e k=true):∃ x0 x1 x2 x3,e=.AugAssign x0 x1 x2 x3/\k x0 x1 x2 x3=true:=by
 cases e<;>first | exact⟨_,_,_,_,rfl,h⟩ | exact nof h
noncomputable def zFk (e:Stmt)(k:Expr->Pos->Bool):Bool:=match e with
 | .Expr x0 x1=>k x0 x1
 | _=>false
def zDb (h:zFk e k=true):∃ x0 x1,e=.Expr x0 x1/\k x0 x1=true:=by
 cases e<;>first | exact⟨_,_,rfl,h⟩ | exact nof h
noncomputable def onIf (e:Stmt)(k:Expr->List Stmt->List Stmt->Pos->Bool):Bool:=match e with
 | .If x0 x1 x2 x3=>k x0 x1 x2 x3
 | _=>false
def zKA (h:onIf e k=true):∃ x0 x1 x2 x3,e=.If x0 x1 x2 x3/\k x0 x1 x2 x3=true:=by
 cases e<;>first | exact⟨_,_,_,_,rfl,h⟩ | exact nof h
noncomputable def zJ4 (e:Stmt)(k:Expr->List Stmt->List Stmt->Pos->Bool):Bool:=match e with
 | .While x0 x1 x2 x3=>k x0 x1 x2 x3
 | _=>false
def zIu (h:zJ4 e k=true):∃ x0 x1 x2 x3,e=.While x0 x1 x2 x3/\k x0 x1 x2 x3=true:=by
 cases e<;>first | exact⟨_,_,_,_,rfl,h⟩ | exact nof h
noncomputable def zPO (e:Stmt)(k:Expr->Expr->List Stmt->List Stmt->Pos->Bool):Bool:=match e with
 | .For x0 x1 x2 x3 x4=>k x0 x1 x2 x3 x4
 | _=>false
def zH3 (h:zPO e k=true):∃ x0 x1 x2 x3 x4,e=.For x0 x1 x2 x3 x4/\k x0 x1 x2 x3 x4=true:=by
 cases e<;>first | exact⟨_,_,_,_,_,rfl,h⟩ | exact nof h
noncomputable def zD7 (e:Stmt)(k:Option Expr->Pos->Bool):Bool:=match e with
 | .Return x0 x1=>k x0 x1
 | _=>false
def zC4 (h:zD7 e k=true):∃ x0 x1,e=.Return x0 x1/\k x0 x1=true:=by
 cases e<;>first | exact⟨_,_,rfl,h⟩ | exact nof h
noncomputable def onRaise (e:Stmt)(k:Option Expr->Option Expr->Pos->Bool):Bool:=match e with
 | .Raise x0 x1 x2=>k x0 x1 x2
 | _=>false
noncomputable def zOD (e:Const)(k:Int->Bool):Bool:=match e with
 | .int x=>k x
 | _=>false
def zKD (h:zOD e k=true):∃ x,e=.int x/\k x=true:=by
 cases e<;>first | exact⟨_,rfl,h⟩ | exact nof h
noncomputable def zKE (e:Const)(k:Bool->Bool):Bool:=match e with
 | .bool x=>k x
 | _=>false
def zIy (h:zKE e k=true):∃ x,e=.bool x/\k x=true:=by
 cases e<;>first | exact⟨_,rfl,h⟩ | exact nof h
noncomputable def zOC (e:Const)(k:Str->Bool):Bool:=match e with
 | .str x=>k x
 | _=>false
def zKC (h:zOC e k=true):∃ x,e=.str x/\k x=true:=by
 cases e<;>first | exact⟨_,rfl,h⟩ | exact nof h
noncomputable def onEq {T:Type}[DecidableEq T](a b:T)(k:Bool):Bool:=decide (a=b)&&k
def zC5 {T:Type}[DecidableEq T]{a b:T}{k:Bool}(h:onEq a b k=true):a=b/\k=true:=by
 unfold onEq at h;grind
noncomputable def on0 {T:Type}(l:List T)(k:Bool):Bool:=match l with
 | []=>k
 | _=>false
def zBg {T:Type}{l:List T}{k:Bool}(h:on0 l k=true):l=[]/\k=true:=by
 cases l with
 | nil=>exact⟨rfl,h⟩
 | cons _ _=>exact nof h
noncomputable def on1 {T:Type}(l:List T)(k:T->Bool):Bool:=match l with
 | [x0]=>k x0
 | _=>false
def zA1 {T:Type}{l:List T}{k:T->Bool}(h:on1 l k=true):∃ x0,l=[x0]/\k x0=true:=by
 cases l with
 | nil=>exact nof h
 | cons x0 l =>
  cases l with
  | nil=>exact⟨x0,rfl,h⟩
  | cons _ _=>exact nof h
noncomputable def on2 {T:Type}(l:List T)(k:T->T->Bool):Bool:=match l with
 | [x0,x1]=>k x0 x1
 | _=>false
def zE4 {T:Type}{l:List T}{k:T->T->Bool}(h:on2 l k=true):∃ x0 x1,l=[x0,x1]/\k x0 x1=true:=by
 cases l with
 | nil=>exact nof h
 | cons x0 l =>
  cases l with
  | nil=>exact nof h
  | cons x1 l =>
   cases l with
   | nil=>exact⟨x0,x1,rfl,h⟩
   | cons _ _=>exact nof h
noncomputable def on3 {T:Type}(l:List T)(k:T->T->T->Bool):Bool:=match l with
 | [x0,x1,x2]=>k x0 x1 x2
 | _=>false
def zR9 {T:Type}{l:List T}{k:T->T->T->Bool}(h:on3 l k=true):∃ x0 x1 x2,l=[x0,x1,x2]/\k x0 x1 x2=true:=by
 cases l with
 | nil=>exact nof h
 | cons x0 l =>
  cases l with
  | nil=>exact nof h
  | cons x1 l =>
   cases l with
   | nil=>exact nof h
   | cons x2 l =>
    cases l with
    | nil=>exact⟨x0,x1,x2,rfl,h⟩
    | cons _ _=>exact nof h
noncomputable def zH4 {T:Type}(l:List T)(k:T->List T->Bool):Bool:=match l with
 | x::xs=>k x xs
 | _=>false
def zEJ {T:Type}{l:List T}{k:T->List T->Bool}(h:zH4 l k=true):∃ x xs,l=x::xs/\k x xs=true:=by
 cases l with
 | nil=>exact nof h
 | cons x xs=>exact⟨x,xs,rfl,h⟩
noncomputable def zGW {T:Type}(o:Option T)(k:T->Bool):Bool:=match o with
 | some x=>k x
 | none=>false
def zEI {T:Type}{o:Option T}{k:T->Bool}(h:zGW o k=true):∃ x,o=some x/\k x=true:=by
 cases o with
 | none=>exact nof h
 | some x=>exact⟨x,rfl,h⟩
noncomputable def zJ8 {T:Type}(o:Option T)(k:Bool):Bool:=match o with
 | some _=>false
 | none=>k
def zJ7 {T:Type}{o:Option T}{k:Bool}(h:zJ8 o k=true):o=none/\k=true:=by
 cases o with
 | none=>exact⟨rfl,h⟩
 | some x=>exact nof h
noncomputable def zPN (g:Comprehension)(k:Expr->Expr->List Expr->Int->Bool):Bool:=k g.target g.iter g.ifs g.is_async
def zFl (h:zPN g k=true):∃ a b c d,g=⟨a,b,c,d⟩/\k a b c d=true:=by
 cases g;exact⟨_,_,_,_,rfl,h⟩
noncomputable def onC (e:Expr)(k:Str->List Expr->Bool):Bool:=zCQ e λz1 z2 z3 _=>zA0 z1 λy _=>on0 z3<|k y z2
def zBe (h:onC e k=true):∃ y p l pos,e=.Call (.Name y p) l [] pos/\k y l=true:=by
 obtain⟨a,l,b,pos,rfl,h1⟩:=zA7 h;obtain⟨y,p,rfl,h2⟩:=zAN h1;obtain⟨rfl,h3⟩:=zBg h2;exact⟨y,p,l,pos,rfl,h3⟩
mutual
noncomputable def cE:E->Scope->List Str->List Str->Expr->Bool
 | .var i,sc,N,bs=>λe=>zA0 e λy _=>decide (N[i]?=some y)&&visB sc y&&okN y
 | .glob _ x,sc,N,bs=>λe=>zA0 e λy _=>decide (x=y)&&glB sc x&&okN x
 | .int i,sc,N,bs=>λe=>zB0 e λz1 _ _=>zOD z1 λj=>decide (i=j)
 | .bl b,sc,N,bs=>λe=>zB0 e λz1 _ _=>zKE z1 λc=>decide (b=c)
 | .non,sc,N,bs=>λe=>zB0 e λz1 _ _=>onEq z1 .none<|(true)
 | .str x,sc,N,bs=>λe=>zB0 e λz1 _ _=>zOC z1 λy=>decide (x=y)
 | .bin op a b,sc,N,bs=>λe=>zKF e λl op' r _=>opB op op'&&cE a sc N bs l&&cE b sc N bs r
 | .neg a,sc,N,bs=>λe=>zDL e λz1 l _=>onEq z1 .USub<|(cE a sc N bs l)
 | .not a,sc,N,bs=>λe=>zDL e λz1 l _=>onEq z1 .Not<|(cE a sc N bs l)
 | .cmp op a b,sc,N,bs=>λe=>zEK e λl z1 z2 _=>on1 z1 λop'=>on1 z2 λr=>cmB op op'&&cE a sc N bs l&&cE b sc N bs r
 | .andl es,sc,N,bs=>λe=>zD8 e λz1 l _=>onEq z1 .And<|(cEs es sc N bs l)
 | .orl es,sc,N,bs=>λe=>zD8 e λz1 l _=>onEq z1 .Or<|(cEs es sc N bs l)
 | .ite c a b,sc,N,bs=>λe=>zKB e λt l r _=>cE c sc N bs t&&cE a sc N bs l&&cE b sc N bs r
 | .tup es,sc,N,bs=>λe=>zJ5 e λl _ _=>cEs es sc N bs l
 | .lst es,sc,N,bs=>λe=>zJ9 e λl _=>cEs es sc N bs l
 | .ix a i,sc,N,bs=>λe=>zB6 e λl r _=>zHK r&&cE a sc N bs l&&cE i sc N bs r
 | .sl a lo hi,sc,N,bs=>λe=>zB6 e λl z1 _=>zJ6 z1 λx y z2 _=>zJ8 z2<|(cE a sc N bs l&&cO lo sc N bs x&&cO hi sc N bs y)
 | .call _ f es,sc,N,bs=>λe=>onC e λy l=>(decide (f=y)&&glB sc f&&okN f&&cEs es sc N bs l)
 | .len a,sc,N,bs=>λe=>onC e λy z2=>on1 z2 λl=>(decide (y = "len")&&bltB sc bs "len"&&zAY l&&cE a sc N bs l)
 | .callw i es,sc,N,bs=>λe=>onC e λy z2=>zH4 z2 λx xs=>(decide (N[i]?=some y)&&visB sc y&&okN y&&cEs es sc N bs (x::xs))
 | .callv i a,sc,N,bs=>λe=>onC e λy z2=>on1 z2 λx=>(decide (N[i]?=some y)&&visB sc y&&okN y&&zAY x&&cE a sc N bs x)
 | .fld a f,sc,N,bs=>λe=>zA2 e λl m _=>decide (m=f)&&zSC l&&cE a sc N bs l
 | .abs a,sc,N,bs=>λe=>onC e λy z2=>on1 z2 λl=>(decide (y = "abs")&&bltB sc bs "abs"&&zAY l&&cE a sc N bs l)
 | .list a,sc,N,bs=>λe=>onC e λy z2=>on1 z2 λl=>(decide (y = "list")&&bltB sc bs "list"&&zAY l&&cE a sc N bs l)
 | .max a b,sc,N,bs=>λe=>onC e λy z2=>on2 z2 λl r=>(decide (y = "max")&&bltB sc bs "max"&&zAY l&&zAY r&&cE a sc N bs l&&cE b sc N bs r)
 | .isi t a,sc,N,bs=>λe=>zCQ e λz1 z2 z3 _=>zA0 z1 λy _=>on2 z2 λl z4=>zA0 z4 λz _=>on0 z3<|(decide (y = "isinstance")&&decide (z=Str.ofString t.nm)&&bltB sc bs "isinstance"&&bltB sc bs (Str.ofString t.nm)&&zAY l&&cE a sc N bs l)
 | .chn op op' a b c,sc,N,bs=>λe=>zEK e λl z1 z2 _=>on2 z1 λo1 o2=>on2 z2 λm r=>cmB op o1&&cmB op' o2&&chB op&&chB op'&&cE a sc N bs l&&cE b sc N bs m&&cE c sc N bs r
 | .lrev a,sc,N,bs=>λe=>zCQ e λz1 z2 z3 _=>zA0 z1 λy _=>on1 z2 λz4=>zCQ z4 λz5 z6 z7 _=>zA0 z5 λz _=>on1 z6 λl=>on0 z7<|on0 z3<|(decide (y = "list")&&decide (z = "reversed")&&bltB sc bs "list"&&bltB sc bs "reversed"&&zAY l&&cE a sc N bs l)
 | .tupl a,sc,N,bs=>λe=>onC e λy z2=>on1 z2 λl=>(decide (y = "tuple")&&bltB sc bs "tuple"&&zAY l&&cE a sc N bs l)
 | .comp1 n ms x src c el,sc,N,bs=>λe=>zDc e λv z1 scope _=>on1 z1 λz2=>zPN z2 λz3 t ifs a=>zA0 z3 λy _=>decide (x=y)&&decide (a=0)&&decide (n=N.length)&&cscB sc scope&&zMe scope N ms&&decide ((mask (noN N) ms N++[x]).Nodup)&&locB (relS sc scope) x&&ownB scope x&&cI src sc N bs t&&cC c (relS sc scope) (mask (noN N) ms N++[x]) bs ifs&&cE el (relS sc scope) (mask (noN N) ms N++[x]) bs v
 | .lzip a b,sc,N,bs=>λe=>zCQ e λz1 z2 z3 _=>zA0 z1 λy _=>on1 z2 λz4=>zCQ z4 λz5 z6 z7 _=>zA0 z5 λz _=>on2 z6 λl r=>on0 z7<|on0 z3<|(decide (y = "list")&&decide (z = "zip")&&bltB sc bs "list"&&bltB sc bs "zip"&&zAY l&&zAY r&&cE a sc N bs l&&cE b sc N bs r)
 | .it _,sc,N,bs=>λ_=>false
 | .r1 _,sc,N,bs=>λ_=>false
 | .r2 _ _,sc,N,bs=>λ_=>false
 | .r3 _ _ _,sc,N,bs=>λ_=>false
 | .nil,sc,N,bs=>λ_=>false
 | .cons _ _,sc,N,bs=>λ_=>false
noncomputable def cI:E->Scope->List Str->List Str->Expr->Bool
 | .it e,sc,N,bs=>λx=>zKI x&&cE e sc N bs x
 | .r1 a,sc,N,bs=>λx=>onC x λy z2=>on1 z2 λl=>(decide (y = "range")&&bltB sc bs "range"&&zAY l&&cE a sc N bs l)
 | .r2 a b,sc,N,bs=>λx=>onC x λy z2=>on2 z2 λl r=>(decide (y = "range")&&bltB sc bs "range"&&zAY l&&zAY r&&cE a sc N bs l&&cE b sc N bs r)
 | .r3 a b c,sc,N,bs=>λx=>onC x λy z2=>on3 z2 λl r q=>(decide (y = "range")&&bltB sc bs "range"&&zAY l&&zAY r&&zAY q&&cE a sc N bs l&&cE b sc N bs r&&cE c sc N bs q)
 | _,_,_,_=>λ_=>false
noncomputable def cC:E->Scope->List Str->List Str->List Expr->Bool
 | .nil,sc,N,bs=>λl=>l.isEmpty
 | .cons c _,sc,N,bs=>λl=>match l with
  | [x]=>cE c sc N bs x
  | _=>false
 | _,_,_,_=>λ_=>false
noncomputable def cEs:E->Scope->List Str->List Str->List Expr->Bool
 | .nil,sc,N,bs=>λl=>l.isEmpty
 | .cons e es,sc,N,bs=>λl=>match l with
  | x::xs=>zAY x&&cE e sc N bs x&&cEs es sc N bs xs
  | []=>false
 | _,_,_,_=>λ_=>false
noncomputable def cO:E->Scope->List Str->List Str->Option Expr->Bool
 | .cons e _,sc,N,bs=>λo=>match o with
  | some x=>cE e sc N bs x
  | none=>false
 | .nil,sc,N,bs=>λo=>o.isNone
 | _,_,_,_=>λ_=>false
end
noncomputable def zPv:E->Bool
 | .comp1 _ _ _ _ _ _=>true
 | _=>false
noncomputable def varB (sc:Scope)(N:List Str)(i:Nat)(x:Str):Bool:=decide (N[i]?=some x)&&locB sc x&&okN x
mutual
noncomputable def cS (sc:Scope)(N bs:List Str):S->Stmt->Bool
 | .set i e=>λs=>zCo s λz1 v _=>on1 z1 λz2=>zA0 z2 λy _=>varB sc N i y&&zH6 v&&cE e sc N bs v
 | .setC i e=>λs=>zCo s λz1 v _=>on1 z1 λz2=>zA0 z2 λy _=>zPv e&&varB sc N i y&&cE e sc N bs v
 | .app i e=>λs=>zFk s λz1 _=>zCQ z1 λz2 z3 z4 cpos=>zA2 z2 λz5 m apos=>zA0 z5 λy _=>on1 z3 λv=>on0 z4<|(decide (m = "append")&&varB sc N i y&&(apos.endLine==cpos.line)&&zAY v&&cE e sc N bs v)
 | .aug op i e=>λs=>zEL s λz1 op' v _=>zA0 z1 λy _=>opB op op'&&varB sc N i y&&zH6 v&&cE e sc N bs v
 | .ext i e=>λs=>zFk s λz1 _=>zCQ z1 λz2 z3 z4 cpos=>zA2 z2 λz5 m apos=>zA0 z5 λy _=>on1 z3 λv=>on0 z4<|(decide (m = "extend")&&varB sc N i y&&(apos.endLine==cpos.line)&&zAY v&&cE e sc N bs v)
 | .ife c a b=>λs=>onIf s λt l r _=>cE c sc N bs t&&cSs sc N bs a l&&cSs sc N bs b r
 | .whl c b=>λs=>zJ4 s λt l z1 _=>on0 z1<|(cE c sc N bs t&&cSs sc N bs b l)
 | .for1 i it b=>λs=>zPO s λz1 t l z2 _=>zA0 z1 λy _=>on0 z2<|(varB sc N i y&&cI it sc N bs t&&cSs sc N bs b l)
 | .ret e=>λs=>zD7 s λz1 _=>zGW z1 λv=>cE e sc N bs v
 | .retOwn i=>λs=>zD7 s λz1 _=>zGW z1 λz2=>zA0 z2 λy _=>varB sc N i y
 | .never=>λ_=>true
 | .rse c m=>λs=>onRaise s λz1 z2 _=>zGW z1 λz3=>zCQ z3 λz4 z5 z6 _=>zA0 z4 λy _=>on1 z5 λl=>on0 z6<|zJ8 z2<|(decide (c=y)&&glB sc c&&okN c&&zAY l&&cE m sc N bs l)
 | .nil=>λ_=>false
 | .cons _ _=>λ_=>false
 | .frz _ _=>λ_=>false
noncomputable def cSs (sc:Scope)(N bs:List Str):S->List Stmt->Bool
 | .nil=>λl=>l.isEmpty
 | .cons a b=>λl=>match l with
  | s::r=>cS sc N bs a s&&cSs sc N bs b r
  | []=>false
 | .frz _ r=>λl=>cSs sc N bs r l
 | _=>λ_=>false
end
end DL
end
section
namespace DL
open PySem Spec PyProof.Rows L2
structure GOk (P:Program)(w:World)(K:W.Frag)(mg:Str->Option Value)(base:Heap)(k:Nat)(J:Gm)(bs:List Str):Prop where
 fn:∀ x F,(x,F)∈J.fns->∃ f fd ps,FnOk P w K mg base CX0 k f fd ps (spD K F)/\mg x=some (.ref f)/\W.keepIn K (.ref f)=true/\zBJ K fd ps []
 cs:∀ x d,(x,d)∈J.cs->∃ u v,mg x=some u/\RelV v u/\Den K (λ_=>none) d v
 bt:∀ x∈bs,mg x=none
 xf:True
 sb:True
 rs:True
 lm:∀ (j:Nat) L F,J.lm[j]?=some (L,F)->zFQ P w K mg base k L F
 ob:∀ p∈J.ob,ObOk K mg p
structure XOk (X:Cx)(k:Nat)(J:Gm)(bs:List Str):Prop where
 g:GOk X.prog X.w X.K X.mg X.base k J bs
 room:Room k X.A
 calm:X.calm=true
 nd:X.N.Nodup
 own:PassesOwn (model X.prog X.w) X.A X.env X.xe
def XOk.comp (o:XOk X k J bs)(nd:N.Nodup):XOk (zAW X N scope s H fp) k J bs:=⟨o.g,o.room,o.calm,nd,PassesOwn.never⟩
def zAC (h:zAY e=true):starEach (e::es) env=(false,eval e env)::starEach es env:=by
 cases e<;>first | rfl | cases h
def zE5 (h:zHK e=true):zGD e:=by
 cases e<;>first | intro o i;rfl | cases h
def zEM (h:zH6 e=true):swapsWith e t n env=pure false:=by
 cases e<;>first | rfl | cases h
def zE6 (h:zKI e=true):∀ x,foldedSetIterable e env x=pure x:=by
 intro x;cases e<;>first | rfl | cases h
def zED (h:visB sc x=true):Vis sc x:=by
 unfold visB at h;split at h
 .rename_i e;exact .inl e
 .rename_i e;exact .inr (.inl e)
 .rename_i e;exact .inr (.inr e)
 .cases h
def zER (h:locB sc x=true):Loc sc x:=by
 unfold locB at h;split at h
 .rename_i e;exact .inl e
 .rename_i e;exact .inr e
 .cases h
def zFA (h:glB X.env.scope x=true):Gl X x:=by
 unfold glB at h;split at h
 .assumption
 .grind
def zCR (h:okN x=true):(x==("__debug__":Str))=false/\(x==("__classdict__":Str))=false:=by
 unfold okN at h
 simp_all
def zA5 (o:XOk X k J bs)(h:bltB X.env.scope bs x=true):Gl X x/\X.mg x=none:=by
 unfold bltB at h
 simp_all
 exact⟨zFA h.1,o.g.bt x (by simp_all)⟩
def zFU (o:XOk X k J bs):X.A.units+64 < cLine:=o.room.units
theorem zBN {X:Cx}:∀ {es:List Expr},(∀ e∈es,zAY e=true)->∀ pos,(backTo pos (starEach es X.env)).any (·.1)=false
 | [],_,_=>rfl
 | e::es,h,pos=>by
  rw[zAC (h e q9)];show (false||(backTo pos (starEach es X.env)).any (·.1))=false;rw[zBN (λe z=>h e (qJ _ z)) pos]
  rfl
def zGw :∀ {es:List Expr},cEs a sc N bs es=true->∀ e∈es,zAY e=true:=by
 induction a with
 | nil =>
  intro es h;cases es with
  | nil=>intro e z;exact absurd z (by simp)
  | cons x c=>exact nomatch show false=true from h
 | cons a b _ d =>
  intro es h;cases es with
  | nil=>intro e z;exact absurd z (by simp)
  | cons x c =>
   simp only[cEs,x9] at h;intro e z;rcases mem_cons.mp z with rfl | z
   .simp_all
   .exact d h.2 e z
 | _=>intro es h;exact zzf h
end DL
namespace DL
open PySem Spec PyProof.Rows L2
section
variable {X:Cx}
def zCZ (h:∀ O,f O=none):GE X e f:=λpins s B H Q I a=>by
 obtain⟨S,O,z,b,e,c⟩:=a;rw[h O] at e;cases e
def zFV (h:∀ x y,o x y=none)(O:Dst):two f g o O=none:=by
 unfold two
 simp_all
def zRe (K:W.Frag):R2:=λx y H Q=>∃ l b xs zs,x=.ref l/\y=.ref b/\SqL K H l xs/\SqL K H b zs/\xs.length+zs.length<=sizeLine/\∀ p,H p=none->Q (.ref p) (upd H p (.lst (xs++zs)))
def zPL:OpR X (binaryOp .Add) (zRe X.K):=by
 intro i s B H x y v u Q I r z h;obtain⟨l,b,E,D,rfl,rfl,C,o,w,q⟩:=h;cases r;cases z;obtain⟨c,j,⟨⟨t,p,m,sl⟩,n,e1,e2,e3,e4⟩,z1⟩:=I.list C;obtain⟨a,d,⟨⟨k,g,e,f⟩,n2,e1',e2',e3',e4'⟩,z2⟩:=I.list o;subst e2 e4 e2' e4';refine concat_meets ⟨_,e1,rfl⟩ ⟨_,e1',rfl⟩ noFill_list_add seq_list_add F.slot_list_add F.entry_list_add (F.args_list_add_2 _ _) (zGe l _ n p sl b _ n2 g f (by rw[xj,xj,<- j.length,<- d.length];exact w)) ⟨e1,e1',?_⟩;have A:c.toArray++a.toArray=(c++a).toArray:=by simp
 rw[A];exact⟨.ref _,_,I.lnew (j.append d) (by simp_all),rfl,q _ I.fresh⟩
def zPE:OpD X.K (λx y H Q=>(rI0 (λi j=>.int (i+j)) x y H Q\/zRe X.K x y H Q)\/zRd X.K x y H Q) (binD .Add):=by
 intro S H x y z o q Q d e h k c;unfold binD at e;dsimp only at e;split at e
 .cases e;exact .inl (.inl ⟨_,_,h.int,k.int,c _ H (Same.refl _) (.int _)⟩)
 .rename_i g m;by_cases hl:g.length+m.length<=10000
  .rw [if_pos hl] at e;cases e;obtain⟨a,f,rfl,h1,h2⟩:=h.lst;obtain⟨b,l,rfl,h3,h4⟩:=k.lst;exact .inl (.inr ⟨a,b,f,l,rfl,rfl,h1,h3,by rw[<- h2.length,<- h4.length];exact zDr hl,λp n=>c _ _ (zAe n _) (.lstNew (Same.refl _) d n (h2.append h4))⟩)
  .simp_all
 .rename_i x g y m;by_cases hl:(x::g).length+(y::m).length<=10000
  .rw [if_pos hl] at e;cases e;obtain⟨a,f,rfl,h1,h2⟩:=h.tup;obtain⟨b,l,rfl,h3,h4⟩:=k.tup;exact .inr ⟨a,b,f,l,rfl,rfl,h1,h3,(λz=>by rw[z] at h2;have:=h2.length;simp at this),by rw[<- h2.length,<- h4.length];exact zDr hl,λz=>absurd z (λz=>by rw[z] at h4;have:=h4.length;simp at this),λ_ p n=>c _ _ (zAe n _) (.tupNew d n (h2.append h4))⟩
  .rw [if_neg hl] at e;cases e
 .cases e
def zPB:OpD X.K (λx y H Q=>rI IntMulOk (λi j=>.int (i*j)) x y H Q\/rRep X.K x y H Q) (binD .Mult):=by
 intro S H x y z l m Q b e d f c;unfold binD at e
 simp_all
 split at e
 .unfold mulD at e;split at e
  .rename_i h;cases e;exact .inl ⟨_,_,d.int,f.int,h,c _ H (Same.refl _) (.int _)⟩
  .cases e
 .rename_i g j;by_cases hl:0<=j/\j<=10000/\g.length*j.toNat<=10000
  .rw [if_pos hl] at e;cases e;obtain⟨a,k,rfl,h1,h2⟩:=d.lst;exact .inr ⟨a,k,j,rfl,f.int,h1,hl.1,hl.2.1,by rw[<- h2.length];exact hl.2.2,λp n=>c _ _ (zAe n _) (.lstNew (Same.refl _) b n (zLb h2 _))⟩
  .simp_all
 .cases e
def zS8 (c:GE X a f)(d:GE X b g):GE X (.BinOp a op b pos) (two f g (binD op)):=by
  cases op with
  | Add=>exact zJA ((zR7.or zPL).or (by intro j s B H x y v u Q I n l h;obtain⟨a,b,D,E,rfl,rfl,c,d,r,k,o,t⟩:=h;cases n;cases l;obtain⟨C,r1,p,_⟩:=I.tuple c;obtain⟨i,r2,A,_⟩:=I.tuple d;refine HT.zQv p A (λz=>r (r1.nil_iff.mp z)) (λz=>⟨.ref a,H,I,rfl,o (r2.nil_iff.mp z)⟩) (λz=>?_) (by rw[<- r1.length,<- r2.length];exact k);refine⟨.ref s.heap.objs.size,_,I.laid (λb ob q=>get?_push_of_some _ q) (le_refl _) ?_,rfl,t (λw=>z (r2.nil_iff.mpr w)) _ (I.hok.fresh (le_refl _))⟩;exact⟨by rw[qQ];exact k,_,r1.append r2,IsTup.new _ _⟩)) zPE c d
  | Sub=>exact zJA (opI0 λ_ _ _ _ _ _ _ q=>sub_int q) (zMZ λx y z e=>by
      unfold binD at e;dsimp only at e;split at e
      . cases e;exact⟨_,_,rfl,rfl,rfl⟩
      . cases e) c d
  | Mult=>exact zJA (zPI.or zRx) zPB c d
  | FloorDiv=>exact zJA zMa (zHJ λx y z e=>by
      unfold binD at e;dsimp only at e;split at e
      . unfold zQS at e;split at e
        . rename_i h;cases e;exact⟨_,_,rfl,rfl,h,rfl⟩
        . cases e
      . cases e) c d
  | Mod=>exact zJA (opI λ_ _ _ _ _ _ _ m q=>mod_int' m q) (zHJ λx y z e=>by
      unfold binD at e;dsimp only at e;split at e
      . split at e
        . cases e
        . rename_i h;cases e;exact⟨_,_,rfl,rfl,h,rfl⟩
      . cases e) c d
  | Pow=>exact zJA zRy (zHJ λx y z e=>by
      unfold binD at e;dsimp only at e;split at e
      . split at e
        . rename_i h;cases e;exact⟨_,_,rfl,rfl,h,rfl⟩
        . cases e
      . cases e) c d
  | _=>exact zCZ (zFV λ_ _=>rfl)
theorem zBo {k:Int->Int->Bool}(h:cmpD op=λx y=>match x,y with
    | .int i,.int j=>some (.bl (k i j),.cl)
    | _,_=>none):∀ x y z,cmpD op x y=some z->∃ i j,x=.int i/\y=.int j/\z=(.bl (k i j),.cl):=by
  intro x y z e;rw[h] at e;dsimp only at e;split at e
  . cases e;exact⟨_,_,rfl,rfl,rfl⟩
  . cases e
def zNe (n:X.A.units+64 < cLine):(∃ r,OpR X (compareOp op) r/\OpD X.K r (cmpD op)/\∀ b,behindInMarks op b=false)\/∀ x y,cmpD op x y=none:=by
 cases op with
 | Lt=>exact .inl ⟨_,zR0,zBR (zBo rfl),λb=>zDM b⟩
 | LtE=>exact .inl ⟨_,zR1,zBR (zBo rfl),λb=>zDM b⟩
 | Gt=>exact .inl ⟨_,zR3,zBR (zBo rfl),λb=>zDM b⟩
 | GtE=>exact .inl ⟨_,zR5,zBR (zBo rfl),λb=>zDM b⟩
 | Eq=>exact .inl ⟨_,(by intro a s B H x y v u Q I i k h;obtain⟨d,e,j,g,⟨f,c,m⟩,q⟩:=h;obtain⟨l,r1⟩:=zDJ I j i f;obtain⟨bs,r2⟩:=zDJ I g k c;exact SeqAt.rcAt_reads r1 r2 f c (by omega) X.prog X.w _ _ ⟨.bl _,H,I,rfl,q⟩),zOA,λb=>zDM b⟩
 | NotEq=>exact .inl ⟨_,(by intro a s B H x y v u Q I i k h;obtain⟨d,e,j,g,⟨f,c,m⟩,q⟩:=h;obtain⟨l,r1⟩:=zDJ I j i f;obtain⟨bs,r2⟩:=zDJ I g k c;exact SeqAt.rcNeAt_reads r1 r2 f c (by omega) X.prog X.w _ _ ⟨.bl _,H,I,rfl,q⟩),zOA,λb=>zDM b⟩
 | Is=>exact .inl ⟨_,zR2,zPD,λb=>zDM b⟩
 | IsNot=>exact .inl ⟨_,zPH,zMY,λb=>zDM b⟩
 | _=>exact .inr λ_ _=>rfl
def zHX (h:∀ O,f O=none):GT X e (asB f):=λpins s B H Q I a=>by
 obtain⟨S,O,z,b,e,c⟩:=a;obtain⟨k,e⟩:=zCL e;rw[h O] at e;cases e
def zQI (e:X.A.units+64 < cLine)(d:GE X a f)(c:GE X b g):GE X (.Compare a [op] [b] pos) (two f g (cmpD op))/\GT X (.Compare a [op] [b] pos) (asB (two f g (cmpD op))):=by
 rcases zNe e with ⟨r,h1,h2,h3⟩ | h
 .exact ⟨zS7 h1 h2 (h3 b) d c,zSj h1 h2 (h3 b) d c⟩
 .exact ⟨zCZ (zFV h),zHX (zFV h)⟩
def zAw (h:GE X e f)(a:∀ whole,isTrue e X.env whole=(do let v<-whole;standAt e.pos;holding [v] (truthy v))):GE X e f/\GT X e (asB f):=⟨h,((zN3 h a).imp λ_ _ _ q=>zHZ q)⟩
def nh {T:Type}{c:T->Bool}{p:T->Prop}(n:∀ x,c x=false:=by exact λ_=>rfl):∀ x,c x=true->p x:=by grind
structure Good (X:Cx)(J:Gm)(bs:List Str)(a:E):Prop where
 e:∀ e,cE a X.env.scope X.N bs e=true->GE X e (evE J a)/\GT X e (asB (evE J a)):=by exact nh
 es:∀ es,cEs a X.env.scope X.N bs es=true->(GA X es (evEs J a)/\GAL X es (evLs J a))/\(es≠[]->∀ pos,(GE X (.BoolOp .And es pos) (evAnd J a)/\GW X (.BoolOp .And es pos) (asB (evAnd J a)))/\GE X (.BoolOp .Or es pos) (evOr J a)/\GW X (.BoolOp .Or es pos) (asB (evOr J a))):=by exact nh
 o:∀ oe,cO a X.env.scope X.N bs oe=true->GO X oe (evO J a):=by exact nh
 i:∀ it,cI a X.env.scope X.N bs it=true->(∀ tg,GI X tg it (evI J a))/\∀ x,foldedSetIterable it X.env x=pure x:=by exact nh
 c:∀ ifs,cC a X.env.scope X.N bs ifs=true->GCs X ifs (evC J a):=by exact nh
structure zTx (X:Cx)(tg iter elt:Expr)(ifs:List Expr)(scope:Scope)(ms:List Nat)(xs:List Str)(f:Dst->Option (List D))(t:D->Dst->Option Dst)(c:Dst->Option Bool)(e:Dst->Option R):Prop where
 hi:GI X tg iter f
 hs:∀ x,foldedSetIterable iter X.env x=pure x
 cs:zCT X.env.scope scope
 hm:∀ (i:Nat) x,X.N[i]?=some x->ownB scope x=true->i∈ms
 hg:∀ s H fp,GG (zAW X (mask (noN X.N) ms X.N++xs) scope s H fp) tg t
 hc:∀ s H fp,GCs (zAW X (mask (noN X.N) ms X.N++xs) scope s H fp) ifs c
 he:∀ s H fp,GE (zAW X (mask (noN X.N) ms X.N++xs) scope s H fp) elt e
def zHm (h:cscB sc scope=true):zCT sc scope:=by
 unfold cscB at h;simp only[x9,qj,beq_iff_eq,all_eq_true] at h;obtain⟨⟨h1,h2⟩,h3⟩:=h;refine⟨h1,h2,λx a e=>?_⟩;have q:=h3 x a
 simp_all
def zFo (h:zMe scope N ms=true):∀ (i:Nat) x,N[i]?=some x->ownB scope x=true->i∈ms:=λi x e o=>by
 unfold zMe at h;rw[all_eq_true] at h;have q:=h i (mem_range.mpr (zzg e).1)
 simp_all
def zLA (h:xs[k]?=some x):(mask (noN N) ms N++xs)[N.length+k]?=some x:=by
 rw[getElem?_append_right (by rw[zBA];omega),zBA]
 simp_all
end
end DL
end
section
namespace DL
open PySem Spec PyProof.Rows L2
section
variable {X:Cx}{k:Nat}{J:Gm}{bs:List Str}
def zUs (o:XOk X k J bs)(d:Gl X f)(h:(f==("__debug__":Str))=false)(j:GA X es g)(b:∀ e∈es,zAY e=true)(i:es=[]->∀ O,g O=some []):GE X (.Call (.Name f p) es [] pos) (fnD J n f g):=by
 cases q:J.fns[n]? with
 | none=>exact zCZ λO=>by unfold fnD;rw[q]
 | some r =>
  obtain⟨y,F⟩:=r;by_cases e:y=f
  .subst e;have m:fnD J n y g=zJG F g:=by
    funext O;unfold fnD
    simp_all
   rw[m];obtain⟨a,v,u,h1,h2,h3,h4⟩:=o.g.fn y F (mem_of_getElem? q);cases es with
   | nil =>
    rw[(funext (i rfl))];have l:=o.room;refine(zMV h1 l d h2 h3 h4 .nil zHH h).imp λB H Q q=>?_
    obtain⟨S,O,z,t,e,c⟩:=zIY q;cases e;exact c [] H (Same.refl _) .nil
   | cons x s=>exact ((zJ0 h1 o.room d h2 h3 h4 .nil zHH j h (zAC (b x q9)) ((zBN λe z=>b e (qJ _ z)) pos)).imp λ_ _ _ q=>zIY q)
  .exact zCZ λO=>by
    unfold fnD
    simp_all
def zUr (o:XOk X k J bs)(c:Gl X x)(b:(x==("__debug__":Str))=false):GE X (.Name x pos) (zD4 J n x):=by
 cases q:J.cs[n]? with
 | none=>exact zCZ λO=>by unfold zD4;rw[q]
 | some a =>
  obtain⟨y,d⟩:=a;by_cases e:y=x
  .subst e;have f:zD4 J n y=λ_=>some (d,.cl):=by
    unfold zD4
    simp_all
   rw[f];obtain⟨u,v,h1,h2,h3⟩:=o.g.cs y d (mem_of_getElem? q);exact zQH c h1 h2 h3 b
  .exact zCZ λO=>by
    unfold zD4
    simp_all
def zQx (h:cEs a sc N bs []=true)(O:Dst):evEs J a O=some []:=by
 cases a<;>first | rfl | exact nof h
def zIW (o:XOk X k J bs)(l:Good X J bs src)(m:∀ {X':Cx},XOk X' k J bs->Good X' J bs c)(p:∀ {X':Cx},XOk X' k J bs->Good X' J bs el)(h:cE (.comp1 n ms x src c el) X.env.scope X.N bs e=true) :
  ∃ tg iter elt ifs scope pos,e=.ListComp elt [⟨tg,iter,ifs,0⟩] scope pos/\zTx X tg iter elt ifs scope ms [x] (evI J src) (tg1 n) (evC J c) (evE J el):=by
 obtain⟨v,q,scope,pos,rfl,d⟩:=zB7 h;obtain⟨u,rfl,f⟩:=zA1 d;obtain⟨r,t,ifs,a,rfl,i⟩:=zFl f;obtain⟨y,w,rfl,g⟩:=zAN i;replace h:=g;simp at h;obtain⟨⟨⟨⟨⟨⟨⟨⟨⟨⟨rfl,rfl⟩,rfl⟩,h4⟩,h5⟩,h6⟩,h7⟩,h8⟩,h9⟩,h10⟩,h11⟩:=h;have j:∀ s H b,XOk (zAW X (mask (noN X.N) ms X.N++[x]) scope s H b) k J bs:=λs H b=>o.comp h6
 refine⟨_,_,_,_,_,_,rfl,⟨(l.i _ h9).1 _,(l.i _ h9).2,zHm h4,zFo h5,λs H b=>?_,λs H b=>(m (j s H b)).c _ h10,λs H b=>((p (j s H b)).e _ h11).1⟩⟩;exact zKx h6 (zLA (k:=0) rfl) (zER h7) (.inl h8)
def zI0 (h:zSC e=true):attributeBase e f X.env (eval e X.env)=eval e X.env:=by
 cases e with
 | Name _ _=>rfl
 | _=>exact nof h
def zDF (o:XOk X k J bs)(a:E):Good X J bs a:=by
 have p:=zFU o
 induction a generalizing X with
 | var i =>
  refine { e:=λe h=>?_ };obtain⟨_,_,rfl,d⟩:=zAN h;replace h:=d;simp only[x9,qj] at h;obtain⟨⟨h2,h3⟩,h4⟩:=h;obtain⟨n1,n2⟩:=zCR h4;exact zAw (zSw h2 (zED h3) n1 n2) λ_=>rfl
 | glob n x =>
  refine { e:=λe h=>?_ };obtain⟨_,_,rfl,d⟩:=zAN h;replace h:=d;simp only[x9,qj] at h;obtain⟨⟨rfl,h2⟩,h4⟩:=h;exact zAw (zUr o (zFA h2) (zCR h4).1) λ_=>rfl
 | int i =>
  refine { e:=λe h=>?_ };obtain⟨G,_,_,rfl,d⟩:=zBY h;obtain⟨_,rfl,g⟩:=zKD d;replace h:=g;simp only[qj] at h;subst h;exact zAw ge_int λ_=>rfl
 | bl b =>
  refine { e:=λe h=>?_ };obtain⟨G,_,_,rfl,d⟩:=zBY h;obtain⟨_,rfl,g⟩:=zIy d;replace h:=g;simp only[qj] at h;subst h;exact zAw zUt λ_=>rfl
 | non =>
  refine { e:=λe h=>?_ };obtain⟨G,_,_,rfl,d⟩:=zBY h;obtain⟨rfl,g⟩:=zC5 d;replace h:=g;exact zAw zS1 λ_=>rfl
 | str x =>
  refine { e:=λe h=>?_ };obtain⟨G,_,_,rfl,d⟩:=zBY h;obtain⟨_,rfl,g⟩:=zKC d;replace h:=g;simp only[qj] at h;subst h;exact zAw zSz λ_=>rfl
 | bin U a b j v =>
  refine { e:=λe h=>?_ };obtain⟨_,_,_,_,rfl,d⟩:=zIz h;replace h:=d;simp only[x9,opB,qj] at h;obtain⟨⟨rfl,h1⟩,h2⟩:=h;exact zAw (zS8 ((j o p).e _ h1).1 ((v o p).e _ h2).1) λ_=>rfl
 | neg a j =>
  refine { e:=λe h=>?_ };obtain⟨G,_,_,rfl,d⟩:=zCX h;obtain⟨rfl,g⟩:=zC5 d;replace h:=g;exact zAw (zS2 ((j o p).e _ h).1) λ_=>rfl
 | not a j =>
  refine { e:=λe h=>?_ };obtain⟨G,_,_,rfl,d⟩:=zCX h;obtain⟨rfl,g⟩:=zC5 d;replace h:=g;exact⟨zS0 ((j o p).e _ h).1,zSh ((j o p).e _ h).2⟩
 | cmp U a b j v =>
  refine { e:=λe h=>?_ };obtain⟨_,G,z2,_,rfl,d⟩:=zDs h;obtain⟨_,rfl,g⟩:=zA1 d;obtain⟨_,rfl,w⟩:=zA1 g;replace h:=w;simp only[x9,cmB,qj] at h;obtain⟨⟨rfl,h1⟩,h2⟩:=h;exact zQI p ((j o p).e _ h1).1 ((v o p).e _ h2).1
 | andl es M =>
  refine { e:=λe h=>?_ };obtain⟨G,l,K,rfl,d⟩:=zC6 h;obtain⟨rfl,g⟩:=zC5 d;replace h:=g;cases l with
  | nil =>
   have z:∀ O,evAnd J es O=none:=λO=>by cases es<;>first | rfl | exact nof h
   exact⟨zCZ z,zHX z⟩
  | cons x T =>
   have q:=(((M o p).es _ h).2 (by simp) K).1;exact⟨q.1,q.2.pt⟩
 | orl es M =>
  refine { e:=λe h=>?_ };obtain⟨G,l,K,rfl,d⟩:=zC6 h;obtain⟨rfl,g⟩:=zC5 d;replace h:=g;cases l with
  | nil =>
   have z:∀ O,evOr J es O=none:=λO=>by cases es<;>first | rfl | exact nof h
   exact⟨zCZ z,zHX z⟩
  | cons x T =>
   have q:=(((M o p).es _ h).2 (by simp) K).2;exact⟨q.1,q.2.pt⟩
 | ite c a b F j v =>
  refine { e:=λe h=>?_ };obtain⟨_,_,_,_,rfl,d⟩:=zIx h;replace h:=d;simp only[x9] at h;obtain⟨⟨h0,h1⟩,h2⟩:=h;exact⟨zS4 ((F o p).e _ h0).2 ((j o p).e _ h1).1 ((v o p).e _ h2).1,zSi ((F o p).e _ h0).2 ((j o p).e _ h1).2 ((v o p).e _ h2).2⟩
 | tup es M =>
  refine { e:=λe h=>?_ };obtain⟨_,_,_,rfl,d⟩:=zIv h;replace h:=d;exact zAw (zSx ((M o p).es _ h).1.1) λ_=>rfl
 | lst es M =>
  refine { e:=λe h=>?_ };obtain⟨_,_,rfl,d⟩:=zGX h;replace h:=d;exact zAw (zS3 ((M o p).es _ h).1.1) λ_=>rfl
 | ix a b j v =>
  refine { e:=λe h=>?_ };obtain⟨_,_,_,rfl,d⟩:=zBs h;replace h:=d;simp only[x9] at h;obtain⟨⟨h0,h1⟩,h2⟩:=h;exact zAw (zUq ((j o p).e _ h1).1 ((v o p).e _ h2).1 (zE5 h0)) λ_=>rfl
 | sl a lo hi j b5 a9 =>
  refine { e:=λe h=>?_ };obtain⟨_,G,_,rfl,d⟩:=zBs h;obtain⟨_,_,z2,_,rfl,g⟩:=zIw d;obtain⟨rfl,w⟩:=zJ7 g;replace h:=w;simp only[x9] at h;obtain⟨⟨h0,h1⟩,h2⟩:=h;exact zAw (zUo ((j o p).e _ h0).1 ((b5 o p).o _ h1) ((a9 o p).o _ h2)) λ_=>rfl
 | call n f es M =>
  refine { e:=λe h=>?_ };obtain⟨_,_,_,_,rfl,d⟩:=zBe h;replace h:=d;simp only[x9,qj] at h;obtain⟨⟨⟨rfl,h2⟩,h3⟩,h4⟩:=h;exact zAw (zUs o (zFA h2) (zCR h3).1 ((M o p).es _ h4).1.1 (zGw h4) λe O=>by subst e;exact zQx h4 O) λ_=>rfl
 | len a j =>
  refine { e:=λe h=>?_ };obtain⟨_,_,_,_,rfl,d⟩:=zBe h;obtain⟨_,rfl,g⟩:=zA1 d;replace h:=g;simp only[x9,qj] at h;obtain⟨⟨⟨rfl,h2⟩,h3⟩,h4⟩:=h;obtain⟨A,D⟩:=zA5 o h2;exact zAw (zS9 zGu zPC A D PySem.boot_len ((j o p).e _ h4).1 (zAC h3) (by decide) (by decide)) λ_=>rfl
 | abs a j =>
  refine { e:=λe h=>?_ };obtain⟨_,_,_,_,rfl,d⟩:=zBe h;obtain⟨_,rfl,g⟩:=zA1 d;replace h:=g;simp only[x9,qj] at h;obtain⟨⟨⟨rfl,h2⟩,h3⟩,h4⟩:=h;obtain⟨A,D⟩:=zA5 o h2;exact zAw (zS9 (by intro pins s B H T us Q I r h;obtain⟨i,rfl,q⟩:=h;obtain⟨u,rfl,t,rfl⟩:=zIh r;exact call_abs_int λu tk=>⟨.int _,H,I.tok _,⟨_,rfl⟩,q⟩) zPF A D boot_abs ((j o p).e _ h4).1 (zAC h3) (by decide) (by decide)) λ_=>rfl
 | list a j =>
  refine { e:=λe h=>?_ };obtain⟨_,_,_,_,rfl,d⟩:=zBe h;obtain⟨_,rfl,g⟩:=zA1 d;replace h:=g;simp only[x9,qj] at h;obtain⟨⟨⟨rfl,h2⟩,h3⟩,h4⟩:=h;obtain⟨A,D⟩:=zA5 o h2;exact zAw (zSy zDz zMX A D boot_list ((j o p).e _ h4).1 (zAC h3) (by decide) (by decide)) λ_=>rfl
 | max a b j v =>
  refine { e:=λe h=>?_ };obtain⟨_,_,_,_,rfl,d⟩:=zBe h;obtain⟨_,_,rfl,g⟩:=zE4 d;replace h:=g;simp only[x9,qj] at h;obtain⟨⟨⟨⟨⟨rfl,h2⟩,h3⟩,h4⟩,h5⟩,h6⟩:=h;obtain⟨A,D⟩:=zA5 o h2;exact zAw (zUu (zLk o.calm) (λx y z e=>by
   unfold maxD at e;split at e
   .cases e;exact⟨_,_,rfl,rfl,rfl⟩
   .cases e) A D boot_max ((j o p).e _ h5).1 ((v o p).e _ h6).1 (zAC h3) (zAC h4) (by decide) (by decide)) λ_=>rfl
 | isi t a j =>
  refine { e:=λe h=>?_ };obtain⟨G,z2,z3,_,rfl,d⟩:=zA7 h;obtain⟨_,_,rfl,g⟩:=zAN d;obtain⟨_,z4,rfl,w⟩:=zE4 g;obtain⟨_,_,rfl,N⟩:=zAN w;obtain⟨rfl,R⟩:=zBg N;replace h:=R;simp only[x9,qj] at h;obtain⟨⟨⟨⟨⟨rfl,rfl⟩,h2⟩,h3⟩,h4⟩,h5⟩:=h;obtain⟨A,D⟩:=zA5 o h2;obtain⟨g3,g4⟩:=zA5 o h3;exact zAw (zS5 A D g3 g4 ((j o p).e _ h5).1 (zAC h4)) λ_=>rfl
 | chn U d3 a b c j v F =>
  refine { e:=λe h=>?_ };obtain⟨_,G,z2,_,rfl,d⟩:=zDs h;obtain⟨_,_,rfl,g⟩:=zE4 d;obtain⟨_,_,rfl,w⟩:=zE4 g;replace h:=w;simp only[x9,cmB,qj] at h;obtain⟨⟨⟨⟨⟨⟨rfl,rfl⟩,h1⟩,h2⟩,h3⟩,h4⟩,h5⟩:=h;have k:∀ {U:CmpOp},chB U=true->∃ r,OpR X (compareOp U) r/\OpD X.K r (cmpD U):=λ{U} q=>by
   cases U with
   | Lt=>exact⟨_,zR0,zBR (zBo rfl)⟩
   | LtE=>exact⟨_,zR1,zBR (zBo rfl)⟩
   | Gt=>exact⟨_,zR3,zBR (zBo rfl)⟩
   | GtE=>exact⟨_,zR5,zBR (zBo rfl)⟩
   | _=>exact absurd q (by decide)
  obtain⟨r,a1,a2⟩:=k h1;obtain⟨r',b1,b2⟩:=k h2;exact ⟨(zMU a1 b1 ((j o p).e _ h3).1 ((v o p).e _ h4).1 ((F o p).e _ h5).1 (zIA h2)).imp λ_ _ _ q=>zH2 a2 b2 q,(zMO a1 b1 ((j o p).e _ h3).1 ((v o p).e _ h4).1 ((F o p).e _ h5).1 (zIA h2)).imp λ_ _ _ q=>zH2 a2 b2 (zHZ q)⟩
 | callw i es M =>
  refine { e:=λe h=>?_ };obtain⟨_,_,_,_,rfl,d⟩:=zBe h;obtain⟨_,_,rfl,g⟩:=zEJ d;replace h:=g;simp only[x9,qj] at h;obtain⟨⟨⟨h1,h2⟩,h3⟩,h4⟩:=h;obtain⟨d1,d2⟩:=zCR h3;have st:=zGw h4;exact zAw (zM8 o.g.fn o.room h1 (zED h2) d1 d2 ((M o p).es _ h4).1.1 (zAC (st _ q9)) (zBN λe z=>st e (qJ _ z)) o.own) λ_=>rfl
 | callv i a j =>
  refine { e:=λe h=>?_ };obtain⟨_,_,_,_,rfl,d⟩:=zBe h;obtain⟨_,rfl,g⟩:=zA1 d;replace h:=g;simp only[x9,qj] at h;obtain⟨⟨⟨⟨h1,h2⟩,h3⟩,h4⟩,h5⟩:=h;obtain⟨d1,d2⟩:=zCR h3;exact zAw (zM9 o.g.lm o.g.fn o.room h1 (zED h2) d1 d2 ((j o p).e _ h5).1 (zAC h4) o.own) λ_=>rfl
 | fld a f j =>
  refine { e:=λe h=>?_ };obtain⟨_,_,_,rfl,d⟩:=zAm h;replace h:=d;simp only[x9,qj] at h;obtain⟨⟨rfl,h2⟩,h3⟩:=h;exact zAw (zS6 ((j o p).e _ h3).1 (zI0 h2) λc m C q=>o.g.ob _ m C q) λ_=>rfl
 | lrev a j =>
  refine { e:=λe h=>?_ };obtain⟨G,z2,z3,_,rfl,d⟩:=zA7 h;obtain⟨_,_,rfl,g⟩:=zAN d;obtain⟨z4,rfl,w⟩:=zA1 g;obtain⟨z5,z6,z7,_,rfl,N⟩:=zA7 w;obtain⟨_,_,rfl,R⟩:=zAN N;obtain⟨_,rfl,W⟩:=zA1 R;obtain⟨rfl,Y⟩:=zBg W;obtain⟨rfl,Z⟩:=zBg Y;replace h:=Z;simp only[x9,qj] at h;obtain⟨⟨⟨⟨⟨rfl,rfl⟩,h2⟩,h3⟩,h4⟩,h5⟩:=h;obtain⟨A,D⟩:=zA5 o h2;obtain⟨g3,g4⟩:=zA5 o h3;exact zAw (zJC o.calm A D g3 g4 ((j o p).e _ h5).1 (zAC h4)) λ_=>rfl
 | tupl a j =>
  refine { e:=λe h=>?_ };obtain⟨_,_,_,_,rfl,d⟩:=zBe h;obtain⟨_,rfl,g⟩:=zA1 d;replace h:=g;simp only[x9,qj] at h;obtain⟨⟨⟨rfl,h2⟩,h3⟩,h4⟩:=h;obtain⟨A,D⟩:=zA5 o h2;exact zAw (zSy zF8 zJ3 A D (by decide) ((j o p).e _ h4).1 (zAC h3) (by decide) (by decide)) λ_=>rfl
 | comp1 n ms x c7 c el P F L =>
  refine { e:=λe h=>?_ };obtain⟨tg,c2,c9,ifs,b6,K,rfl,q⟩:=zIW o (P o p) (λo'=>F o' (zFU o')) (λo'=>L o' (zFU o')) h;exact zAw (zKz o.calm q.hi q.hs q.cs q.hm q.hg q.hc q.he) λ_=>rfl
 | lzip a b j v =>
  refine { e:=λe h=>?_ };obtain⟨G,z2,z3,_,rfl,d⟩:=zA7 h;obtain⟨_,_,rfl,g⟩:=zAN d;obtain⟨z4,rfl,w⟩:=zA1 g;obtain⟨z5,z6,z7,_,rfl,N⟩:=zA7 w;obtain⟨_,_,rfl,R⟩:=zAN N;obtain⟨_,_,rfl,W⟩:=zE4 R;obtain⟨rfl,Y⟩:=zBg W;obtain⟨rfl,Z⟩:=zBg Y;replace h:=Z;simp only[x9,qj] at h;obtain⟨⟨⟨⟨⟨⟨⟨rfl,rfl⟩,h2⟩,h3⟩,h4⟩,h5⟩,h6⟩,h7⟩:=h;obtain⟨A,D⟩:=zA5 o h2;obtain⟨g3,g4⟩:=zA5 o h3;exact zAw (zJB o.calm A D g3 g4 ((j o p).e _ h6).1 ((v o p).e _ h7).1 (zAC h4) (zAC h5)) λ_=>rfl
 | it a j =>
  refine { i:=λit h=>?_ };replace h:(zKI it&&cE a X.env.scope X.N bs it)=true:=h;simp only[x9] at h;exact⟨λtg=>zSv ((j o p).e _ h.2).1,zE6 h.1⟩
 | r1 a j =>
  refine { i:=λit h=>?_ };obtain⟨_,_,_,_,rfl,d⟩:=zBe h;obtain⟨_,rfl,g⟩:=zA1 d;replace h:=g;simp only[x9,qj] at h;obtain⟨⟨⟨rfl,h2⟩,h3⟩,h4⟩:=h;obtain⟨A,D⟩:=zA5 o h2;exact⟨λtg=>zKw A D ((j o p).e _ h4).1 (zAC h3),λ_=>rfl⟩
 | r2 a b j v =>
  refine { i:=λit h=>?_ };obtain⟨_,_,_,_,rfl,d⟩:=zBe h;obtain⟨_,_,rfl,g⟩:=zE4 d;replace h:=g;simp only[x9,qj] at h;obtain⟨⟨⟨⟨⟨rfl,h2⟩,h3⟩,h4⟩,h5⟩,h6⟩:=h;obtain⟨A,D⟩:=zA5 o h2;exact⟨λtg=>zKv A D ((j o p).e _ h5).1 ((v o p).e _ h6).1 (zAC h3) (zAC h4),λ_=>rfl⟩
 | r3 a b c j v F =>
  refine { i:=λit h=>?_ };obtain⟨_,_,_,_,rfl,d⟩:=zBe h;obtain⟨_,_,_,rfl,g⟩:=zR9 d;replace h:=g;simp only[x9,qj] at h;obtain⟨⟨⟨⟨⟨⟨⟨rfl,h2⟩,h3⟩,h4⟩,h4'⟩,h5⟩,h6⟩,h7⟩:=h;obtain⟨A,D⟩:=zA5 o h2;exact⟨λtg=>zKu A D ((j o p).e _ h5).1 ((v o p).e _ h6).1 ((F o p).e _ h7).1 (zAC h3) (zAC h4) (zAC h4'),λ_=>rfl⟩
 | nil =>
  refine⟨λe h=>(zzf h),λes h=>?_,λoe h=>?_,λit h=>(zzf h),λifs h=>?_⟩
  .cases es with
   | nil=>exact⟨⟨zTB,zQO⟩,λz=>absurd rfl z⟩
   | cons x T=>exact nof h
  .cases oe with
   | none=>exact zQB
   | some x=>exact nof h
  .cases ifs with
   | nil=>exact (λpins s B H Q I V=>by obtain⟨S,O,b,ds,e,c⟩:=V;exact wpAny_tests_nil ⟨H,I,by cases e;exact c H (Same.refl _)⟩)
   | cons x T=>exact nof h
 | cons e es L P =>
  refine⟨λe h=>(zzf h),λl h=>?_,λoe h=>?_,λit h=>(zzf h),λifs h=>?_⟩
  .cases l with
   | nil=>exact nof h
   | cons x T =>
    replace h:(zAY x&&cE e X.env.scope X.N bs x&&cEs es X.env.scope X.N bs T)=true:=h;simp only[x9] at h;obtain⟨⟨h1,h2⟩,h3⟩:=h;obtain⟨q1,q2⟩:=(L o p).e _ h2;refine⟨⟨zQP q1 ((P o p).es _ h3).1.1 (zAC h1),zNC q1 ((P o p).es _ h3).1.2 (zAC h1)⟩,λ_ K=>?_⟩;cases T with
    | nil =>
     have hn:es=.nil:=by cases es<;>first | rfl | exact(zzf h3)
     subst hn;exact⟨⟨zON q1,(zJu q2)⟩,zON q1,(zN1 q2)⟩
    | cons y ys =>
     have hc:∃ a b,es=.cons a b:=by cases es<;>first | exact⟨_,_,rfl⟩ | exact(zzf h3)
     obtain⟨a,b,rfl⟩:=hc;obtain⟨⟨r1,r2⟩,r3,r4⟩:=((P o p).es _ h3).2 (by simp) K;exact⟨⟨zTA q1 r1,zSe q2 r2⟩,zUp q1 r3,zUj q2 r4⟩
  .cases oe with
   | none=>exact nof h
   | some x =>
    replace h:cE e X.env.scope X.N bs x=true:=h;exact zQA ((L o p).e _ h).1
  .cases ifs with
   | nil=>exact nof h
   | cons x T =>
    cases T with
    | nil=>exact (λpins s B H Q I q=>wpAny_tests_one (((L o p).e _ h).2 pins s B H Q I q))
    | cons _ _=>exact nof h
def zBr (h:varB sc N i x=true):N[i]?=some x/\Loc sc x/\Vis sc x/\(x==("__debug__":Str))=false/\(x==("__classdict__":Str))=false:=by
 unfold varB at h;simp at h;obtain⟨⟨h1,h2⟩,h3⟩:=h;exact⟨h1,zER h2,((zER h2).elim .inl λe=>.inr (.inl e)),zCR h3⟩
def zRS (o:XOk X k J bs)(s:∀ x,X.fn x=true)(T:X.xe=λ_ _=>False)(V:X.stack=X.env::X.outer)(M:X.env.frame=some X.env.locals)(a:S) :
  ((∀ st,cS X.env.scope X.N bs a st=true->GS X st (evS J a))/\∀ sts,cSs X.env.scope X.N bs a sts=true->GSs X sts (evSs J a)) /\
  (∀ st,cS X.env.scope X.N bs a st=true->GXs X st (xvS J a))/\∀ sts,cSs X.env.scope X.N bs a sts=true->GXss X sts (xvSs J a):=by
 induction a with
 | nil =>
  refine⟨⟨λst h=>(zzf h),λsts h=>?_⟩,λst h=>zAM,λsts h=>zAM⟩;cases sts with
  | nil=>exact zP5
  | cons x F=>exact nof h
 | cons a b y j =>
  refine⟨⟨λst h=>(zzf h),λsts h=>?_⟩,λst h=>zAM,λsts h=>zAM⟩
  .cases sts with
   | nil=>exact nof h
   | cons x F =>
    replace h:(cS X.env.scope X.N bs a x&&cSs X.env.scope X.N bs b F)=true:=h;simp only[x9] at h;exact zM1 (y.1.1 _ h.1) (j.1.2 _ h.2)
 | frz i r I =>
  refine⟨⟨λst h=>(zzf h),λsts h=>?_⟩,λst h=>zAM,λsts h=>zAM⟩
  .replace h:cSs X.env.scope X.N bs r sts=true:=h;exact zP4 zTH (I.1.2 _ h)
 | set i e =>
  refine⟨⟨λst h=>?_,λsts h=>(zzf h)⟩,λst h=>zAM,λsts h=>zAM⟩
  .obtain ⟨t,_,_,rfl,d⟩:=zBf h;obtain⟨B,rfl,f⟩:=zA1 d;obtain⟨_,_,rfl,g⟩:=zAN f;replace h:=g;simp only[x9,qj] at h;obtain⟨⟨h2,h3⟩,h4⟩:=h;obtain⟨l,p,_⟩:=zBr h2;exact zOM o.nd l p ((zDF o e).e _ h4).1 (zEM h3) (.inl (s _))
 | setC i e =>
  refine⟨⟨λst h=>?_,λsts h=>(zzf h)⟩,λst h=>zAM,λsts h=>zAM⟩;obtain⟨t,_,_,rfl,d⟩:=zBf h;obtain⟨B,rfl,f⟩:=zA1 d;obtain⟨_,_,rfl,g⟩:=zAN f;replace h:=g;simp only[x9,qj] at h;obtain⟨⟨h0,h2⟩,h4⟩:=h;obtain⟨l,p,_⟩:=zBr h2;cases e with
  | comp1 n Y x D c O =>
   obtain⟨Z,G,Q,N,E,K,rfl,q⟩:=zIW o (zDF o D) (λo'=>zDF o' c) (λo'=>zDF o' O) h4;exact zP9 o.calm q.hi q.hs q.cs q.hm q.hg q.hc q.he o.nd l p (.inl (s _))
  | _=>cases h0
 | app i e =>
  refine⟨⟨λst h=>?_,λsts h=>(zzf h)⟩,λst h=>zAM,λsts h=>zAM⟩;obtain⟨t,_,rfl,d⟩:=zDb h;obtain⟨B,H,W,_,rfl,f⟩:=zA7 d;obtain⟨P,_,_,rfl,g⟩:=zAm f;obtain⟨_,_,rfl,w⟩:=zAN g;obtain⟨_,rfl,v⟩:=zA1 w;obtain⟨rfl,u⟩:=zBg v;replace h:=u;simp only[x9,qj] at h;obtain⟨⟨⟨⟨rfl,h2⟩,h3⟩,h4⟩,h5⟩:=h;obtain⟨l,p,z,A,C⟩:=zBr h2;exact zSp l z A C ((zDF o e).e _ h5).1 (zAC h4) rfl h3
 | aug op i e =>
  refine⟨⟨λst h=>?_,λsts h=>(zzf h)⟩,λst h=>zAM,λsts h=>zAM⟩;obtain⟨t,_,_,_,rfl,d⟩:=zEu h;obtain⟨_,_,rfl,f⟩:=zAN d;replace h:=f;simp only[x9,qj,opB] at h;obtain⟨⟨⟨rfl,h2⟩,h3⟩,h4⟩:=h;obtain⟨l,p,_⟩:=zBr h2;exact zSo o.nd l p ((zDF o e).e _ h4).1 (.inl (s _))
 | ext i e =>
  refine⟨⟨λst h=>?_,λsts h=>(zzf h)⟩,λst h=>zAM,λsts h=>zAM⟩;obtain⟨t,_,rfl,d⟩:=zDb h;obtain⟨B,H,W,_,rfl,f⟩:=zA7 d;obtain⟨P,_,_,rfl,g⟩:=zAm f;obtain⟨_,_,rfl,w⟩:=zAN g;obtain⟨_,rfl,v⟩:=zA1 w;obtain⟨rfl,u⟩:=zBg v;replace h:=u;simp only[x9,qj] at h;obtain⟨⟨⟨⟨rfl,h2⟩,h3⟩,h4⟩,h5⟩:=h;obtain⟨l,p,z,A,C⟩:=zBr h2;exact zSn l z A C ((zDF o e).e _ h5).1 (zAC h4) rfl h3
 | ife c a b y j =>
  refine⟨⟨λst h=>?_,λsts h=>(zzf h)⟩,λst h=>zAM,λsts h=>zAM⟩
  .obtain ⟨_,_,_,_,rfl,d⟩:=zKA h;replace h:=d;simp only[x9] at h;obtain⟨⟨h1,h2⟩,h3⟩:=h;exact zUk ((zDF o c).e _ h1).2 (y.1.2 _ h2) (j.1.2 _ h3)
 | whl c b j =>
  refine⟨⟨λst h=>?_,λsts h=>(zzf h)⟩,λst h=>zAM,λsts h=>zAM⟩;obtain⟨_,_,t,_,rfl,d⟩:=zIu h;obtain⟨rfl,f⟩:=zBg d;replace h:=f;simp only[x9] at h;exact zM3 o.own ((zDF o c).e _ h.1).2 (j.1.2 _ h.2)
 | for1 i it b j =>
  refine⟨⟨λst h=>?_,λsts h=>(zzf h)⟩,λst h=>zAM,λsts h=>zAM⟩;obtain⟨t,_,_,B,_,rfl,d⟩:=zH3 h;obtain⟨_,_,rfl,f⟩:=zAN d;obtain⟨rfl,g⟩:=zBg f;replace h:=g;simp only[x9,qj] at h;obtain⟨⟨h2,h3⟩,h4⟩:=h;obtain⟨l,p,_⟩:=zBr h2;obtain⟨L,U⟩:=(zDF o it).i _ h3;exact zSm o.own o.calm (L _) (zKx o.nd l p (.inl (s _))) (j.1.2 _ h4) U
 | ret e =>
  refine⟨⟨λst h=>?_,λsts h=>(zzf h)⟩,λst h=>zAM,λsts h=>zAM⟩
  .obtain ⟨t,_,rfl,d⟩:=zC4 h;obtain⟨_,rfl,f⟩:=zEI d;replace h:=f;exact zSl ((zDF o e).e _ h).1
 | retOwn i =>
  refine⟨⟨λst h=>?_,λsts h=>(zzf h)⟩,λst h=>zAM,λsts h=>zAM⟩;obtain⟨t,_,rfl,d⟩:=zC4 h;obtain⟨B,rfl,f⟩:=zEI d;obtain⟨_,_,rfl,g⟩:=zAN f;replace h:=g;obtain⟨l,p,z,A,C⟩:=zBr h;exact zKr l z A C
 | never=>exact⟨⟨λst _=>zID,λsts h=>(zzf h)⟩,λst h=>zAM,λsts h=>zAM⟩
 | rse c m =>
  exact⟨⟨λst _=>zID,λsts h=>(zzf h)⟩,λst h=>zAM,λsts h=>zAM⟩
end
def zOa {K:W.Frag}{st:Stmt}(F:Fun K x qual st f fd)(sc:zAa N ps (zAA st))
  (d:cSs (zAA st) N bs b (zAG st)=true) (g:GOk P w K mg base k J bs):FnOk P w K mg base CX0 (k+1) f fd ps (spD K (dFun ps.length N.length (evSs J b))) :=
 zTG F sc λcdv A a s H E c =>
  (zRS ⟨g,c,rfl,sc.nd,PassesOwn.never⟩ (λ_=>rfl) rfl rfl rfl b).1.2 _ d
noncomputable def Gm.add (J:Gm)(x:Str)(F:List D->Option R):Gm:=⟨J.fns++[(x,F)],J.cs,J.xf,J.sub,J.rs,J.lm,J.ob⟩
def GOk.add {K:W.Frag}{st:Stmt}(g:GOk P w K mg base k J bs)(F:Fun K x x st f fd)(sc:zAa N ps (zAA st))
  (i:cSs (zAA st) N bs b (zAG st)=true) (m:mg x=some (.ref f)) (d:zBJ K fd ps []):GOk P w K mg base (k+1) (J.add x (dFun ps.length N.length (evSs J b))) bs:=by
 refine⟨λy G h=>?_,g.cs,g.bt,trivial,trivial,trivial,λj L F e=>(g.lm j L F e).mono (Nat.le_succ k),g.ob⟩
 .rcases mem_append.mp h with h | h
  .obtain ⟨l,a,c,h1,h2⟩:=g.fn y G h;exact⟨l,a,c,h1.mono (Nat.le_succ k),h2⟩
  .have e:(y,G)=(x,dFun ps.length N.length (evSs J b)):=by simpa using h
   cases e;exact⟨f,fd,ps,zOa F sc i g,m,F.kp,d⟩
def GOk.addN {K:W.Frag}{st:Stmt}(g:GOk P w K mg base k J bs)(F:Fun K x x st f fd)(m:mg x=some (.ref f))(c:zBJ K fd ps []) :
  GOk P w K mg base k (J.add x (λ_=>none)) bs:=by
 refine⟨λy G h=>?_,g.cs,g.bt,trivial,trivial,trivial,g.lm,g.ob⟩
 .rcases mem_append.mp h with h | h
  .exact g.fn y G h
  .have e:(y,G)=(x,λ_=>none):=by simpa using h
   cases e;exact⟨f,fd,ps,⟨λvs H Q E q=>(by obtain⟨_,_,_,_,_,q,_⟩:=q;cases q),λA a s H b us j Q E i d l n q=>by obtain⟨_,_,_,_,_,q,_⟩:=q;cases q⟩,m,F.kp,c⟩
def GOk.addR {K:W.Frag}{st:Stmt}(g:GOk P w K mg base k J bs)(n:GOk P w K mg base j J' bs)(p:k<=j)(F:Fun K x x st f fd)(sc:zAa N ps (zAA st))
  (l:cSs (zAA st) N bs b (zAG st)=true) (m:mg x=some (.ref f)) (o:zBJ K fd ps []):GOk P w K mg base (j+1) (J.add x (dFun ps.length N.length (evSs J' b))) bs:=by
 refine⟨λy G h=>?_,g.cs,g.bt,trivial,trivial,trivial,λi L F e=>(g.lm i L F e).mono (by omega),g.ob⟩
 .rcases mem_append.mp h with h | h
  .obtain ⟨d,a,c,h1,h2⟩:=g.fn y G h;exact⟨d,a,c,h1.mono (by omega),h2⟩
  .have e:(y,G)=(x,dFun ps.length N.length (evSs J' b)):=by simpa using h
   cases e;exact⟨f,fd,ps,zOa F sc l n,m,F.kp,o⟩
noncomputable def Gm.addL (J:Gm)(L:LamI)(F:List D->Option R):Gm:=⟨J.fns,J.cs,J.xf,J.sub,J.rs,J.lm++[(L,F)],J.ob⟩
noncomputable def lamD (n:Nat)(G:Dst->Option R):List D->Option R:=λds=>if ds.length=n+1/\noFs ds=true then G (ds.map λd=>some (d,false)) else none
def GOk.addL {K:W.Frag}(g:GOk P w K mg base k J bs)(S:zG4 x ys L)(n:frN L=ys)(d:cE be L.scope (x::ys) bs L.body=true) :
  GOk P w K mg base (k+1) (J.addL L (lamD ys.length (evE J be))) bs:=by
 refine⟨λy G h=>let ⟨f,fd,ps,h1,h2⟩:=g.fn y G h;⟨f,fd,ps,h1.mono (Nat.le_succ k),h2⟩,g.cs,g.bt,trivial,trivial,trivial,λj b F e=>?_,g.ob⟩;have a:(J.lm++[_])[j]?=some (b,F):=e;by_cases q:j < J.lm.length
 .rw [getElem?_append_left q] at a;exact(g.lm j b F a).mono (Nat.le_succ k)
 .rw [getElem?_append_right (by omega)] at a;have r:j - J.lm.length=0:=by
   by_cases z:j - J.lm.length=0
   .exact z
   .simp_all
  rw[r] at a;cases a;refine zPm S n λY l i m s p v o c u t=>?_
  subst l i m s p;rw[<- c,<- u] at d;exact((zDF ⟨g,v,o,by rw[c];exact S.nd,by rw[t];exact PassesOwn.never⟩ be).e _ d).1
def zNn (h:absV u=some v):RelV v u:=by
 unfold absV at h;split at h<;>first | cases h;rfl | cases h;exact⟨_,rfl⟩ | cases h
theorem zHu:∀ {us:List Value} {vs:List V},us.map absV=vs.map some->Vals vs us
 | [],[],_=>.nil
 | [],_::_,h=>by simp at h
 | _::_,[],h=>by simp at h
 | u::us,v::vs,h=>by
  simp only[map_cons,List.cons.injEq] at h;exact .cons (zNn h.1) (zHu h.2)
def zFy {K:W.Frag}{b:Str->Option Value}{ns:List Int}(m:b x=some (.ref a))(l:K.lookup a=some ⟨.type "tuple",od,.seq its n,sl⟩)
  (h:its.toList.map absV=(ns.map V.int).map some) (d:ns.length<=1000:=by decide):∃ u v,b x=some u/\RelV v u/\Den K (λ_=>none) (.tup (ns.map D.int)) v:=by
 refine⟨_,.ref a,m,rfl,?_⟩;refine⟨a,ns.map V.int,rfl,.inr ⟨_,its,n,l,rfl,rfl,?_,zHu h⟩,DenL.ints ns⟩;have e:=congrArg List.length h;rw[qy,qy,qy] at e;have c:its.size=ns.length:=e;rw[c];exact Nat.le_of_lt ((Nat.lt_of_le_of_lt d (by decide)))
end DL
end
section
namespace DL
open PySem L2
noncomputable def S.tail:Nat->S->S
 | 0,s=>s
 | n+1,.cons _ b=>S.tail n b
 | n+1,.frz _ b=>S.tail n b
 | _+1,s=>s
def zHe :evE J (.var i)=varD i:=rfl
def zNR :evE J (.glob n x)=zD4 J n x:=rfl
def zQm :evE J (.neg a)=negD (evE J a):=rfl
def zQl :evE J (.not a)=notD (evE J a):=rfl
def zHf :evAnd J (.cons e (.cons a b))=andD (evE J e) (evAnd J (.cons a b)):=rfl
def zJE :evOr J (.cons e (.cons a b))=orD (evE J e) (evOr J (.cons a b)):=rfl
def zQo :evE J (.ite c a b)=iteD (evE J c) (evE J a) (evE J b):=rfl
def zLO :evEs J (.cons e es)=zHn (evE J e) (evEs J es):=rfl
def zQk :evE J (.tup es)=tupD (evEs J es):=rfl
def zQn :evE J (.lst es)=lstD (evEs J es):=rfl
def zNS :evE J (.call n f es)=fnD J n f (evEs J es):=rfl
def zOU :evE J (.sl a lo hi)=slD (evE J a) (evO J lo) (evO J hi):=rfl
def zNN :evO J (.cons e u1)=zFj (evE J e):=rfl
def zTT :evSs J (.cons a b)=seqD (evS J a) (evSs J b):=rfl
def zTz :evSs J (.frz i r)=seqD (frzD i) (evSs J r):=rfl
def zQc :evS J (.set i e)=setD i (evE J e):=rfl
def zNM :evS J (.setC i e)=setD i (evE J e):=rfl
def zQg :evS J (.app i e)=appD i (evE J e):=rfl
def zQe :evS J (.ife c a b)=ifD (asB (evE J c)) (evSs J a) (evSs J b):=rfl
def zQd :evS J (.ret e)=retD (evE J e):=rfl
def zJD :evS J (.retOwn i)=zDY i:=rfl
def zTX :evI J (.it e)=zDP (evE J e):=rfl
def zTW :evI J (.r1 a)=zFc (evE J a):=rfl
def zTV :evI J (.r3 a b c)=zFb (evE J a) (evE J b) (evE J c):=rfl
def zLP :evE J (.comp1 n ms u2 src c e)=zF5 ms 1 (evI J src) (tg1 n) (evC J c) (evE J e):=rfl
def zQp :evE J (.chn op op' a b c)=chD (cmpD op) (cmpD op') (evE J a) (evE J b) (evE J c):=rfl
def zQf :evS J (.ext i e)=extD i (evE J e):=rfl
def zT0 :evE J (.lrev a)=one (evE J a) revD:=rfl
def zDm :evC J .nil=λ_=>some true:=rfl
def EvP {T:Type}(o:Option T)(Q:T->Prop):Prop:=∃ r,o=some r/\Q r
section
variable {T M:Type}{J:Gm}{O:Dst}
def EvP.bind {o:Option T}{f:T->Option M}{Q:M->Prop}(h:EvP o λa=>EvP (f a) Q):EvP (o.bind f) Q:=by
 obtain⟨a,e,b,c,q⟩:=h;exact⟨b,by rw[e];exact c,q⟩
def EvP.eq {o:Option T}{r:T}(h:EvP o λx=>x=r):o=some r:=by
 obtain⟨x,e,rfl⟩:=h;omega
def EvP.imp {o:Option T}{Q a:T->Prop}(h:EvP o Q)(i:∀ x,Q x->a x):EvP o a:=by
 obtain⟨x,e,q⟩:=h;exact⟨x,e,i x q⟩
def CB (b:Bool)(A B:Prop):Prop:=if b=true then A else B
def zA9 [Decidable p](h1:p->A)(h2:¬ p->B):CB (decide p) A B:=by
 unfold CB;grind
def zF7 (h1:b=true->A)(h2:b=false->B):CB b A B:=by
 unfold CB;grind
def cb_t (h:A):CB true A B:=h
def cb_f (h:B):CB false A B:=by assumption
def zDx [Decidable p](a:p)(h:A):CB (decide p) A B:=zA9 (λ_=>h) λn=>absurd a n
def zDy [Decidable p](a:¬ p)(h:B):CB (decide p) A B:=zA9 (λn=>absurd n a) λ_=>h
def zLi (h:CB b B A):CB (!b) A B:=by
 cases b with
 | true=>exact cb_f h
 | false=>exact cb_t (by assumption)
variable {Q:R->Prop}
def zAJ (e:O[i]?=some (some (d,false)))(h:Q (d,.cl)):EvP (evE J (.var i) O) Q:=by
 rw[zHe];unfold varD;rw[e];exact⟨_,rfl,h⟩
def zIJ (e:O[i]?=some (some (.lst d,o)))(h:Q (.lst d,if o then .dt else .cl)):EvP (evE J (.var i) O) Q:=by
 rw[zHe];unfold varD;rw[e];cases o<;>exact⟨_,rfl,h⟩
def zUy (e:O[i]?=some (some (.lst d,true)))(h:Q (.lst d,.dt)):EvP (evE J (.var i) O) Q:=by
 rw[zHe];unfold varD;rw[e];exact⟨_,rfl,h⟩
def zNG (e:O[i]?=some (some (.fn n x,false)))(a:J.fns[n]?=some (x,F))(h:EvP (evEs J es O) λds=>EvP (F ds) λr=>r.2≠.dt/\Q r):EvP (evE J (.callw i es) O) Q:=by
 obtain⟨y,f,r,b,c,q⟩:=h;refine⟨r,?_,q⟩;show zGt J.fns i _ O=_;unfold zGt;have d:fnvF J.fns n x y=some r:=by unfold fnvF;rw[a];exact(if_pos rfl).trans b
 simp_all
def zNH (e:O[i]?=some (some (.lam j L dl,false)))(b:J.lm[j]?=some (L,F))(h:EvP (evE J a O) λx=>x.2≠.dt/\EvP (F (x.1::dl)) λr=>r.2≠.dt/\Q r):EvP (evE J (.callv i a) O) Q:=by
 obtain⟨x,g,nx,r,c,d,q⟩:=h;refine⟨r,?_,q⟩;show zEk J.lm J.fns i _ O=_;unfold zEk;have f:lamF J.lm j L (x.1::dl)=some r:=by unfold lamF;rw[b];exact(if_pos rfl).trans c
 simp_all
def zCE (e:J.cs[n]?=some (x,d))(h:Q (d,.cl)):EvP (evE J (.glob n x) O) Q:=by
 rw[zNR];unfold zD4;rw[e];exact⟨_,if_pos rfl,h⟩
def zAk (h:Q (.int i,.cl)):EvP (evE J (.int i) O) Q:=⟨_,rfl,h⟩
def zUz (h:Q (.bl b,.cl)):EvP (evE J (.bl b) O) Q:=⟨_,rfl,h⟩
def zTP (h:Q (.non,.cl)):EvP (evE J .non O) Q:=⟨_,rfl,h⟩
def zGk (h:EvP (f O) λx=>EvP (g O) λy=>EvP (o x.1 y.1) Q):EvP (two f g o O) Q:=EvP.bind (h.imp λ_ q=>EvP.bind q)
def zAl (h:EvP (evE J a O) λx=>EvP (evE J b O) λy=>EvP (binD op x.1 y.1) Q):EvP (evE J (.bin op a b) O) Q:=zGk h
def zDw (h:EvP (evE J a O) λx=>EvP (evE J b O) λy=>EvP (cmpD op x.1 y.1) Q):EvP (evE J (.cmp op a b) O) Q:=zGk h
def zBh (h:EvP (evE J a O) λx=>EvP (evE J b O) λy=>EvP (ixD x.1 y.1) Q):EvP (evE J (.ix a b) O) Q:=zGk h
def zTR (h:EvP (evE J a O) λx=>EvP (evE J b O) λy=>EvP (maxD x.1 y.1) Q):EvP (evE J (.max a b) O) Q:=zGk h
def zLG (h:EvP (evE J a O) λx=>EvP (evE J b O) λy=>EvP (zipD x.1 y.1) Q):EvP (evE J (.lzip a b) O) Q:=zGk h
def zT1 (l:xs.length=ys.length/\xs.length<=10000)(h:Q (.lst (zipT xs ys),.fr)):EvP (zipD (.lst xs) (.lst ys)) Q:=⟨_,if_pos l,h⟩
def zFE (h:EvP (f O) λx=>EvP (o x.1) Q):EvP (one f o O) Q:=EvP.bind h
def zB3 (h:EvP (evE J a O) λx=>EvP (lenD x.1) Q):EvP (evE J (.len a) O) Q:=zFE h
def zTS (h:EvP (evE J a O) λx=>EvP (absD x.1) Q):EvP (evE J (.abs a) O) Q:=zFE h
def zEb (h:EvP (evE J a O) λx=>EvP (zHS x.1) Q):EvP (evE J (.list a) O) Q:=zFE h
def zLH (h:EvP (evE J a O) λx=>EvP (isiF t x.1) Q):EvP (evE J (.isi t a) O) Q:=zFE h
def zUc (h:Q (.bl true,.cl)):EvP (isiF .int (.int i)) Q:=⟨_,rfl,h⟩
def zUd (h:Q (.bl false,.cl)):EvP (isiF .bool (.int i)) Q:=⟨_,rfl,h⟩
def zUa (h:Q (.bl true,.cl)):EvP (isiF .tuple (.tup ds)) Q:=⟨_,rfl,h⟩
def zPt (h:Q (.bl true,.cl)):EvP (isiF .list (.lst ds)) Q:=⟨_,rfl,h⟩
def zTQ (h:EvP (evE J a O) λx=>∃ i,x.1=.int i/\Q (.int (-i),.cl)):EvP (evE J (.neg a) O) Q:=by
 obtain⟨⟨d,k⟩,e,i,ei,q⟩:=h;cases ei;rw[zQm];unfold negD;rw[e];exact⟨_,rfl,q⟩
def zFM {f:Dst->Option R}{b:Bool}{k:Kd}(e:f O=some (.bl b,k)):asB f O=some b:=by unfold asB;rw[e]
def zIL (h:EvP (evE J a O) λx=>∃ b,x.1=.bl b/\Q (.bl (!b),.cl)):EvP (evE J (.not a) O) Q:=by
 obtain⟨⟨d,k⟩,e,b,eb,q⟩:=h;cases eb;rw[zQl];unfold notD;rw[zFM e];exact⟨_,rfl,q⟩
def zQZ (h:EvP (evAnd J es O) Q):EvP (evE J (.andl es) O) Q:=h
def zLD (h:EvP (evOr J es O) Q):EvP (evE J (.orl es) O) Q:=h
def zHd (h:EvP (evE J e O) Q):EvP (evAnd J (.cons e .nil) O) Q:=h
def zLF (h:EvP (evE J e O) Q):EvP (evOr J (.cons e .nil) O) Q:=h
def zQa (h:EvP (evE J e O) λx=>∃ k,x.1=.bl k/\CB k (EvP (evAnd J (.cons a b) O) Q) (Q (.bl false,.cl))):EvP (evAnd J (.cons e (.cons a b)) O) Q:=by
 obtain⟨⟨d,c⟩,e,k,ek,q⟩:=h;cases ek;rw[zHf];unfold andD;rw[zFM e];cases k with
 | true=>exact q
 | false=>exact⟨_,rfl,by unfold CB at q;exact q⟩
def zLE (h:EvP (evE J e O) λx=>∃ k,x.1=.bl k/\CB k (Q (.bl true,.cl)) (EvP (evOr J (.cons a b) O) Q)):EvP (evOr J (.cons e (.cons a b)) O) Q:=by
 obtain⟨⟨d,c⟩,e,k,ek,q⟩:=h;cases ek;rw[zJE];unfold orD;rw[zFM e];cases k with
 | true=>exact⟨_,rfl,q⟩
 | false =>
  assumption
def zOR (h:EvP (evE J c O) λx=>∃ k,x.1=.bl k/\CB k (EvP (evE J a O) Q) (EvP (evE J b O) Q)):EvP (evE J (.ite c a b) O) Q:=by
 obtain⟨⟨d,f⟩,e,k,ek,q⟩:=h;cases ek;rw[zQo];unfold iteD;rw[zFM e];cases k with
 | true=>exact q
 | false =>
  assumption
def zAs {Q:List D->Prop}(h:Q []):EvP (evEs J .nil O) Q:=⟨_,rfl,h⟩
def zAH {Q:List D->Prop}(h:EvP (evE J e O) λx=>x.2≠.dt/\EvP (evEs J es O) λxs=>Q (x.1::xs)):EvP (evEs J (.cons e es) O) Q:=by
 rw[zLO];obtain⟨x,e,a,xs,b,q⟩:=h;exact⟨_,by unfold zHn;rw[e];show (if x.2=.dt then none else _)=_;rw[if_neg a,b];rfl,q⟩
def zIK (h:EvP (evEs J es O) λxs=>xs.length<=10000/\Q (.tup xs,.cl)):EvP (evE J (.tup es) O) Q:=by
 rw[zQk];obtain⟨xs,e,l,q⟩:=h;exact⟨_,by unfold tupD;rw[e];exact if_pos l,q⟩
def zOQ (h:EvP (evEs J es O) λxs=>xs.length<=10000/\Q (.lst xs,.fr)):EvP (evE J (.lst es) O) Q:=by
 rw[zQn];obtain⟨xs,e,l,q⟩:=h;exact⟨_,by unfold lstD;rw[e];exact if_pos l,q⟩
def zAL (e:J.fns[n]?=some (f,F))(h:EvP (evEs J es O) λds=>EvP (F ds) λr=>r.2≠.dt/\Q r):EvP (evE J (.call n f es) O) Q:=by
 rw[zNS];unfold fnD;obtain⟨ds,b,r,c,a,q⟩:=h;refine⟨r,?_,q⟩;unfold zJG
 simp_all
def zQX (h:EvP (evE J a O) λx=>EvP (evO J lo O) λl=>EvP (evO J hi O) λu=>∃ ds,x.1=.lst ds/\Q (.lst (cutD ds l u),.fr)):EvP (evE J (.sl a lo hi) O) Q:=by
 rw[zOU];obtain⟨⟨d,k⟩,e,l,e1,u,e2,ds,ed,q⟩:=h;cases ed;exact⟨_,by unfold slD;rw[e];rw[e1];rw[e2];rfl,q⟩
def zTO (h:EvP (evE J a O) λx=>EvP (evO J lo O) λl=>EvP (evO J hi O) λu=>∃ ds,x.1=.tup ds/\¬ (HT.sIx ds.length 0 l=0/\HT.sIx ds.length ds.length u=ds.length)/\Q (.tup (cutD ds l u),.cl)):EvP (evE J (.sl a lo hi) O) Q:=by
 rw[zOU];obtain⟨⟨d,k⟩,e,l,e1,u,e2,ds,ed,nw,q⟩:=h;cases ed;exact⟨_,by unfold slD;rw[e];rw[e1];rw[e2];exact if_neg nw,q⟩
def zOW {Q:Option Int->Prop}(h:Q none):EvP (evO J .nil O) Q:=⟨_,rfl,h⟩
def zLS {Q:Option Int->Prop}(h:EvP (evE J e O) λx=>∃ i,x.1=.int i/\Q (some i)):EvP (evO J (.cons e b) O) Q:=by
 rw[zNN];obtain⟨⟨d,k⟩,e,i,ei,q⟩:=h;cases ei;exact⟨_,by unfold zFj;rw[e],q⟩
def zJH (h:Q (.int (i+j),.cl)):EvP (binD .Add (.int i) (.int j)) Q:=⟨_,rfl,h⟩
def zNl (l:xs.length+ys.length<=10000)(h:Q (.lst (xs++ys),.fr)):EvP (binD .Add (.lst xs) (.lst ys)) Q:=⟨_,if_pos l,h⟩
def zTp (h:Q (.int (i - j),.cl)):EvP (binD .Sub (.int i) (.int j)) Q:=⟨_,rfl,h⟩
def zAx (l:IntMulOk i j)(h:Q (.int (i*j),.cl)):EvP (binD .Mult (.int i) (.int j)) Q:=⟨_,by show mulD i j=_;exact if_pos l,h⟩
def zCK (l:zJL i j)(h:Q (.int (i.fdiv j),.cl)):EvP (binD .FloorDiv (.int i) (.int j)) Q:=⟨_,by show zQS i j=_;exact if_pos l,h⟩
def zBD (l:j≠0)(h:Q (.int (i.fmod j),.cl)):EvP (binD .Mod (.int i) (.int j)) Q:=⟨_,if_neg l,h⟩
def zU1 (l:0<=j/\j<=1000000/\i.natAbs < 2^64)(h:Q (.int (i^j.toNat),.cl)):EvP (binD .Pow (.int i) (.int j)) Q:=⟨_,if_pos l,h⟩
def c_lt (h:Q (.bl (decide (i < j)),.cl)):EvP (cmpD .Lt (.int i) (.int j)) Q:=⟨_,rfl,h⟩
def c_le (h:Q (.bl (decide (i<=j)),.cl)):EvP (cmpD .LtE (.int i) (.int j)) Q:=⟨_,rfl,h⟩
def c_gt (h:Q (.bl (decide (j < i)),.cl)):EvP (cmpD .Gt (.int i) (.int j)) Q:=⟨_,rfl,h⟩
def zQq (i j:Int):eqb (.int i) (.int j)=decide (i=j):=rfl
def zTm (h:Q (.bl (decide (i=j)),.cl)):EvP (cmpD .Eq (.int i) (.int j)) Q:=⟨_,by show eqD id _ _=_;rfl,h⟩
def zQw (h:Q (.bl (!decide (i=j)),.cl)):EvP (cmpD .NotEq (.int i) (.int j)) Q:=⟨_,by show eqD _ _ _=_;unfold eqD;rw[if_pos (⟨by rfl,by rw[toPy];rfl,by rw[toPy];exact zero_le _⟩),zQq],h⟩
def c_eq (l:EqOk x y)(h:Q (.bl (eqb x y),.cl)):EvP (cmpD .Eq x y) Q:=⟨_,by show eqD id _ _=_;exact if_pos l,h⟩
def zD3 (e:atI ds i=some d)(h:Q (d,.cl)):EvP (ixD (.tup ds) (.int i)) Q:=⟨_,by show (atI ds i).map _=_;rw[e];rfl,h⟩
def zAo (e:atI ds i=some d)(h:Q (d,.cl)):EvP (ixD (.lst ds) (.int i)) Q:=⟨_,by show (atI ds i).map _=_;rw[e];rfl,h⟩
def zGf (h:Q (.int ds.length,.cl)):EvP (lenD (.lst ds)) Q:=⟨_,rfl,h⟩
def zSS (h:Q (.int ds.length,.cl)):EvP (lenD (.tup ds)) Q:=⟨_,rfl,h⟩
def zU2 (h:Q (.int (i.natAbs:Int),.cl)):EvP (absD (.int i)) Q:=⟨_,rfl,by
 have e:(if i < 0 then -i else i)=(i.natAbs:Int):=by split<;>omega
 rw[e];exact h⟩
def zHv (h:Q (.lst ds,.fr)):EvP (zHS (.lst ds)) Q:=⟨_,rfl,h⟩
def zUP (h:Q (.int (max i j),.cl)):EvP (maxD (.int i) (.int j)) Q:=⟨_,rfl,by
 have e:(if j>i then j else i)=max i j:=by split<;>omega
 rw[e];exact h⟩
end
section
variable {J:Gm}{O:Dst}{Q:Out->Prop}
def Kt (J:Gm)(rest:S)(Q:Out->Prop):Out->Prop
 | .nx O1=>EvP (evSs J rest O1) Q
 | o=>Q o
def k_nx (h:EvP (evSs J rest O) Q):Kt J rest Q (.nx O):=h
def k_rt (h:Q (.rt r)):Kt J rest Q (.rt r):=h
def zBH (h:Q (.nx O)):EvP (evSs J .nil O) Q:=⟨_,rfl,h⟩
theorem zLB (h:EvP (f O) λo=>match o with | .nx O1=>EvP (g O1) Q | o=>Q o):EvP (seqD f g O) Q:=by
 obtain⟨o,e,q⟩:=h;unfold seqD;rw[e];cases o with
 | nx O1=>exact q
 | rt r=>exact⟨_,rfl,q⟩
 | bk O1=>exact⟨_,rfl,q⟩
 | ct O1=>exact⟨_,rfl,q⟩
def zAD (h:EvP (evS J a O) (Kt J b Q)):EvP (evSs J (.cons a b) O) Q:=by
 refine zLB (h.imp λo q=>?_)
 assumption
def zII (e:O[i]?=some (some (d,true)))(h:EvP (evSs J r (O.set i (some (d,false)))) Q):EvP (evSs J (.frz i r) O) Q:=zLB ⟨_,by unfold frzD;rw[e],h⟩
def zHc (e:O[i]?=some (some (d,false)))(h:EvP (evSs J r O) Q):EvP (evSs J (.frz i r) O) Q:=zLB ⟨_,by unfold frzD;rw[e],h⟩
noncomputable def ownK:Kd->Option Bool
 | .cl=>some false
 | .fr=>some true
 | .dt=>none
def zCz (h:EvP (evE J e O) λr=>∃ o,ownK r.2=some o/\Q (.nx (O.set i (some (r.1,o))))):EvP (evS J (.set i e) O) Q:=by
 rw[zQc];obtain⟨⟨d,k⟩,e,o,eo,q⟩:=h;unfold setD;rw[e];cases k with
 | cl=>cases eo;exact⟨_,rfl,q⟩
 | fr=>cases eo;exact⟨_,rfl,q⟩
 | dt=>cases eo
def zHg (h:EvP (evE J e O) λr=>∃ o,ownK r.2=some o/\Q (.nx (O.set i (some (r.1,o))))):EvP (evS J (.setC i e) O) Q:=by
 rw[zNM];obtain⟨⟨d,k⟩,e,o,eo,q⟩:=h;unfold setD;rw[e];cases k with
 | cl=>cases eo;exact⟨_,rfl,q⟩
 | fr=>cases eo;exact⟨_,rfl,q⟩
 | dt=>cases eo
def zCd (c:O[i]?=some (some (.lst xs,true)))(a:xs.length<=10000)(h:EvP (evE J e O) λr=>r.2≠.dt/\Q (.nx (O.set i (some (.lst (xs++[r.1]),true))))):EvP (evS J (.app i e) O) Q:=by
 rw[zQg];obtain⟨r,e,b,q⟩:=h;unfold appD;rw[c];exact⟨_,by dsimp only;rw[e];show (if r.2=.dt then none else _)=_;rw[if_neg b,if_pos a],q⟩
def zEc (h:EvP (evE J c O) λx=>∃ k,x.1=.bl k/\CB k (EvP (evSs J a O) Q) (EvP (evSs J b O) Q)):EvP (evS J (.ife c a b) O) Q:=by
 rw[zQe];obtain⟨⟨d,f⟩,e,k,ek,q⟩:=h;cases ek;unfold ifD;rw[zFM e];cases k with
 | true=>exact q
 | false =>
  assumption
def zBL (h:EvP (evE J e O) λr=>r.2≠.dt/\Q (.rt r)):EvP (evS J (.ret e) O) Q:=by
 rw[zQd];obtain⟨r,e,a,q⟩:=h;exact⟨_,by unfold retD;rw[e];exact if_neg a,q⟩
def zLQ (e:O[i]?=some (some (.lst d,true)))(h:Q (.rt (.lst d,.fr))):EvP (evS J (.retOwn i) O) Q:=by
 rw[zJD];exact⟨_,by unfold zDY;rw[e],h⟩
theorem zB5 (h:EvP (c O) λk=>CB k (EvP (b O) λo=>match o with
      | .nx O1=>EvP (zBW c b O1) Q
      | .ct O1=>EvP (zBW c b O1) Q
      | .bk O1=>Q (.nx O1)
      | .rt r=>Q (.rt r)) (Q (.nx O))):EvP (zBW c b O) Q:=by
  obtain⟨k,ek,q⟩:=h;cases k with
  | false =>
    unfold CB at q;rw[if_neg qY] at q;refine⟨_,zBx (n:=1) (o:=.nx O) ?_,q⟩;show (c O).bind _=_;rw[ek];rfl
  | true =>
    obtain⟨o,eo,q⟩:EvP (b O) _:=q;cases o with
    | nx O1 =>
      obtain⟨z,ez,q⟩:=q;obtain⟨n,en⟩:=zDT ez;refine⟨z,zBx (n:=n+1) ?_,q⟩;show (c O).bind _=_;rw[ek,qx,if_pos rfl,eo];exact en
    | ct O1 =>
      obtain⟨z,ez,q⟩:=q;obtain⟨n,en⟩:=zDT ez;refine⟨z,zBx (n:=n+1) ?_,q⟩;show (c O).bind _=_;rw[ek,qx,if_pos rfl,eo];exact en
    | bk O1 =>
      refine⟨_,zBx (n:=1) (o:=.nx O1) ?_,q⟩;show (c O).bind _=_;rw[ek,qx,if_pos rfl,eo];rfl
    | rt r =>
      refine⟨_,zBx (n:=1) (o:=.rt r) ?_,q⟩;show (c O).bind _=_;rw[ek,qx,if_pos rfl,eo];rfl
def zOV (h:EvP (zBW (asB (evE J c)) (evSs J b) O) Q):EvP (evS J (.whl c b) O) Q:=h
def as_b {Q:Bool->Prop}(h:EvP (evE J c O) λx=>∃ k,x.1=.bl k/\Q k):EvP (asB (evE J c) O) Q:=by
 obtain⟨⟨d,a⟩,e,k,ek,q⟩:=h;cases ek;exact⟨k,zFM e,q⟩
def zC9 (h:EvP (evI J it O) λxs=>EvP (forD (tg1 i) (evSs J b) xs O) Q):EvP (evS J (.for1 i it b) O) Q:=EvP.bind h
def zIm {Q:List D->Prop}(h:EvP (evE J e O) λx=>∃ ds,x.2≠.dt/\(x.1=.lst ds\/x=(.tup ds,.cl))/\Q ds):EvP (evI J (.it e) O) Q:=by
 obtain⟨⟨d,k⟩,e,ds,nd,ed,q⟩:=h;refine⟨ds,?_,q⟩;rw[zTX];unfold zDP;rw[e];rcases ed with ed | ed
 .cases ed;cases k with
  | cl=>rfl
  | fr=>rfl
  | dt=>exact absurd rfl nd
 .simp_all
def w_cl {P:List D->Prop}(h:P ds):∃ d,((D.lst ds,Kd.cl):R).2≠.dt/\(((D.lst ds,Kd.cl):R).1=.lst d\/((D.lst ds,Kd.cl):R)=(.tup d,.cl))/\P d:=by simp_all
def w_fr {P:List D->Prop}(h:P ds):∃ d,((D.lst ds,Kd.fr):R).2≠.dt/\(((D.lst ds,Kd.fr):R).1=.lst d\/((D.lst ds,Kd.fr):R)=(.tup d,.cl))/\P d:=by simp_all
def w_tu {P:List D->Prop}(h:P ds):∃ d,((D.tup ds,Kd.cl):R).2≠.dt/\(((D.tup ds,Kd.cl):R).1=.lst d\/((D.tup ds,Kd.cl):R)=(.tup d,.cl))/\P d:=by simp_all
def zIl {Q:List D->Prop}(h:EvP (evE J a O) λx=>∃ j,x.1=.int j/\(-(2^62)<=j/\j < 2^62)/\Q (rngL 0 j.toNat)):EvP (evI J (.r1 a) O) Q:=by
 obtain⟨⟨d,k⟩,e,j,ej,hj,q⟩:=h;cases ej;refine⟨_,?_,q⟩;rw[zTW];unfold zFc;rw[e];exact if_pos hj
def zRQ {Q:List D->Prop}(h:EvP (evE J a O) λx=>EvP (evE J b O) λy=>EvP (evE J c O) λz=>∃ i j k,x.1=.int i/\y.1=.int j/\z.1=.int k/\ROk i j k/\Q (rngS i k (Builtin.Range.rangeSize i j k).toNat)):EvP (evI J (.r3 a b c) O) Q:=by
 obtain⟨⟨d,k⟩,e,⟨d2,k2⟩,e2,⟨d3,k3⟩,e3,i,j,l,ei,ej,el,hj,q⟩:=h;refine⟨_,?_,q⟩;rw[zTV];unfold zFb
 simp_all
def zCt {Q:R->Prop}(h:EvP (evI J src O) λzs=>zs.length<=10000/\EvP (zCF (tg1 n) (evC J c) (evE J el) zs (mask none ms O++[none])) λys=>Q (.lst ys,.fr)):EvP (evE J (.comp1 n ms x src c el) O) Q:=by
 obtain⟨zs,e,b,ys,a,q⟩:=h;refine⟨_,?_,q⟩;rw[zLP];unfold zF5
 simp_all
theorem zOc {Q:List D->Prop}(hn:base.length=n)(g:D->D):∀ (zs:List D) (o:Option (D×Bool)),(∀ z∈zs,EvP (evE J el (base++[some (z,false)])) λr=>r.2≠.dt/\r.1=g z)->Q (zs.map g)->EvP (zCF (tg1 n) (evC J .nil) (evE J el) zs (base++[o])) Q
 | [],o,_,h=>⟨_,rfl,h⟩
 | z::zs,o,hz,h=>by
  obtain⟨r,e,nd,er⟩:=hz z q9;obtain⟨ys,e2,q⟩:=zOc hn g zs (some (z,false)) (Q:=λys=>Q (g z::ys)) (λy hy=>hz y (qJ _ hy)) h;refine⟨_,?_,q⟩;have es:(base++[o]).set n (some (z,false))=base++[some (z,false)]:=by
   rw[set_append_right _ _ (by omega),hn,sub_self];rfl
  show (tg1 n z (base++[o])).bind _=_;unfold tg1;rw[es,qx,zDm,qx,if_pos rfl,e,qx,if_neg nd,er];show (zCF _ _ _ zs (base++[some (z,false)])).bind _=_;unfold tg1 at e2;rw[zDm] at e2;rw[e2]
  rfl
def zIG (h:Q (.nx O)):EvP (forD t b [] O) Q:=⟨_,rfl,h⟩
def Kf (t:D->Dst->Option Dst)(b:Dst->Option Out)(xs:List D)(Q:Out->Prop):Out->Prop
 | .nx O1=>EvP (forD t b xs O1) Q
 | .ct O1=>EvP (forD t b xs O1) Q
 | .bk O1=>Q (.nx O1)
 | .rt r=>Q (.rt r)
def zCb (e:t x O=some O5)(h:EvP (b O5) (Kf t b xs Q)):EvP (forD t b (x::xs) O) Q:=by
 obtain⟨o,a,q⟩:=h;cases o with
 | nx d =>
  obtain⟨z,c,q⟩:=q;exact⟨z,by show (t x O).bind _=_;rw[e];show (b O5).bind _=_;rw[a];exact c,q⟩
 | ct d =>
  obtain⟨z,c,q⟩:=q;exact⟨z,by show (t x O).bind _=_;rw[e];show (b O5).bind _=_;rw[a];exact c,q⟩
 | bk d=>exact⟨_,by show (t x O).bind _=_;rw[e];show (b O5).bind _=_;rw[a];rfl,q⟩
 | rt r=>exact⟨_,by show (t x O).bind _=_;rw[e];show (b O5).bind _=_;rw[a];rfl,q⟩
def zKg (h:EvP (forD t b xs O) Q):Kf t b xs Q (.nx O):=h
theorem zDv (I:List D->Dst->Prop)(hs:∀ (x:D) (xs:List D) (O:Dst),I (x::xs) O->∃ O5,t x O=some O5/\EvP (b O5) λo=>match o with
   | .nx O1=>I xs O1
   | .ct O1=>I xs O1
   | .bk O1=>Q (.nx O1)
   | .rt r=>Q (.rt r)) (hd:∀ O,I [] O->Q (.nx O)):∀ (xs:List D) (O:Dst),I xs O->EvP (forD t b xs O) Q
 | [],O,h=>zIG (hd O h)
 | x::xs,O,h=>by
  obtain⟨O5,e,q⟩:=hs x xs O h;refine zCb e (q.imp λo z=>?_);cases o with
  | nx O1=>exact zDv I hs hd xs O1 z
  | ct O1=>exact zDv I hs hd xs O1 z
  | bk O1=>exact z
  | rt r=>exact z
def Kd' (Q:R->Prop):Out->Prop
 | .rt r=>Q r
 | .nx _=>Q (.non,.cl)
 | _=>False
def zQV {Q:R->Prop}(h1:ds.length=np)(h2:np<=nN)(h:EvP (evSs J b (ds.map (λd=>some (d,false))++List.replicate (nN - np) none)) (Kd' Q)):EvP (dFun np nN (evSs J b) ds) Q:=by
 unfold dFun;rw[if_pos ⟨h1,h2⟩];obtain⟨o,e,q⟩:=h;rw[e];cases o with
 | rt r=>exact⟨_,rfl,q⟩
 | nx _=>exact⟨_,rfl,q⟩
 | bk _=>exact q.elim
 | ct _=>exact q.elim
def zUW {Q:R->Prop}(h:Q r):Kd' Q (.rt r):=h
end
section
variable {J:Gm}{O:Dst}{Q:R->Prop}
def zOT (h:EvP (evE J a O) λx=>EvP (evE J b O) λy=>EvP (cmpD op x.1 y.1) λr=>∃ k,r.1=.bl k/\CB k (EvP (evE J c O) λz=>EvP (cmpD op' y.1 z.1) Q) (Q (.bl false,.cl))):EvP (evE J (.chn op op' a b c) O) Q:=by
 rw[zQp];obtain⟨x,e,y,f,⟨d,g⟩,er,k,ek,q⟩:=h;cases ek;unfold chD;rw[e,f];show EvP (match cmpD op x.1 y.1 with | some (.bl true,_)=>(evE J c O).bind λz=>cmpD op' y.1 z.1 | some (.bl false,_)=>some _ | _=>none) Q;rw[er];cases k with
 | true=>exact EvP.bind q
 | false=>unfold CB at q;exact⟨_,rfl,q⟩
def zF3 (h:EvP (evE J a O) λx=>EvP (zEx x.1) Q):EvP (evE J (.tupl a) O) Q:=zFE h
def zMA (h:Q (.tup ds,.cl)):EvP (zEx (.lst ds)) Q:=⟨_,rfl,h⟩
end
def zTY (a:O[i]?=some (some (.lst xs,true)))(h:EvP (evE J e O) λr=>∃ ys,r=(.lst ys,.fr)/\xs.length+ys.length<=10000/\Q (.nx (O.set i (some (.lst (xs++ys),true))))):EvP (evS J (.ext i e) O) Q:=by
 rw[zQf];obtain⟨r,c,ys,rfl,b,q⟩:=h;refine⟨_,?_,q⟩;unfold extD;rw[a,c];exact if_pos b
def zQY (h:EvP (evE J a O) λx=>∃ xs,x.1=.lst xs/\xs.length<=10000/\Q (.lst xs.reverse,.fr)):EvP (evE J (.lrev a) O) Q:=by
 obtain⟨x,e,xs,c,b,q⟩:=h;refine zFE ⟨x,e,_,?_,q⟩;rw[c];exact if_pos b
end DL
end
section
namespace DM
noncomputable def msr (t b:Int):Int:=if b < 0 then -(Int.gcd t b:Int) else (Int.gcd t b:Int)
def zKO (a:b≠0):msr t b≠0:=by
 unfold msr;have h:Int.gcd t b≠0:=λh=>a (Int.gcd_eq_zero_iff.mp h).2
 omega
def zGa (t b:Int):msr t b∣t:=by
 unfold msr;split
 .exact Int.neg_dvd.mpr (Int.gcd_dvd_left ..)
 .exact Int.gcd_dvd_left ..
def zKP (t b:Int):msr t b∣b:=by
 unfold msr;split
 .exact Int.neg_dvd.mpr (Int.gcd_dvd_right ..)
 .exact Int.gcd_dvd_right ..
def zC8 {b:Int}(h:b∣a):a.fdiv b=a / b:=Int.fdiv_eq_ediv_of_dvd h
def zHO (a:b≠0):t.fdiv (msr t b)=(Rat.divInt t b).num:=by
 rw[zC8 (zGa t b),Rat.num_divInt,Int.gcd_comm b t];unfold msr;by_cases h:b < 0
 .rw [if_pos h,Int.sign_eq_neg_one_of_neg h,Int.ediv_neg,Int.neg_one_mul];rw[Int.neg_ediv_of_dvd (Int.gcd_dvd_left ..)]
 .rw [if_neg h,Int.sign_eq_one_of_pos (by omega),Int.one_mul]
def zKQ (a:b≠0):b.fdiv (msr t b)=((Rat.divInt t b).den:Int):=by
 rw[zC8 (zKP t b),Rat.den_divInt,Int.gcd_comm b t];unfold msr;by_cases h:b < 0
 .rw [if_pos h,Int.ediv_neg,<- Int.neg_ediv_of_dvd (Int.gcd_dvd_right ..)];grind
 .grind
def zTe (t b:Int)(a:b≠0):(Rat.divInt t b).den<=b.natAbs:=by
 rw[Rat.den_divInt,if_neg a];exact Nat.div_le_self _ _
def zSA (t b:Int)(a:b≠0):(Rat.divInt t b).num.natAbs<=t.natAbs:=by
 rw[<- zHO a,zC8 (zGa t b)];exact Int.natAbs_ediv_le_natAbs _ _
def zU0 (a:b≠0)(q:Rat):q=Rat.divInt t b<->q.num*b=t*(q.den:Int):=by
 constructor
 .intro h;have e:=Rat.num_divInt_den q;rw[h] at e;rw[h];have z:((Rat.divInt t b).den:Int)≠0:=by
   have:=(Rat.divInt t b).den_nz;omega
  exact(Rat.divInt_eq_divInt_iff z a).mp e
 .intro h;rw[<- Rat.num_divInt_den q];have z:(q.den:Int)≠0:=by
   have:=q.den_nz;omega
  exact(Rat.divInt_eq_divInt_iff z a).mpr h
def zIE (c:0<=a)(d:0 < b):Int.gcd b (a.fmod b)=Int.gcd a b:=by
 rw[Int.fmod_eq_emod_of_nonneg a (by omega)];have h1:(a%b).natAbs=a.natAbs%b.natAbs:=by
  grind
 show Nat.gcd b.natAbs (a%b).natAbs=Nat.gcd a.natAbs b.natAbs;rw[h1,Nat.gcd_comm b.natAbs,<- Nat.gcd_rec,Nat.gcd_comm]
noncomputable def nadd:List Rat->List Rat
 | a::b::r=>(a+b)::nadd r
 | l=>l
noncomputable def sumR:List Rat->Rat
 | []=>0
 | a::r=>a+sumR r
theorem zH7:∀ l:List Rat,sumR (nadd l)=sumR l
 | []=>rfl
 | [_]=>rfl
 | a::b::r=>by simp only[nadd,sumR,zH7 r,Rat.add_assoc]
theorem zH8:∀ l:List Rat,(nadd l).length=(l.length+1) / 2
 | []=>by simp[nadd]
 | [_]=>by simp[nadd]
 | a::b::r=>by simp only[nadd,xJ,zH8 r];omega
theorem zKL:∀ l:List Rat,(List.range (l.length / 2)).map (λi=>l.getD (2*i) 0+l.getD (2*i+1) 0)++(if l.length%2=1 then [l.getD (l.length - 1) 0] else [])=nadd l
 | []=>by simp[nadd]
 | [a]=>by simp[nadd]
 | a::b::r=>by
  have e1:(a::b::r).length / 2=r.length / 2+1:=by simp only[xJ];omega
  have e2:(a::b::r).length%2=r.length%2:=by simp only[xJ];omega
  rw[e1,e2,List.range_succ_eq_map,map_cons,map_map,nadd,<- zKL r];have e3:((λi=>(a::b::r).getD (2*i) 0+(a::b::r).getD (2*i+1) 0)∘Nat.succ)=λi=>r.getD (2*i) 0+r.getD (2*i+1) 0:=by
   funext i;simp only[Function.comp];rw[show 2*(i.succ)=2*i+1+1 by omega];simp only[List.getD_cons_succ]
  rw[e3];have e4:r.length%2=1->(a::b::r).getD ((a::b::r).length - 1) 0=r.getD (r.length - 1) 0:=λh=>by
   rw[show (a::b::r).length - 1=(r.length - 1)+1+1 by simp only[xJ];omega];simp only[List.getD_cons_succ]
  by_cases h:r.length%2=1
  .rw [if_pos h,if_pos h,e4 h];rfl
  .rw [if_neg h,if_neg h];rfl
abbrev Pt:=Rat×Rat
noncomputable def rot {T:Type}(ps:List T):List T:=ps.drop 1++ps.take 1
noncomputable def zGN (ps:List Pt):List (Pt×Pt):=ps.zip (rot ps)
def zJn {T:Type}(ps:List T):(rot ps).length=ps.length:=by
 unfold rot;grind
def zJe (ps:List Pt):(zGN ps).length=ps.length:=by
 unfold zGN;rw[List.length_zip,zJn,Nat.min_self]
def zJd (h:s∈zGN ps):s.1∈ps/\s.2∈ps:=by
 obtain⟨h1,h2⟩:=of_mem_zip h;unfold rot at h2;grind
abbrev Ln:=Rat×Rat×Rat
noncomputable def hq (L:Ln)(p:Pt):Rat:=L.1*p.1+L.2.1*p.2 - L.2.2
def zTi (u v:Rat):Prop:=(0 < u/\v < 0)\/(u < 0/\0 < v)
noncomputable instance (u v:Rat):Decidable (zTi u v):=inferInstanceAs (Decidable (_\/_))
end DM
end
section
namespace DL
open PySem L2
def Bd (n:Nat)(i:Int):Prop:=i.natAbs < 2^n
def zGB (h:Bd n i):Builtin.Int.intBits i<=n:=by
 unfold Builtin.Int.intBits;split
 .simp
 .rename_i b;have a:i.natAbs≠0:=by
   grind
  exact(Nat.log2_lt a).mpr h
def zEN (h:j.natAbs < 2^64):IntMulOk i j:=IntMulOk.of_right (zGB h)
def zCS (h:i.natAbs < 2^64):IntMulOk i j:=IntMulOk.of_left (zGB h)
def Bd.mono (h:Bd m i)(l:m<=n):Bd n i:=xX h (Nat.pow_le_pow_right (by decide) l)
def zBp (h1:Bd m i)(h2:Bd n j):Bd (m+n) (i*j):=by
 unfold Bd at *;rw[Int.natAbs_mul,Nat.pow_add];exact Nat.mul_lt_mul'' h1 h2
def zH0 (m n:Nat):2^m+2^n<=2^(Nat.max m n+1):=by
 have h1:2^m<=2^Nat.max m n:=Nat.pow_le_pow_right (by simp) (Nat.le_max_left m n);have h2:2^n<=2^Nat.max m n:=Nat.pow_le_pow_right (by simp) (Nat.le_max_right m n);omega
def zTo (h1:Bd m i)(h2:Bd n j):Bd (Nat.max m n+1) (i+j):=by
 unfold Bd at *;have:=zH0 m n;have:=Int.natAbs_add_le i j;omega
def zTn (h1:Bd m i)(h2:Bd n j):Bd (Nat.max m n+1) (i - j):=by
 unfold Bd at *;have:=zH0 m n;have:=Int.natAbs_sub_le i j;omega
noncomputable def ratD (q:Rat):D:=.tup [.int q.num,.int (q.den:Int)]
structure RB (n:Nat)(q:Rat):Prop where
 num:Bd n q.num
 den:Bd n (q.den:Int)
def RB.mono (h:RB m q)(l:m<=n):RB n q:=⟨h.num.mono l,h.den.mono l⟩
def zEH (a:b≠0)(h1:Bd n t)(h2:Bd n b):RB n (Rat.divInt t b) :=
 ⟨Nat.lt_of_le_of_lt (DM.zSA t b a) h1,Nat.lt_of_le_of_lt (by simpa using DM.zTe t b a) h2⟩
def zBI (q:Rat):(q.den:Int)≠0:=by have:=q.den_nz;omega
def zDA (q:Rat):(0:Int) < (q.den:Int):=by have:=q.den_nz;omega
def zLq (p q:Rat):p+q=Rat.divInt (p.num*q.den+q.num*p.den) (p.den*q.den):=by
 have:=Rat.divInt_add_divInt p.num q.num (zBI p) (zBI q)
 simp_all
def zJW (p q:Rat):p - q=Rat.divInt (p.num*q.den - q.num*p.den) (p.den*q.den):=by
 have:=Rat.divInt_sub_divInt p.num q.num (zBI p) (zBI q)
 simp_all
def zKM (p q:Rat):p*q=Rat.divInt (p.num*q.num) (p.den*q.den):=by
 have:=Rat.divInt_mul_divInt p.num q.num (d₁:=p.den) (d₂:=q.den)
 simp_all
def zOZ (p q:Rat):p / q=Rat.divInt (p.num*q.den) (p.den*q.num):=by
 have e:q⁻¹=Rat.divInt q.den q.num:=by
  conv=>lhs;rw[<- Rat.num_divInt_den q,Rat.inv_divInt]
 rw[Rat.div_def];have:=Rat.divInt_mul_divInt p.num (q.den:Int) (d₁:=p.den) (d₂:=q.num)
 simp_all
def zDt {a b:Int}(h1:a≠0)(h2:b≠0):a*b≠0:=Int.mul_ne_zero h1 h2
def zCO (h1:RB m p)(h2:RB n q):RB (m+n+1) (p+q):=by
 rw[zLq];refine zEH (zDt (zBI p) (zBI q)) ?_ ((zBp h1.den h2.den).mono (by omega));refine(zTo (zBp h1.num h2.den) (zBp h2.num h1.den)).mono ?_;grind
def zCW (h1:RB m p)(h2:RB n q):RB (m+n+1) (p - q):=by
 rw[zJW];refine zEH (zDt (zBI p) (zBI q)) ?_ ((zBp h1.den h2.den).mono (by omega));refine(zTn (zBp h1.num h2.den) (zBp h2.num h1.den)).mono ?_;grind
def zAj (h1:RB m p)(h2:RB n q):RB (m+n) (p*q):=by
 rw[zKM];exact zEH (zDt (zBI p) (zBI q)) (zBp h1.num h2.num) (zBp h1.den h2.den)
def zOE {q:Rat}(h:q≠0):q.num≠0:=by simp_all
def zJr (hq:q≠0)(h1:RB m p)(h2:RB n q):RB (m+n) (p / q):=by
 rw[zOZ];exact zEH (zDt (zBI p) (zOE hq)) (zBp h1.num h2.den) (zBp h1.den h2.num)
def zHy (h:Bd n i)(h1:1<=n):RB n (i:Rat):=by
 refine⟨?_,?_⟩
 .simp_all
 .show ((i:Rat).den:Int).natAbs < 2^n;exact Nat.one_lt_two_pow (by omega)
noncomputable def zPd:S:=.cons (.whl (.cmp .Gt (.var 1) (.int 0)) (.cons (.set 2 (.bin .Mod (.var 0) (.var 1))) (.cons (.set 0 (.var 1)) (.cons (.set 1 (.var 2)) .nil)))) (.cons (.ret (.var 0)) .nil)
def x_bl {P:Bool->Prop}(h:P b):∃ c,((D.bl b,k):R).1=.bl c/\P c:=⟨b,rfl,h⟩
def zT2 {P:Int->Prop}(h:P i):∃ j,((D.int i,k):R).1=.int j/\P j:=⟨i,rfl,h⟩
def x_cl {P:Bool->Prop}(h:P false):∃ o,ownK ((d,Kd.cl):R).2=some o/\P o:=⟨false,rfl,h⟩
def x_fr {P:Bool->Prop}(h:P true):∃ o,ownK ((d,Kd.fr):R).2=some o/\P o:=⟨true,rfl,h⟩
def n_cl (h:P):((d,Kd.cl):R).2≠.dt/\P:=by grind
def n_fr (h:P):((d,Kd.fr):R).2≠.dt/\P:=by grind
def y_l {P:List D->Prop}(h:P ds):∃ d,((D.lst ds,k):R).1=.lst d/\P d:=⟨ds,rfl,h⟩
def zUe (h:Q (.int q.num,.cl)):EvP (ixD (ratD q) (.int 0)) Q:=zD3 rfl h
def zUf (h:Q (.int (q.den:Int),.cl)):EvP (ixD (ratD q) (.int 1)) Q:=zD3 rfl h
def zUb (h:Q (.bl true,.cl)):EvP (isiF .tuple (ratD q)) Q:=⟨_,rfl,h⟩
def zUV (h:Q (.int 2,.cl)):EvP (lenD (ratD q)) Q:=zSS h
end DL
end
open PySem L2 DL
open PySem L2 DL
local macro_rules | `(tactic| walk_at "s")=>`(tactic| simp only [List.set_cons_zero,List.set_cons_succ])
local macro_rules | `(tactic| walk_at "ev")=>`(tactic| first
 | ((with_reducible show EvP (evE _ (DL.E.var _) _) _);first | refine zAJ rfl ?_ | refine zUy rfl ?_)
 | (with_reducible first $[| refine $(#[`zAk,`zUz,`zAl,`zDw,`zBh,`zIK,`zOQ,`zB3,`zTS,`zTQ,`zIL,`zLH,`zUc,`zUd,`zUa,`zPt,`zUb,`zQZ,`zLD,`zHd,`zQa,`zLF,`zLE,`zOR,`zAs,`zAH,`zEb,`zTR,`zQX,`zOW,`zLS,`zTP,`zJH,`zTp,`c_lt,`c_le,`c_gt,`zTm,`zQw,`zUe,`zUf,`zGf,`zSS,`zUV,`zU2,`zHv,`zUP,`zBH,`zAD,`zCz,`zHg,`zEc,`zBL,`zOV,`zC9,`zIm,`zIl,`zRQ,`zCt,`zLG,`w_cl,`w_fr,`w_tu].map Lean.mkIdent) ?_]*) | ((with_reducible refine k_nx ?_);try (walk_at "s")) | (with_reducible first | refine k_rt ?_ | refine zUW ?_ | refine y_l ?_ | refine zIG ?_) | ((with_reducible refine zKg ?_);try (walk_at "s")) | (with_reducible first | refine cb_t ?_ | refine cb_f ?_ | refine zLi ?_ | refine x_bl ?_ | refine zT2 ?_ | refine x_cl ?_ | refine x_fr ?_ | refine n_cl ?_ | refine n_fr ?_)
 | ((with_reducible show EvP (forD (tg1 _) _ (_::_) _) _);refine zCb rfl ?_;try (walk_at "s")) | ((with_reducible show EvP (ixD (DL.D.lst (_::_)) (DL.D.int _)) _);refine zAo rfl ?_)
 | ((with_reducible show List.length _<=10000/\_);refine⟨zzb rfl,?_⟩) | ((with_reducible show EvP (evE _ (DL.E.call _ _ _) _) _);refine zAL rfl ?_) | ((with_reducible show EvP (evE _ (DL.E.lend _ _ _) _) _);refine ev_lend rfl ?_) | ((with_reducible show EvP (evE _ (DL.E.glob _ _) _) _);refine zCE rfl ?_)
 | ((with_reducible show EvP (ixD (DL.D.tup _) (DL.D.int _)) _);refine zD3 rfl ?_) | ((with_reducible show EvP (evS _ (DL.S.retOwn _) _) _);refine zLQ rfl ?_) | ((with_reducible show EvP (evSs _ (DL.S.frz _ _) _) _);first | refine zHc rfl ?_ | (refine zII rfl ?_;try (walk_at "s"))))
local macro_rules | `(tactic| walk_at "st")=>`(tactic| simp only [map_cons,map_nil,cons_append,nil_append,replicate_succ,List.replicate_zero,Nat.reduceSub,append_nil,List.replicate])
open PySem L2 DL
local macro_rules | `(tactic| walk_at "w")=>`(tactic| (repeat walk_at "ev"))
open PySem L2 DL
local macro_rules | `(tactic| walk_at "d")=>`(tactic| refine zQV rfl (by decide) ?_)
section
namespace DL
open PySem L2
def zKR :∀ (n:Nat) (a b:Int) (r:Option (D×Bool)),b.toNat<=n->0<=a->0<=b->(∀ r',Q (.nx [some (.int (Int.gcd a b:Int),false),some (.int 0,false),r'])) ->
  EvP (zBW (asB (evE J (.cmp .Gt (.var 1) (.int 0)))) (evSs J (.cons (.set 2 (.bin .Mod (.var 0) (.var 1))) (.cons (.set 0 (.var 1)) (.cons (.set 1 (.var 2)) .nil)))) [some (.int a,false),some (.int b,false),r]) Q:=by
 intro n
 induction n with
 | zero =>
  intro a b r f c d q;have e:b=0:=by omega
  subst e;refine zB5 (as_b ?_);(walk_at "w");refine zDy (Int.lt_irrefl 0) ?_;have:(Int.gcd a 0:Int)=a:=by rw[Int.gcd_zero_right];omega
  rw[this] at q;exact q r
 | succ n g =>
  intro a b r f c d q;by_cases e:b=0
  .subst e;refine zB5 (as_b ?_);(walk_at "w");refine zDy (Int.lt_irrefl 0) ?_;have:(Int.gcd a 0:Int)=a:=by rw[Int.gcd_zero_right];omega
   rw[this] at q;exact q r
  .refine zB5 (as_b ?_);(walk_at "w");refine zDx (show 0 < b by omega) ?_;(walk_at "w");refine zBD e ?_;(walk_at "w");have h1:=xY a (show 0 < b by omega);have h2:=fmod_lt_of_pos a (show 0 < b by omega);refine g b (a.fmod b) (some (.int (a.fmod b),false)) (by omega) d h1 λr'=>?_
   rw[DM.zIE c (by omega)];exact q r'
def zPc (e:0<=a)(c:0<=b)(h:Q (.int (Int.gcd a b:Int),.cl)):EvP (dFun 2 3 (evSs J zPd) [.int a,.int b]) Q:=by
 (walk_at "d");unfold zPd
 walk_at "ev"
 refine zKR b.toNat a b none (le_refl _) e c λr'=>?_
 (walk_at "w");omega
noncomputable def zJM:S:=.cons (.ret (.andl (.cons (.isi .int (.var 0)) (.cons (.not (.isi .bool (.var 0))) .nil)))) .nil
def zL7 (h:Q (.bl true,.cl)):EvP (dFun 1 1 (evSs J zJM) [.int i]) Q:=by
 refine zQV rfl (by simp) ?_;unfold zJM
 repeat walk_at "ev"
 exact h
def zLr (F:List D->Option R):Prop:=∀ (i:Int) (Q:R->Prop),Q (.bl true,.cl)->EvP (F [.int i]) Q
def zQ8 (F:List D->Option R):Prop:=∀ (a b:Int) (Q:R->Prop),0<=a->0<=b->Q (.int (Int.gcd a b:Int),.cl)->EvP (F [.int a,.int b]) Q
noncomputable def zOn (nm:Nat)(f:Str):S:=.cons (.set 2 (.call nm f (.cons (.abs (.var 0)) (.cons (.abs (.var 1)) .nil)))) (.cons (.ife (.cmp .Lt (.var 1) (.int 0)) (.cons (.set 2 (.neg (.var 2))) .nil) .nil) (.cons (.ret (.tup (.cons (.bin .FloorDiv (.var 0) (.var 2)) (.cons (.bin .FloorDiv (.var 1) (.var 2)) .nil)))) .nil))
def zQM (t b:Int):((Int.gcd (t.natAbs:Int) (b.natAbs:Int):Nat):Int)=(Int.gcd t b:Int):=rfl
def zPb (a:b≠0)(c:Bd 60000000 b)(i:Int):zJL i (DM.msr t b):=DM.zKO a
theorem zOm (em:J.fns[nm]?=some (f,Fm))(hm:zQ8 Fm)(hb:b≠0)(sb:Bd 60000000 b)
  (h:Q (.rt (ratD (Rat.divInt t b),.cl))):EvP (evSs J (zOn nm f) [some (.int t,false),some (.int b,false),x]) Q:=by
 unfold zOn;refine zAD (zCz (zAL em ?_));(walk_at "w");refine hm _ _ _ (Int.natCast_nonneg _) (Int.natCast_nonneg _) ?_;rw[zQM];(walk_at "w");have fin:∀ g:Int,g=DM.msr t b->Q (.rt (.tup [.int (t.fdiv g),.int (b.fdiv g)],.cl)):=λg e=>by
  subst e;rw[DM.zHO hb,DM.zKQ hb];exact h
 have dv:∀ g i:Int,g=DM.msr t b->zJL i g:=λg i e=>by subst e;exact zPb hb sb i
 refine zA9 (λc=>?_) λc=>?_
 .have e:(-(Int.gcd t b:Int))=DM.msr t b:=by unfold DM.msr;rw[if_pos c]
  (walk_at "w");refine zCK (dv _ _ e) ?_;(walk_at "w");refine zCK (dv _ _ e) ?_;(walk_at "w");exact fin _ e
 .have e:(Int.gcd t b:Int)=DM.msr t b:=by unfold DM.msr;rw[if_neg c]
  (walk_at "w");refine zCK (dv _ _ e) ?_;(walk_at "w");refine zCK (dv _ _ e) ?_;(walk_at "w");exact fin _ e
def zFO (F:List D->Option R):Prop:=∀ (t b:Int) (Q:R->Prop),b≠0->Bd 60000000 b->Q (ratD (Rat.divInt t b),.cl)->EvP (F [.int t,.int b]) Q
noncomputable def zN0 (nm:Nat)(x:S):S:=.cons (.ife (.cmp .Eq (.var 1) (.int 0)) (.cons x .nil) .nil) (zOn nm "common_measure")
theorem zMN (em:J.fns[nm]?=some (("common_measure":Str),Fm))(hm:zQ8 Fm):zFO (dFun 2 3 (evSs J (zN0 nm x))):=λt b Q hb sb h=>by
 (walk_at "d");unfold zN0;(walk_at "w");refine zDy hb ?_;(walk_at "w");exact zOm em hm hb sb h
noncomputable def cel (ns:List Int)(k:Int):Int :=
 if k < (ns.length:Int) then ns.getD k.toNat 0 else
  let seed:=if (0:Int) < (ns.length:Int) then k*7919+(ns.getD (k.fmod (ns.length:Int)).toNat 0).fmod 65537 else k*7919
  let some:=(seed*48271).fmod 65537
  ((some*(some+2*k+1)).fdiv 7).fmod 65521
noncomputable def zQu:S:=.cons (.ife (.cmp .Lt (.var 1) (.len (.var 0))) (.cons (.ret (.ix (.var 0) (.var 1))) .nil) .nil) (.cons (.set 2 (.bin .Mult (.var 1) (.int 7919))) (.cons (.ife (.cmp .Gt (.len (.var 0)) (.int 0)) (.cons (.set 2 (.bin .Add (.var 2) (.bin .Mod (.ix (.var 0) (.bin .Mod (.var 1) (.len (.var 0)))) (.int 65537)))) .nil) .nil) (.cons (.set 3 (.bin .Mod (.bin .Mult (.var 2) (.int 48271)) (.int 65537))) (.cons (.ret (.bin .Mod (.bin .FloorDiv (.bin .Mult (.var 3) (.bin .Add (.bin .Add (.var 3) (.bin .Mult (.int 2) (.var 1))) (.int 1))) (.int 7)) (.int 65521))) .nil))))
noncomputable def scr (ns:List Int):D:=.lst (ns.map D.int)
def zNy {ns:List Int}(h0:0<=k)(h1:k < (ns.length:Int)):atI (ns.map D.int) k=some (.int (ns.getD k.toNat 0)):=by
 have a:k=((k.toNat:Nat):Int):=by omega
 have q:atI (ns.map D.int) _=some (.int (ns.getD k.toNat 0)):=zAv (by
  rw[getElem?_map,getD_eq_getElem?_getD,getElem?_eq_getElem (by omega)]
  rfl)
 grind
def zTy (F:List D->Option R):Prop:=∀ (ns:List Int) (k:Int) (Q:R->Prop),0<=k->Q (.int (cel ns k),.cl)->EvP (F [scr ns,.int k]) Q
def zGL (x:Int)(h0:0 < m)(h1:m < 2^64):(x.fmod m).natAbs < 2^64:=by
 have a:=xY x h0;have b:=fmod_lt_of_pos x h0;omega
def zBU (h:j≠0)(h2:j.natAbs < 2^64):zJL i j:=h
def zQt :zTy (dFun 2 4 (evSs J zQu)):=λns k Q h0 h=>by
 (walk_at "d");unfold zQu;have f:((ns.map D.int).length:Int)=(ns.length:Int):=by rw[qy]
 refine zAD (zEc (zDw (zAJ rfl (zB3 (zAJ rfl ?_)))));show EvP (lenD (.lst (ns.map D.int))) _;(walk_at "w");rw[f];refine zA9 (λc=>?_) λc=>?_
 .refine zAD (zBL (zBh (zAJ rfl (zAJ rfl ?_))));show EvP (ixD (.lst (ns.map D.int)) (.int k)) _;refine zAo (zNy h0 c) ?_;have e:cel ns k=ns.getD k.toNat 0:=by unfold cel;rw[if_pos c]
  rw[e] at h;(walk_at "w");exact h
 .unfold cel at h;rw[if_neg c] at h;(walk_at "w");refine zAx (zEN (by decide)) ?_;(walk_at "w");refine(show EvP (lenD (.lst (ns.map D.int))) _ from ?_);(walk_at "w");rw[f];refine zA9 (λc2=>?_) λc2=>?_
  .rw [if_pos c2] at h;(walk_at "w");refine(show EvP (lenD (.lst (ns.map D.int))) _ from ?_);(walk_at "w");rw[f];refine zBD (by omega) ?_;refine(show EvP (ixD (.lst (ns.map D.int)) (.int (k.fmod (ns.length:Int)))) _ from ?_);refine zAo (zNy (xY k c2) (fmod_lt_of_pos k c2)) ?_;(walk_at "w");refine zBD (by decide) ?_;(walk_at "w");refine zAx (zEN (by decide)) ?_;(walk_at "w");refine zBD (by decide) ?_;(walk_at "w");refine zAx (zCS (by decide)) ?_;(walk_at "w");refine zAx (zCS (zGL _ (by decide) (by decide))) ?_;(walk_at "w");refine zCK (zBU (by decide) (by decide)) ?_;(walk_at "w");refine zBD (by decide) ?_;(walk_at "w");exact h
  .rw [if_neg c2] at h;(walk_at "w");refine zAx (zEN (by decide)) ?_;(walk_at "w");refine zBD (by decide) ?_;(walk_at "w");refine zAx (zCS (by decide)) ?_;(walk_at "w");refine zAx (zCS (zGL _ (by decide) (by decide))) ?_;(walk_at "w");refine zCK (zBU (by decide) (by decide)) ?_;(walk_at "w");refine zBD (by decide) ?_;(walk_at "w");exact h
def zCx (h:i.natAbs<=k)(h2:k < 2^n):Bd n i:=Nat.lt_of_le_of_lt h h2
mutual
theorem zIN:∀ d:D,PyData.eqv (toPy d) (toPy d)=true
 | .non=>by simp[toPy,PyData.eqv]
 | .bl b=>by simp[toPy,PyData.eqv]
 | .int i=>by simp[toPy,PyData.eqv]
 | .str x=>by simp[toPy,PyData.eqv]
 | .tup ds=>by
  rw[toPy,PyData.eqv];exact eqbL_self ds
 | .lst ds=>by
  rw[toPy,PyData.eqv];exact eqbL_self ds
 | .exc _=>by simp[toPy,PyData.eqv]
 | .dct _=>by simp[toPy,PyData.eqv]
 | .lam _ _ _=>by simp[toPy,PyData.eqv]
 | .obj _ _ _=>by simp[toPy,PyData.eqv]
 | .fn _ _=>by simp[toPy,PyData.eqv]
theorem eqbL_self:∀ ds:List D,PyData.eqvAll (toPyL ds) (toPyL ds)=true
 | []=>by simp[toPyL,PyData.eqvAll]
 | d::ds=>by
  rw[toPyL,PyData.eqvAll,zIN d,eqbL_self ds]
  rfl
end
def zNT (d:D):eqb d d=true:=zIN d
def DOk (k:Nat)(d:D):Prop:=(toPy d).canLay0=true/\(toPy d).depth<=k
def zLZ (i:Int):DOk k (.int i):=⟨by simp[toPy,PyData.canLay0],by simp[toPy,PyData.depth]⟩
theorem zLa :∀ {ds:List D},(∀ d∈ds,DOk k d)->PyData.canLayAll0 (toPyL ds)=true/\PyData.depthAll (toPyL ds)<=k
 | [],_=>⟨by simp[toPyL,PyData.canLayAll0],by simp[toPyL,PyData.depthAll]⟩
 | d::ds,h=>by
  have h1:=h d q9;have h2:=zLa (ds:=ds) λx z=>h x (qJ _ z)
  refine⟨by simp[toPyL,PyData.canLayAll0,h1.1,h2.1],?_⟩;simp only[toPyL,PyData.depthAll];exact Nat.max_le.mpr ⟨h1.2,h2.2⟩
def zHj (h:∀ d∈ds,DOk k d):DOk (k+1) (.tup ds):=by
 obtain⟨h1,h2⟩:=zLa h;exact⟨by simp[toPy,PyData.canLay0,h1],by simp only[toPy,PyData.depth];omega⟩
def zHk (q:Rat):DOk 1 (ratD q):=zHj λd h=>by
 rcases mem_cons.mp h with rfl | h
 .exact zLZ _
 .rcases mem_cons.mp h with rfl | h
  .exact zLZ _
  .simp_all
def zHh (a:DOk m x)(c:DOk n y)(b:m<=64):EqOk x y:=⟨a.1,c.1,le_trans a.2 b⟩
noncomputable def zIs (nm:Str)(nr:Nat):S:=.cons (.ret (.call nr nm (.cons (.bin .Add (.bin .Mult (.ix (.var 0) (.int 0)) (.ix (.var 1) (.int 1))) (.bin .Mult (.ix (.var 1) (.int 0)) (.ix (.var 0) (.int 1)))) (.cons (.bin .Mult (.ix (.var 0) (.int 1)) (.ix (.var 1) (.int 1))) .nil)))) .nil
noncomputable def zE7 (nm:Str)(nr:Nat):S:=.cons (.ret (.call nr nm (.cons (.bin .Sub (.bin .Mult (.ix (.var 0) (.int 0)) (.ix (.var 1) (.int 1))) (.bin .Mult (.ix (.var 1) (.int 0)) (.ix (.var 0) (.int 1)))) (.cons (.bin .Mult (.ix (.var 0) (.int 1)) (.ix (.var 1) (.int 1))) .nil)))) .nil
noncomputable def zEy (nm:Str)(nr:Nat):S:=.cons (.ret (.call nr nm (.cons (.bin .Mult (.ix (.var 0) (.int 0)) (.ix (.var 1) (.int 0))) (.cons (.bin .Mult (.ix (.var 0) (.int 1)) (.ix (.var 1) (.int 1))) .nil)))) .nil
noncomputable def zHI (nm:Str)(nr:Nat):S:=.cons (.ret (.call nr nm (.cons (.bin .Mult (.ix (.var 0) (.int 0)) (.ix (.var 1) (.int 1))) (.cons (.bin .Mult (.ix (.var 0) (.int 1)) (.ix (.var 1) (.int 0))) .nil)))) .nil
def OpF (f:Rat->Rat->Rat)(F:List D->Option R):Prop:=∀ (p q:Rat) (m n:Nat) (Q:R->Prop),RB m p->RB n q->m+n<=60000000->Q (ratD (f p q),.cl)->EvP (F [ratD p,ratD q]) Q
abbrev zEv:=OpF (·+·)
abbrev zD0:=OpF (· - ·)
abbrev zC0:=OpF (·*·)
def zGE (F:List D->Option R):Prop:=∀ (p q:Rat) (m n:Nat) (Q:R->Prop),q≠0->RB m p->RB n q->m+n<=60000000->Q (ratD (p / q),.cl)->EvP (F [ratD p,ratD q]) Q
def zBF (h1:Bd m i)(h2:Bd n j)(h3:m+n<=60000000):IntMulOk i j:=(IntMulOk.of_le (zGB h1) (zGB h2) (le_trans h3 (by simp)))
section
variable {J:Gm}{nm:Str}{nr:Nat}{Fr:List D->Option R}
def zO5 (b:J.fns[nr]?=some (nm,Fr))(c:zFO Fr):zEv (dFun 2 2 (evSs J (zIs nm nr))):=λp q m n Q a hq l h=>by
 (walk_at "d");unfold zIs;refine zAD (zBL (zAL b ?_));(walk_at "w");refine zAx (zBF a.num hq.den l) ?_;(walk_at "w");refine zAx (zBF hq.num a.den (by omega)) ?_;(walk_at "w");refine zAx (zBF a.den hq.den l) ?_;(walk_at "w");refine c _ _ _ (zDt (zBI p) (zBI q)) ((zBp a.den hq.den).mono l) ?_;rw[<- zLq];(walk_at "w");exact h
def zMd (b:J.fns[nr]?=some (nm,Fr))(c:zFO Fr):zD0 (dFun 2 2 (evSs J (zE7 nm nr))):=λp q m n Q a hq l h=>by
 (walk_at "d");unfold zE7;refine zAD (zBL (zAL b ?_));(walk_at "w");refine zAx (zBF a.num hq.den l) ?_;(walk_at "w");refine zAx (zBF hq.num a.den (by omega)) ?_;(walk_at "w");refine zAx (zBF a.den hq.den l) ?_;(walk_at "w");refine c _ _ _ (zDt (zBI p) (zBI q)) ((zBp a.den hq.den).mono l) ?_;rw[<- zJW];(walk_at "w");exact h
def zMC (b:J.fns[nr]?=some (nm,Fr))(c:zFO Fr):zC0 (dFun 2 2 (evSs J (zEy nm nr))):=λp q m n Q a hq l h=>by
 (walk_at "d");unfold zEy;refine zAD (zBL (zAL b ?_));(walk_at "w");refine zAx (zBF a.num hq.num l) ?_;(walk_at "w");refine zAx (zBF a.den hq.den l) ?_;(walk_at "w");refine c _ _ _ (zDt (zBI p) (zBI q)) ((zBp a.den hq.den).mono l) ?_;rw[<- zKM];(walk_at "w");exact h
def zJ1 (b:J.fns[nr]?=some (nm,Fr))(e:zFO Fr):zGE (dFun 2 2 (evSs J (zHI nm nr))):=λp q m n Q c a hq l h=>by
 (walk_at "d");unfold zHI;refine zAD (zBL (zAL b ?_));(walk_at "w");refine zAx (zBF a.num hq.den l) ?_;(walk_at "w");refine zAx (zBF a.den hq.num l) ?_;(walk_at "w");refine e _ _ _ (zDt (zBI p) (zOE c)) ((zBp a.den hq.num).mono l) ?_;rw[<- zOZ];(walk_at "w");exact h
end
def zL5:D.tup [.int 0,.int 1]=ratD 0:=rfl
def zPM:D.tup [.int 1,.int 1]=ratD 1:=rfl
def zMx:D.tup [.int 1,.int 2]=ratD (1 / 2):=by
 unfold ratD;rw[show (1 / 2:Rat).num=1 from by decide +kernel,show (1 / 2:Rat).den=2 from by decide +kernel]
 rfl
inductive WB:List Rat->Nat->Prop
 | nil:WB [] 0
 | cons {q:Rat} {m W:Nat} {qs:List Rat}:RB m q->WB qs W->WB (q::qs) (m+1+W)
theorem zNr:∀ {qs:List Rat} {W:Nat},WB qs W->RB (W+1) (DM.sumR qs)
 | [],_,.nil=>⟨by unfold Bd;decide,by unfold Bd;decide⟩
 | _::_,_,.cons h t=>(zCO h (zNr t)).mono (by omega)
theorem zJN:∀ {qs:List Rat} {W:Nat},WB qs W->WB (DM.nadd qs) W
 | [],_,.nil=>.nil
 | [_],_,.cons h .nil=>.cons h .nil
 | a::b::r,_,.cons (m:=m) h (.cons (m:=n) (W:=W) k t)=>by
  have e:m+1+(n+1+W)=(m+n+1)+1+W:=by omega
  rw[e];exact .cons (zCO h k) (zJN t)
theorem zNq:∀ {qs:List Rat} {W i:Nat} {a b:Rat},WB qs W->qs[i]?=some a->qs[i+1]?=some b->∃ m n,RB m a/\RB n b/\m+n+2<=W
 | [],_,_,_,_,_,h,_=>by simp at h
 | [_],_,_,_,_,_,_,h=>by simp at h
 | x::y::r,_,0,a,b,.cons (m:=m) h (.cons (m:=n) k t),h1,h2=>by
  simp at h1 h2;subst h1 h2;exact⟨m,n,h,k,by omega⟩
 | x::y::r,_,i+1,a,b,.cons h t,h1,h2=>by
  obtain⟨m,n,q1,q2,q3⟩:=zNq (i:=i) t (by simpa using h1) (by simpa using h2);exact⟨m,n,q1,q2,by omega⟩
theorem zNs :∀ {qs:List Rat},(∀ q∈qs,RB n q)->WB qs (qs.length*(n+1))
 | [],_=>by rw[List.length_nil,Nat.zero_mul];exact .nil
 | q::qs,h=>by
  rw[xJ,Nat.succ_mul,Nat.add_comm];exact .cons (h q q9) (zNs λx z=>h x (qJ _ z))
noncomputable def zPX (np:Nat):S:=.cons (.setC 1 (.comp1 2 [] "k" (.r3 (.int 0) (.bin .Sub (.len (.var 0)) (.int 1)) (.int 2)) .nil (.call np "plus" (.cons (.ix (.var 0) (.var 2)) (.cons (.ix (.var 0) (.bin .Add (.var 2) (.int 1))) .nil))))) (.cons (.ife (.cmp .Eq (.bin .Mod (.len (.var 0)) (.int 2)) (.int 1)) (.cons (.app 1 (.ix (.var 0) (.neg (.int 1)))) .nil) .nil) (.cons (.retOwn 1) .nil))
noncomputable def zJS (nn ng:Nat):S:=.cons (.set 1 (.list (.var 0))) (.cons (.whl (.cmp .Gt (.len (.var 1)) (.int 1)) (.frz 1 (.cons (.set 1 (.call nn "neighbours_added" (.cons (.var 1) .nil))) .nil))) (.cons (.ret (.ite (.cmp .Eq (.len (.var 1)) (.int 1)) (.ix (.var 1) (.int 0)) (.glob ng "NOUGHT"))) .nil))
noncomputable def zC3 (qs:List Rat):D:=.lst (qs.map ratD)
def zJs {a:List Rat}{i:Nat}(h:a[i]?=some q):atI (a.map ratD) (i:Int)=some (ratD q):=zAv (by simp_all)
def zKm (n:Nat):(Builtin.Range.rangeSize 0 ((n:Int) - 1) 2).toNat=n / 2:=by
 unfold Builtin.Range.rangeSize;omega
def zNo (F:List D->Option R):Prop:=∀ (qs:List Rat) (W:Nat) (Q:R->Prop),WB qs W->W<=60000000->qs.length<=10000->Q (zC3 (DM.nadd qs),.fr)->EvP (F [zC3 qs]) Q
noncomputable def zRs (qs:List Rat):D->D
 | .int k=>ratD (qs.getD k.toNat 0+qs.getD (k.toNat+1) 0)
 | d=>d
def zKy {a:List Rat}(h:a[i]?=some q):a.getD i 0=q:=by simp_all
def zPW (v:J.fns[np]?=some (("plus":Str),Fp))(t:zEv Fp):zNo (dFun 1 2 (evSs J (zPX np))):=λqs W Q x C B h=>by
 (walk_at "d");unfold zPX;(walk_at "st");refine zAD (zHg (zCt (zRQ ?_)));have p:((qs.map ratD).length:Int)=(qs.length:Int):=by rw[qy]
 walk_at "ev"
 refine zAl (zB3 (zAJ rfl ?_));refine(show EvP (lenD (.lst (qs.map ratD))) _ from ?_);(walk_at "w");rw[p];refine⟨_,_,_,rfl,rfl,rfl,(by refine⟨by decide,by decide,?_⟩;unfold Builtin.Range.small Builtin.Range.rangeSize;simp only[Builtin.Range.rangeFitsLong,x9,Bool.or_eq_true,qj,show (2:Int)>0 by decide,if_true];omega),?_⟩;rw[zKm];have A:(rngS 0 2 (qs.length / 2)).length<=10000:=by unfold rngS;rw[qy,length_range];omega
 refine⟨A,?_⟩;show EvP (zCF (tg1 2) (evC J .nil) _ _ ([some (zC3 qs,false),none]++[none])) _;refine zOc (n:=2) (base:=[some (zC3 qs,false),none]) rfl (zRs qs) _ _ (λz o=>?_) ?_
 .unfold rngS at o;obtain⟨i,q,rfl⟩:=mem_map.mp o;have r:=mem_range.mp q;have h1:2*i < qs.length:=by omega
  have h2:2*i+1 < qs.length:=by omega
  have j:qs[2*i]?=some qs[2*i]:=by simp[h1]
  have f:qs[2*i+1]?=some qs[2*i+1]:=by simp[h2]
  obtain⟨m,n,r1,r2,r3⟩:=zNq x j f;have u:(0:Int)+(i:Int)*2=((2*i:Nat):Int):=by omega
  have g:((2*i:Nat):Int)+1=((2*i+1:Nat):Int):=by omega
  rw[u];refine zAL v (zAH (zBh (zAJ rfl (zAJ rfl ?_))));refine zAo (zJs j) ?_;(walk_at "w");rw[g];refine(show EvP (ixD (.lst (qs.map ratD)) (.int ((2*i+1:Nat):Int))) _ from ?_);refine zAo (zJs f) ?_;(walk_at "w");refine t _ _ m n _ r1 r2 (by omega) ?_;(walk_at "w");show _=ratD _;rw[toNat_natCast,zKy j,zKy f]
 .have y:(rngS 0 2 (qs.length / 2)).map (zRs qs)=((List.range (qs.length / 2)).map λi=>qs.getD (2*i) 0+qs.getD (2*i+1) 0).map ratD:=by
   unfold rngS;rw[map_map,map_map];refine map_congr_left λi _=>?_
   show ratD _=ratD _;rw[show ((0:Int)+(i:Int)*2).toNat=2*i by omega]
  rw[y];have b:=DM.zKL qs;(walk_at "w");refine(show EvP (lenD (.lst (qs.map ratD))) _ from ?_);(walk_at "w");rw[p];refine zBD (by decide) ?_;(walk_at "w");refine zA9 (λc=>?_) λc=>?_
  .have l:qs.length%2=1:=by
    rw[Int.fmod_eq_emod_of_nonneg _ (by decide)] at c;omega
   rw[if_pos l] at b;refine zAD (zCd rfl (by rw[qy,qy,length_range];omega) ?_);(walk_at "w");have e:qs[qs.length - 1]?=some (qs.getD (qs.length - 1) 0):=by
    have:qs.length - 1 < qs.length:=by omega
    rw[getD_eq_getElem?_getD];simp[this]
   have k:atI (qs.map ratD) (-1)=some (ratD (qs.getD (qs.length - 1) 0)):=by
    unfold L2.atI;have z:ixN (qs.map ratD).length (-1)=some (qs.length - 1):=by
     unfold L2.ixN;rw[qy];split<;>first | omega | (split<;>first | omega | (congr 1;omega)) | (congr 1;omega)
    rw[z];show (qs.map ratD)[qs.length - 1]?=_;rw[getElem?_map,e]
    rfl
   refine(show EvP (ixD (.lst (qs.map ratD)) (.int (-1))) _ from ?_);refine zAo k ?_;(walk_at "w");have s:List.map ratD ((List.range (qs.length / 2)).map λi=>qs.getD (2*i) 0+qs.getD (2*i+1) 0)++[ratD (qs.getD (qs.length - 1) 0)]=(DM.nadd qs).map ratD:=by
    rw[<- b,x8];rfl
   rw[s];exact h
  .have l:¬ qs.length%2=1:=λz=>c (by
    rw[Int.fmod_eq_emod_of_nonneg _ (by decide)];omega)
   rw[if_neg l,append_nil] at b;(walk_at "w");rw[b];exact h
def zLs (F:List D->Option R):Prop:=∀ (qs:List Rat) (W:Nat) (Q:R->Prop),WB qs W->W<=60000000->qs.length<=10000->Q (ratD (DM.sumR qs),.cl)->EvP (F [zC3 qs]) Q
def zIk (j:J.fns[nn]?=some (("neighbours_added":Str),Fn))(p:zNo Fn):∀ (n:Nat) (a:List Rat) (W:Nat) (o:Bool),a.length<=n->WB a W->W<=60000000->a.length<=10000 ->
    (∀ qs' o,DM.sumR qs'=DM.sumR a->qs'.length<=1->(a.length=0<->qs'.length=0)->Q (.nx [x0,some (zC3 qs',o)])) ->
    EvP (zBW (asB (evE J (.cmp .Gt (.len (.var 1)) (.int 1)))) (evSs J (.frz 1 (.cons (.set 1 (.call nn "neighbours_added" (.cons (.var 1) .nil))) .nil))) [x0,some (zC3 a,o)]) Q:=by
  intro n
  induction n with
  | zero =>
    intro a W o m d f b q;have e:a=[]:=List.eq_nil_of_length_eq_zero (by omega);subst e;refine zB5 (as_b ?_);refine zDw (zB3 (zIJ rfl ?_));refine(show EvP (lenD (.lst [])) _ from ?_);(walk_at "w");refine zDy (by simp) ?_;exact q [] o rfl (by simp) (by simp)
  | succ n i =>
    intro a W o m d f b q;refine zB5 (as_b ?_);refine zDw (zB3 (zIJ rfl ?_));refine(show EvP (lenD (.lst (a.map ratD))) _ from ?_);(walk_at "w");rw[qy];by_cases c:1 < a.length
    . refine zDx (by omega) ?_;have g:EvP (evSs J (.cons (.set 1 (.call nn "neighbours_added" (.cons (.var 1) .nil))) .nil) [x0,some (zC3 a,false)]) λo=>match o with
          | .nx O1=>EvP (zBW (asB (evE J (.cmp .Gt (.len (.var 1)) (.int 1)))) (evSs J (.frz 1 (.cons (.set 1 (.call nn "neighbours_added" (.cons (.var 1) .nil))) .nil))) O1) Q
          | .ct O1=>EvP (zBW (asB (evE J (.cmp .Gt (.len (.var 1)) (.int 1)))) (evSs J (.frz 1 (.cons (.set 1 (.call nn "neighbours_added" (.cons (.var 1) .nil))) .nil))) O1) Q
          | .bk O1=>Q (.nx O1)
          | .rt r=>Q (.rt r):=by
        refine zAD (zCz (zAL j ?_));(walk_at "w");refine p a W _ d f b ?_;(walk_at "w");have s:=DM.zH8 a;refine i (DM.nadd a) W true (by omega) (zJN d) f (by omega) λqs' o l h k=>?_
        exact q qs' o (l.trans (DM.zH7 a)) h ⟨λz=>absurd z (by omega),λz=>absurd (k.mpr z) (by omega)⟩
      cases o with
      | true=>exact zII rfl g
      | false=>exact zHc rfl g
    . refine zDy (by omega) ?_;exact q a o rfl (by omega) Iff.rfl
def zMB (f:J.fns[nn]?=some (("neighbours_added":Str),Fn))(j:zNo Fn)(n:J.cs[ng]?=some (("NOUGHT":Str),.tup [.int 0,.int 1])):zLs (dFun 1 2 (evSs J (zJS nn ng))):=λqs W Q i e l h=>by
 (walk_at "d");unfold zJS;(walk_at "st");refine zAD (zCz (zEb (zAJ rfl ?_)));refine(show EvP (zHS (.lst (qs.map ratD))) _ from ?_);(walk_at "w");refine zIk f j qs.length qs W true (le_refl _) i e l λqs' o m g p=>?_
 refine k_nx ?_;refine zAD (zBL (zOR (zDw (zB3 (zIJ rfl ?_)))));refine(show EvP (lenD (.lst (qs'.map ratD))) _ from ?_);(walk_at "w");rw[qy];rw[<- m] at h
 match qs',g with
 | [],_ =>
  refine zDy (by simp) ?_;refine zCE n ?_;rw[zL5];(walk_at "w");exact h
 | [a],_ =>
  refine zDx (by simp) ?_;refine zBh (zIJ rfl ?_);(walk_at "w");refine(show EvP (ixD (.lst [ratD a]) (.int 0)) _ from ?_);(walk_at "w");have k:DM.sumR [a]=a:=by simp only[DM.sumR,Rat.add_zero]
  rw[k] at h;exact h
 | _::_::_,z=>exact absurd z (by simp)
abbrev Pt:=DM.Pt
noncomputable def ptD (p:Pt):D:=.tup [ratD p.1,ratD p.2]
noncomputable def zGO (s:Pt×Pt):D:=.tup [ptD s.1,ptD s.2]
noncomputable def zIr (ps:List Pt):D:=.lst (ps.map ptD)
def PB (n:Nat)(p:Pt):Prop:=RB n p.1/\RB n p.2
def i_p0 (h:Q (ratD p.1,.cl)):EvP (ixD (ptD p) (.int 0)) Q:=zD3 rfl h
def i_p1 (h:Q (ratD p.2,.cl)):EvP (ixD (ptD p) (.int 1)) Q:=zD3 rfl h
def i_s0 (h:Q (ptD s.1,.cl)):EvP (ixD (zGO s) (.int 0)) Q:=zD3 rfl h
def i_s1 (h:Q (ptD s.2,.cl)):EvP (ixD (zGO s) (.int 1)) Q:=zD3 rfl h
def zIQ (p:Pt):DOk 2 (ptD p):=zHj λd h=>by
 rcases mem_cons.mp h with rfl | h
 .exact zHk _
 .rcases mem_cons.mp h with rfl | h
  .exact zHk _
  .simp_all
def zIT (xs:List D)(k:Nat):cutD xs (some (k:Int)) none=xs.drop k:=by
 unfold cutD;rw[HT.zJm,HT.zHx];by_cases h:k<=xs.length
 .rw [Nat.min_eq_left h,List.take_of_length_le (by simp)]
 .rw [Nat.min_eq_right (by omega),List.drop_length,List.take_nil,drop_eq_nil_of_le (by omega)]
def zTh (xs:List D)(k:Nat):cutD xs none (some (k:Int))=xs.take k:=by
 unfold cutD;rw[HT.zJm,HT.zHx];simp
def zL4 (as bs:List Pt):zipT (as.map ptD) (bs.map ptD)=(as.zip bs).map zGO:=by
 unfold zipT;rw[List.zipWith_map,List.zip_eq_zipWith,List.map_zipWith]
 rfl
noncomputable def zJf:S:=.cons (.ret (.lzip (.var 0) (.bin .Add (.sl (.var 0) (.cons (.int 1) .nil) .nil) (.sl (.var 0) .nil (.cons (.int 1) .nil))))) .nil
def zLv (F:List D->Option R):Prop:=∀ (ps:List Pt) (Q:R->Prop),ps.length<=9000->Q (.lst ((DM.zGN ps).map zGO),.fr)->EvP (F [zIr ps]) Q
def zMG :zLv (dFun 1 1 (evSs J zJf)):=λps Q e h=>by
 (walk_at "d");unfold zJf;refine zAD (zBL (zLG (zAJ rfl (zAl (zQX (zAJ rfl ?_))))));(walk_at "w");refine⟨ps.map ptD,rfl,?_⟩;refine zQX (zAJ rfl ?_);(walk_at "w");refine⟨ps.map ptD,rfl,?_⟩;have c:cutD (ps.map ptD) (some 1) none=(ps.drop 1).map ptD:=by rw[show (1:Int)=((1:Nat):Int) from rfl,zIT,List.map_drop]
 have b:cutD (ps.map ptD) none (some 1)=(ps.take 1).map ptD:=by rw[show (1:Int)=((1:Nat):Int) from rfl,zTh,List.map_take]
 rw[c,b];refine zNl (by rw[qy,qy,List.length_drop,length_take];omega) ?_;rw[<- x8];refine zT1 ⟨?_,?_⟩ ?_
 .rw [qy,qy];exact(DM.zJn ps).symm
 .rw [qy];omega
 .rw [(zL4 ps _)];(walk_at "w");exact h
def zHD:RB 2 (1 / 2:Rat):=⟨by unfold Bd;decide +kernel,by unfold Bd;decide +kernel⟩
def zFr (i:Int):D.tup [.int i,.int 1]=ratD (i:Rat):=rfl
def zAc (a:Int)(n:Nat):(rngL a n).length=n:=by unfold rngL;simp
theorem zLe {T:Type}{J:Gm}{n:Nat}{el:E}{base:Dst}{Q:List D->Prop}(hn:base.length=n)(enc g:T->D):∀ (xs:List T) (o:Option (D×Bool)),(∀ x∈xs,EvP (evE J el (base++[some (enc x,false)])) λr=>r.2≠.dt/\r.1=g x)->Q (xs.map g)->EvP (zCF (tg1 n) (evC J .nil) (evE J el) (xs.map enc) (base++[o])) Q
 | [],o,_,h=>⟨_,rfl,h⟩
 | z::zs,o,hz,h=>by
  obtain⟨r,e,nd,er⟩:=hz z q9;obtain⟨ys,e2,q⟩:=zLe (Q:=λys=>Q (g z::ys)) hn enc g zs (some (enc z,false)) (λy hy=>hz y (qJ _ hy)) h;refine⟨_,?_,q⟩;have es:(base++[o]).set n (some (enc z,false))=base++[some (enc z,false)]:=by
   rw[set_append_right _ _ (by omega),hn,sub_self];rfl
  show (tg1 n (enc z) (base++[o])).bind _=_;unfold tg1;rw[es,qx,zDm,qx,if_pos rfl,e,qx,if_neg nd,er];show (zCF _ _ _ (zs.map enc) (base++[some (enc z,false)])).bind _=_;unfold tg1 at e2;rw[zDm] at e2;rw[e2]
  rfl
noncomputable def zBQ (rs:List (List Pt)):D:=.lst (rs.map zIr)
def zBB:RB 1 0:=⟨by unfold Bd;decide,by unfold Bd;decide⟩
def zBd:RB 1 1:=⟨by unfold Bd;decide,by unfold Bd;decide⟩
def PB.x (h:PB n p):RB n p.1:=h.1
def PB.y (h:PB n p):RB n p.2:=h.2
def PB.mono (h:PB m p)(l:m<=n):PB n p:=⟨h.1.mono l,h.2.mono l⟩
abbrev Ln:=DM.Ln
end DL
end
open PySem L2 DL
local macro_rules | `(tactic| walk_at "rb")=>`(tactic| first
 | assumption | exact zBB | exact zBd | exact zHD | exact PB.x (by assumption) | exact PB.y (by assumption) | exact LB.a (by assumption) | exact LB.b (by assumption) | exact LB.c (by assumption)
 | with_reducible apply zCO | with_reducible apply zCW | with_reducible apply zAj | with_reducible apply rb_neg | (with_reducible apply zJr;assumption))
section
namespace DL
open PySem L2
def zR4 (h:OpF f F)(h1:RB m p)(h2:RB n q)(h3:m+n<=60000000)(h4:Q (ratD (f p q),.cl)):EvP (F [ratD p,ratD q]) Q:=h p q m n Q h1 h2 h3 h4
def zJ2 (h:zGE F)(h0:q≠0)(h1:RB m p)(h2:RB n q)(h3:m+n<=60000000)(h4:Q (ratD (p / q),.cl)):EvP (F [ratD p,ratD q]) Q:=h p q m n Q h0 h1 h2 h3 h4
end DL
end
open PySem L2 DL
local macro_rules | `(tactic| walk_at "ev")=>`(tactic| first
 | (with_reducible first | refine i_p0 ?_ | refine i_p1 ?_ | refine i_s0 ?_ | refine i_s1 ?_)
 | ((with_reducible show EvP (evE _ (DL.E.call _ _ _) _) _);refine zAL (by assumption) ?_) | ((with_reducible show EvP (evE _ (DL.E.glob _ _) _) _);refine zCE (by assumption) ?_)
 | ((try dsimp only);with_reducible refine zR4 (by assumption) (by (repeat walk_at "rb")) (by (repeat walk_at "rb")) (by omega) ?_))
section
namespace DL
open PySem L2
noncomputable def zG9:S:=.cons (.ife (.chn .Lt .Lt (.neg (.int 1000)) (.var 0) (.int 1000)) (.cons (.ret (.bin .Mod (.bin .Mult (.bin .Add (.bin .Mult (.bin .Add (.var 0) (.int 1000)) (.bin .Add (.bin .Add (.var 0) (.int 1000)) (.bin .Mult (.int 37) (.var 1)))) (.bin .Mult (.int 911) (.var 1))) (.int 48271)) (.int 1000003))) .nil) .nil) (.cons (.ret (.var 0)) .nil)
def zLu (F:List D->Option R):Prop:=∀ (c k:Int) (Q:R->Prop),0<=k->k<=1000->(∀ x:Int,Q (.int x,.cl))->EvP (F [.int c,.int k]) Q
def zJa :zLu (dFun 2 2 (evSs J zG9)):=λc k Q h0 h1 h=>by
 (walk_at "d");unfold zG9;(walk_at "st");refine zAD (zEc (zOT ?_));(walk_at "w");refine zA9 (λc1=>?_) λc1=>?_
 ·(walk_at "w");refine zA9 (λc2=>?_) λc2=>?_
  ·(walk_at "w");refine zAx (zCS (by decide)) ?_;(walk_at "w");refine zAx (zCS (by omega)) ?_;(walk_at "w");refine zAx (zCS (by decide)) ?_;(walk_at "w");refine zAx (zEN (by decide)) ?_;(walk_at "w");refine zBD (by decide) ?_;(walk_at "w");exact h _
  ·(walk_at "w");exact h _
 ·(walk_at "w");exact h _
def zFa (h:x∈rngL 0 n):∃ k:Int,x=.int k/\0<=k/\k < n:=by
 unfold rngL at h;grind
noncomputable def zJQ:S:=.cons (.ret (.cmp .Lt (.bin .Mult (.ix (.var 0) (.int 0)) (.ix (.var 1) (.int 1))) (.bin .Mult (.ix (.var 1) (.int 0)) (.ix (.var 0) (.int 1))))) .nil
def zFN (F:List D->Option R):Prop:=∀ (p q:Rat) (m n:Nat) (Q:R->Prop),RB m p->RB n q->m+n<=60000000->Q (.bl (decide (p < q)),.cl)->EvP (F [ratD p,ratD q]) Q
def zL9 :zFN (dFun 2 2 (evSs J zJQ)):=λp q m n Q a hq l h=>by
 (walk_at "d");unfold zJQ;(walk_at "st");(walk_at "w");refine zAx (zBF a.num hq.den l) ?_;(walk_at "w");refine zAx (zBF hq.num a.den (by omega)) ?_;(walk_at "w");have e:decide (p.num*↑q.den < q.num*↑p.den)=decide (p < q):=by
  rw[decide_eq_decide];exact((Rat.lt_iff ..)).symm
 rw[e];exact h
def zCn (h:zFN F)(h1:RB m p)(h2:RB n q)(h3:m+n<=60000000)(h4:Q (.bl (decide (p < q)),.cl)):EvP (F [ratD p,ratD q]) Q:=h p q m n Q h1 h2 h3 h4
noncomputable def hD (L:Ln):D->D
 | .tup [.tup [.int a,.int b],.tup [.int c,.int e]]=>ratD (DM.hq L (Rat.divInt a b,Rat.divInt c e))
 | d=>d
def zRb (h:(rngL 0 n).drop i=x::xs):i < n/\x=.int (i:Int)/\xs=(rngL 0 n).drop (i+1):=by
 have a:i < (rngL 0 n).length:=by
  by_cases q:i < (rngL 0 n).length
  .omega
  .rw [drop_eq_nil_of_le (by omega)] at h;cases h
 rw[List.drop_eq_getElem_cons a] at h;cases h;rw[zAc] at a
 simp_all
 unfold rngL;simp
def zOv (h:[]=(rngL 0 n).drop i)(a:i<=n):i=n:=by
 have:=congrArg List.length h;rw[List.length_nil,List.length_drop,zAc] at this;omega
end DL
end
open PySem L2 DL
local macro_rules | `(tactic| walk_at "e")=>`(tactic| (repeat ((fail_if_success (with_reducible show EvP (evSs _ _ _) _));walk_at "ev")))
open PySem L2 DL
local macro_rules | `(tactic| walk_at "c")=>`(tactic| simp only [cons_append,nil_append])
section
namespace DL
open PySem L2
theorem zFF (hn:base.length=n)(P:D->Prop):∀ (zs:List D) (o:Option (D×Bool)),(∀ z∈zs,EvP (evC J c (base++[some (z,false)])) λb=>b=true->EvP (evE J el (base++[some (z,false)])) λr=>r.2≠.dt/\P r.1)->(∀ ys,ys.length<=zs.length->(c=.nil->ys.length=zs.length)->(∀ y∈ys,P y)->Q ys)->EvP (zCF (tg1 n) (evC J c) (evE J el) zs (base++[o])) Q
 | [],o,_,h=>⟨_,rfl,h [] (le_refl _) (λ_=>rfl) (by simp)⟩
 | z::zs,o,hc,h=>by
  obtain⟨b,eb,hb⟩:=hc z q9;have et:tg1 n z (base++[o])=some (base++[some (z,false)]):=by unfold tg1;rw[set_append_right _ _ (by omega),hn,sub_self];rfl
  have ih:=λQ'=>zFF (Q:=Q') hn P zs (some (z,false)) λy hy=>hc y (qJ _ hy)
  cases b with
  | true =>
   obtain⟨r,e,nd,p⟩:=hb rfl;obtain⟨ys,e2,q⟩:=ih (λys=>Q (r.1::ys)) λys l1 l2 l3=>h _ (Nat.succ_le_succ l1) (λz=>congrArg Nat.succ (l2 z)) (by simpa using ⟨p,l3⟩)
   refine⟨_,?_,q⟩;show (tg1 n z (base++[o])).bind _=_;rw[et,qx,eb,qx,if_pos rfl,e,qx,if_neg nd,e2]
   rfl
  | false =>
   obtain⟨ys,e2,q⟩:=ih Q λys l1 l2 l3=>h _ (Nat.le_succ_of_le l1) (λz=>by subst z;cases eb) l3
   refine⟨_,?_,q⟩;show (tg1 n z (base++[o])).bind _=_;rw[et,qx,eb,qx,if_neg qY,e2]
theorem zLC {T:Type}{f:T->D}{P:T->Prop}:∀ {ds:List D},(∀ d∈ds,∃ a,d=f a/\P a)->∃ as:List T,ds=as.map f/\∀ a∈as,P a
 | [],_=>⟨[],rfl,by simp⟩
 | d::ds,h=>by
  obtain⟨a,rfl,p⟩:=h _ q9;obtain⟨as,rfl,q⟩:=zLC λd m=>h d (qJ _ m)
  exact⟨a::as,rfl,by simpa using ⟨p,q⟩⟩
def zGC {ds:List D}{k:Int}(h0:0<=k)(h1:k < ds.length):∃ d,d∈ds/\atI ds k=some d:=by
 obtain⟨i,rfl⟩:=Int.eq_ofNat_of_zero_le h0;have e:ds[i]?=some ds[i]:=getElem?_eq_getElem _;exact⟨_,mem_of_getElem? e,zAv e⟩
def isP (n:Nat)(d:D):Prop:=∃ p:Pt,d=ptD p/\PB n p
def isK (a b:Rat)(d:D):Prop:=∃ k:Int,d=.int k/\RB 8 (k:Rat)/\a≠b
noncomputable def wpB:S:=.cons (.ret (.bin .FloorDiv (.ix (.var 0) (.int 0)) (.ix (.var 0) (.int 1)))) .nil
def WpF (F:List D->Option R):Prop:=∀ (q:Rat) (Q:R->Prop),(∀ k:Int,Q (.int k,.cl))->EvP (F [ratD q]) Q
def zT3 :WpF (dFun 1 1 (evSs J wpB)):=λq Q h=>by
 (walk_at "d");unfold wpB;(walk_at "w");refine zCK (zBI q) ?_;(walk_at "w");exact h _
noncomputable def midB (nt np ng:Nat):S:=.cons (.ret (.call nt "times" (.cons (.glob ng "HALF") (.cons (.call np "plus" (.cons (.var 0) (.cons (.var 1) .nil))) .nil)))) .nil
def MidF (F:List D->Option R):Prop:=∀ (p q:Rat) (n:Nat) (Q:R->Prop),RB n p->RB n q->n<=10000000->(∀ m,RB (2*n+3) m->Q (ratD m,.cl))->EvP (F [ratD p,ratD q]) Q
def zSE (c:J.fns[nt]?=some (("times":Str),Ft))(e:J.fns[np]?=some (("plus":Str),Fp))(b:J.cs[ng]?=some (("HALF":Str),.tup [.int 1,.int 2]))(a:zC0 Ft)(g:zEv Fp):MidF (dFun 2 2 (evSs J (midB nt np ng))):=λp q n Q h1 h2 f h=>by
 (walk_at "d");unfold midB;(walk_at "st");(walk_at "w");rw[zMx];refine zR4 a zHD (by (repeat walk_at "rb")) (by omega) ?_;(walk_at "w");exact h _ ((zAj zHD (zCO h1 h2)).mono (by omega))
noncomputable def zPQ (nu ns:Nat):S:=.cons (.ife (.call nu "under" (.cons (.var 1) (.cons (.var 0) .nil))) (.cons (.ret (.lrev (.call ns "numbers_between" (.cons (.var 1) (.cons (.var 0) (.cons (.var 2) .nil)))))) .nil) .nil) (.cons (.ret (.comp1 3 [] "number" (.r1 (.bin .Add (.var 2) (.int 1))) (.cons (.andl (.cons (.call nu "under" (.cons (.var 0) (.cons (.tup (.cons (.var 3) (.cons (.int 1) .nil))) .nil))) (.cons (.call nu "under" (.cons (.tup (.cons (.var 3) (.cons (.int 1) .nil))) (.cons (.var 1) .nil))) .nil))) .nil) (.var 3))) .nil)
def zL0 (C:Rat->Rat->Prop)(F:List D->Option R):Prop:=∀ (a b:Rat) (l n:Nat) (Q:R->Prop),C a b->RB n a->RB n b->n<=10000000->l<=100->(∀ ds,ds.length<=l+1->(∀ d∈ds,isK a b d)->Q (.lst ds,.fr))->EvP (F [ratD a,ratD b,.int l]) Q
def zKH (y:J.fns[nu]?=some (("under":Str),Fu))(g:zFN Fu)(j:∀ {a b},C a b->b < a->∃ Fs,J.fns[ns]?=some (("numbers_between":Str),Fs)/\zL0 (λa b=>¬ b < a) Fs):zL0 C (dFun 3 3 (evSs J (zPQ nu ns))):=λa b l n Q q f i u t h=>by
 (walk_at "d");unfold zPQ;(walk_at "st");(walk_at "w");refine zCn g i f (by omega) ?_;(walk_at "w");refine zA9 (λc=>?_) λc=>?_
 .obtain ⟨Fs,es,j⟩:=j q c;refine zAD (zBL (zQY (zAL es ?_)));(walk_at "w");refine j b a l n _ (by grind) i f u t λds m p=>n_fr ⟨_,rfl,by omega,?_⟩
  (walk_at "w");refine h _ (by simpa using m) λd s=>?_
  obtain⟨k,e,r,z⟩:=p d (by simpa using s);exact⟨k,e,r,z.symm⟩
 ·(walk_at "w");refine⟨by omega,?_⟩;rw[show ((l:Int)+1).toNat=l+1 by omega];refine⟨by rw[zAc];omega,?_⟩;refine zFF (n:=3) (base:=[_,_,_]) rfl (isK a b) _ _ (λz x=>as_b ?_) λys m _ p=>?_
  .obtain ⟨k,rfl,A,B⟩:=zFa x;(walk_at "c");have o:RB 8 (k:Rat):=zHy (zCx (k:=200) (by omega) (by decide)) (by decide);(walk_at "w");rw[zFr];refine zCn g f o (by omega) ?_;(walk_at "w");refine zA9 (λc=>?_) λc=>?_
   ·(walk_at "w");refine zCn g o i (by omega) ?_;(walk_at "w");intro v;have:=of_decide_eq_true v;(walk_at "w");exact⟨k,rfl,o,by grind⟩
   ·(walk_at "w");exact λz=>nomatch z
  ·(walk_at "w");exact h _ (by rwa [zAc] at m) p
noncomputable def zJq (nd nm np nt:Nat):S:=.cons (.ife (.cmp .Eq (.len (.var 0)) (.int 0)) (.cons (.ret (.lst .nil)) .nil) .nil) (.cons (.set 5 (.call nd "parted" (.cons (.call nm "minus" (.cons (.var 4) (.cons (.var 3) .nil))) (.cons (.call nm "minus" (.cons (.var 2) (.cons (.var 1) .nil))) .nil)))) (.cons (.ret (.comp1 6 [] "number" (.it (.var 0)) .nil (.call np "plus" (.cons (.var 3) (.cons (.call nt "times" (.cons (.var 5) (.cons (.call nm "minus" (.cons (.tup (.cons (.var 6) (.cons (.int 1) .nil))) (.cons (.var 1) .nil))) .nil))) .nil))))) .nil))
def isR (n:Nat)(d:D):Prop:=∃ q:Rat,d=ratD q/\RB n q
def zLx (F:List D->Option R):Prop:=∀ (ks:List D) (a b c e:Rat) (n:Nat) (Q:R->Prop),RB n a->RB n b->RB n c->RB n e->8*n+20<=10000000->(∀ k∈ks,isK a b k)->ks.length<=200->(∀ ds,ds.length=ks.length->(∀ d∈ds,isR (8*n+20) d)->Q (.lst ds,.fr))->EvP (F [.lst ks,ratD a,ratD b,ratD c,ratD e]) Q
theorem zMM (ed:J.fns[nd]?=some (("parted":Str),Fd))(em:J.fns[nm]?=some (("minus":Str),Fm))(ep:J.fns[np]?=some (("plus":Str),Fp))(et:J.fns[nt]?=some (("times":Str),Ft))
  (hd:zGE Fd) (hm:zD0 Fm) (hp:zEv Fp) (ht:zC0 Ft):zLx (dFun 5 6 (evSs J (zJq nd nm np nt))):=λks a b c e n Q ha hb hc he hn hk hl h=>by
 (walk_at "d");unfold zJq;(walk_at "st");(walk_at "w");refine zA9 (λz=>?_) λz=>?_
 ·(walk_at "w");exact h [] (by show (0:Nat)=_;omega) (by simp)
 .obtain ⟨k,mk,_⟩:=zGC (ds:=ks) (k:=0) (by decide) (by omega);obtain⟨_,_,_,ne⟩:=hk k mk;have nz:b - a≠0:=by grind
  have rs:=zJr nz (zCW he hc) (zCW hb ha);(walk_at "w");refine zJ2 hd nz (by (repeat walk_at "rb")) (by (repeat walk_at "rb")) (by omega) ?_;(walk_at "w");refine⟨by omega,?_⟩;refine zFF (n:=6) (base:=[_,_,_,_,_,_]) rfl (isR (8*n+20)) _ _ (λy hy=>⟨true,rfl,λ_=>?_⟩) λys _ l1 l2=>?_
  .obtain ⟨k,rfl,rk,_⟩:=hk y hy;(walk_at "c");(walk_at "w");rw[zFr];(walk_at "w");exact⟨_,rfl,(zCO hc (zAj rs (zCW rk ha))).mono (by omega)⟩
  ·(walk_at "w");exact h _ (l1 rfl) l2
noncomputable def crB (u:Bool)(nn nr:Nat):S:=.cons (.set 2 (.ix (.var 0) (.int 0))) (.cons (.set 3 (.ix (.var 0) (.int 1))) (.cons (.set 4 (.call nn "numbers_between" (.cons (.ix (.var 2) (.int (cond u 0 1))) (.cons (.ix (.var 3) (.int (cond u 0 1))) (.cons (.var 1) .nil))))) (.frz 4 (.cons (.set 5 (.call nr "rests_at" (.cons (.var 4) (.cons (.ix (.var 2) (.int (cond u 0 1))) (.cons (.ix (.var 3) (.int (cond u 0 1))) (.cons (.ix (.var 2) (.int (cond u 1 0))) (.cons (.ix (.var 3) (.int (cond u 1 0))) .nil))))))) (.frz 4 (.frz 5 (.cons (.ret (.comp1 6 [] "k" (.r1 (.len (.var 4))) .nil (.tup (cond u (.cons (.tup (.cons (.ix (.var 4) (.var 6)) (.cons (.int 1) .nil))) (.cons (.ix (.var 5) (.var 6)) .nil)) (.cons (.ix (.var 5) (.var 6)) (.cons (.tup (.cons (.ix (.var 4) (.var 6)) (.cons (.int 1) .nil))) .nil)))))) .nil)))))))
def CrF (F:List D->Option R):Prop:=∀ (s:Pt×Pt) (w n:Nat) (Q:R->Prop),PB n s.1->PB n s.2->8*n+20<=10000000->w<=100->(∀ ds,ds.length<=w+1->(∀ d∈ds,isP (8*n+20) d)->Q (.lst ds,.fr))->EvP (F [zGO s,.int w]) Q
def zTj (u:Bool)(K:J.fns[nn]?=some (("numbers_between":Str),Fn))(G:J.fns[nr]?=some (("rests_at":Str),Fr))(y:zL0 (λ_ _=>True) Fn)(x:zLx Fr):CrF (dFun 2 6 (evSs J (crB u nn nr))):=λs w n Q h1 h2 C r h=>by
 (walk_at "d");unfold crB;cases u
 all_goals
  dsimp only[cond];(walk_at "st");(walk_at "w");refine y _ _ w n _ trivial (by first | exact h1.x | exact h1.y) (by first | exact h2.x | exact h2.y) (by omega) r λks I f=>?_
  (walk_at "w");refine x ks _ _ _ _ n _ (by first | exact h1.x | exact h1.y) (by first | exact h2.x | exact h2.y) (by first | exact h1.x | exact h1.y) (by first | exact h2.x | exact h2.y) C f (by omega) λrs H p=>?_
  (walk_at "w");refine⟨by omega,?_⟩;rw[toNat_natCast];refine⟨by rw[zAc];omega,?_⟩;refine zFF (n:=6) (base:=[_,_,_,_,_,_]) rfl (isP (8*n+20)) _ _ (λz A=>⟨true,rfl,λ_=>?_⟩) λys D _ t=>?_
  .obtain ⟨k,rfl,e,l⟩:=zFa A;(walk_at "c");obtain⟨a,o,B⟩:=zGC (ds:=ks) e l;obtain⟨b,E,v⟩:=zGC (ds:=rs) e (by omega);obtain⟨i,rfl,j,_⟩:=f a o;obtain⟨q,rfl,g⟩:=p b E;(walk_at "w")
   iterate 2
    first | refine zAo B ?_ | refine zAo v ?_
    (walk_at "w")
   first | exact⟨((i:Rat),q),rfl,j.mono (by omega),g⟩ | exact⟨(q,(i:Rat)),rfl,g,j.mono (by omega)⟩
  ·(walk_at "w");exact h _ (by rw[zAc] at D;omega) t
noncomputable def zLp (nu:Nat):S:=.cons (.ife (.var 2) (.cons (.ret (.call nu "under" (.cons (.ix (.var 0) (.int 0)) (.cons (.ix (.var 1) (.int 0)) .nil)))) .nil) .nil) (.cons (.ret (.call nu "under" (.cons (.ix (.var 1) (.int 0)) (.cons (.ix (.var 0) (.int 0)) .nil)))) .nil)
def zIf (F:List D->Option R):Prop:=∀ (p q:Pt) (r:Bool) (n:Nat) (Q:R->Prop),PB n p->PB n q->n<=10000000->(∀ b,Q (.bl b,.cl))->EvP (F [ptD p,ptD q,.bl r]) Q
def zNm (c:J.fns[nu]?=some (("under":Str),Fu))(b:zFN Fu):zIf (dFun 3 3 (evSs J (zLp nu))):=λp q r n Q a hq e h=>by
 (walk_at "d");unfold zLp;(walk_at "st");refine zAD (zEc (zAJ rfl ⟨r,rfl,zF7 (λ_=>?_) λ_=>?_⟩))
 ·(walk_at "w");refine zCn b a.x hq.x (by omega) ?_;(walk_at "w");exact h _
 ·(walk_at "w");refine zCn b hq.x a.x (by omega) ?_;(walk_at "w");exact h _
noncomputable def zPg:S:=.cons (.app 3 (.ix (.var 1) (.var 4))) (.cons (.aug .Add 4 (.int 1)) .nil)
noncomputable def zPh (na:Nat):E:=.andl (.cons (.cmp .Lt (.var 4) (.len (.var 1))) (.cons (.call na "comes_ahead" (.cons (.ix (.var 1) (.var 4)) (.cons (.var 5) (.cons (.var 2) .nil)))) .nil))
noncomputable def zSH (na:Nat):S:=.cons (.whl (zPh na) zPg) (.cons (.ife (.andl (.cons (.cmp .Lt (.var 4) (.len (.var 1))) (.cons (.cmp .Eq (.ix (.var 1) (.var 4)) (.var 5)) .nil))) (.cons (.aug .Add 4 (.int 1)) .nil) .nil) (.cons (.app 3 (.var 5)) .nil))
noncomputable def zSI (na:Nat):S:=.cons (.set 3 (.lst .nil)) (.cons (.set 4 (.int 0)) (.cons (.for1 5 (.it (.var 0)) (zSH na)) (.cons (.ret (.bin .Add (.var 3) (.sl (.var 1) (.cons (.var 4) .nil) .nil))) .nil)))
def zLR (c:O[i]?=some (some (.int a,false)))(h:EvP (evE J e O) λr=>∃ b,r.1=.int b/\Q (.nx (O.set i (some (.int (a+b),false))))):EvP (evS J (.aug .Add i e) O) Q:=by
 rw[evS];obtain⟨⟨d,k⟩,e1,b,e2,q⟩:=h;subst e2;refine⟨_,?_,q⟩;unfold augD;rw[c,e1]
 rfl
def zQ9 (F:List D->Option R):Prop:=∀ (xs ys:List D) (r:Bool) (n:Nat) (Q:R->Prop),(∀ x∈xs,isP n x)->(∀ y∈ys,isP n y)->n<=10000000->xs.length+ys.length<=1000->(∀ ds,ds.length<=xs.length+ys.length->(∀ d∈ds,isP n d)->Q (.lst ds,.fr))->EvP (F [.lst xs,.lst ys,.bl r]) Q
section
variable {J:Gm}{na:Nat}{Fa:List D->Option R}
def zI3 (x:J.fns[na]?=some (("comes_ahead":Str),Fa))(q:zIf Fa)(e:∀ y∈ys,isP n y)(v:PB n p)(s:n<=10000000)(C:B<=1000) :
  ∀ (m:Nat) (acc:List D) (k:Nat),ys.length - k=m->acc.length+(ys.length - k)<=B->k<=ys.length->(∀ a∈acc,isP n a) ->
   (∀ (acc:List D) (k:Nat),acc.length+(ys.length - k)<=B->k<=ys.length->(∀ a∈acc,isP n a)->Q (.nx [x0,some (.lst ys,false),some (.bl r,false),some (.lst acc,true),some (.int (k:Int),false),some (ptD p,false)])) ->
   EvP (zBW (asB (evE J (zPh na))) (evSs J zPg) [x0,some (.lst ys,false),some (.bl r,false),some (.lst acc,true),some (.int (k:Int),false),some (ptD p,false)]) Q:=by
 intro m
 induction m using Nat.strongRecOn with
 | _ m o =>
  intro acc k A f g d h;refine zB5 (as_b ?_);unfold zPh;(walk_at "w");refine zA9 (λc=>?_) λc=>?_
  .obtain ⟨y,l,j⟩:=zGC (ds:=ys) (k:=k) (by omega) c;have u:=e y l;obtain⟨t,rfl,b2⟩:=e y l;refine zHd (zAL x ?_);(walk_at "w");refine zAo j ?_;(walk_at "w");refine q _ _ _ n _ b2 v s λb=>?_
   (walk_at "w");refine zF7 (λ_=>?_) λ_=>h _ _ f g d
   unfold zPg;refine zAD (zCd (xs:=acc) (i:=3) rfl (by omega) ?_);(walk_at "w");refine zAo j ?_;(walk_at "w");refine zLR (i:=4) rfl ?_;(walk_at "w");rw[show (k:Int)+1=((k+1:Nat):Int) by omega];exact o (ys.length - (k+1)) (by omega) (acc++[ptD t]) (k+1) rfl (by rw[qQ,length_singleton];omega) (by omega) (λa m=>(mem_append.mp m).elim (d a) λz=>mem_singleton.mp z▸u) h
  ·(walk_at "w");exact h _ _ f g d
def zPf (K:J.fns[na]?=some (("comes_ahead":Str),Fa))(M:zIf Fa):zQ9 (dFun 3 6 (evSs J (zSI na))):=λxs g r n Q S G N T h=>by
 (walk_at "d");unfold zSI;(walk_at "st");(walk_at "w");refine zDv (λzs O=>∃ (acc:List D) (k:Nat) (o:Option (D×Bool)),(∀ z∈zs,isP n z)/\(∀ a∈acc,isP n a)/\k<=g.length/\acc.length+zs.length+(g.length - k)<=xs.length+g.length/\O=[some (.lst xs,false),some (.lst g,false),some (.bl r,false),some (.lst acc,true),some (.int (k:Int),false),o]) ?_ ?_ _ _ ⟨[],0,none,S,by simp,by omega,by simp,rfl⟩
 .rintro x zs O ⟨acc,k,o,E,A,v,C,rfl⟩;rw[xJ] at C;have H:=E x q9;obtain⟨p,rfl,P⟩:=E x q9;refine⟨_,rfl,?_⟩;(walk_at "s");unfold zSH;refine zAD (zOV (zI3 K M G P N (B:=xs.length+g.length - zs.length - 1) (by omega) _ acc k rfl (by omega) v A λacc k C v A=>k_nx ?_));have f:∀ {Q:Out->Prop} (j:Nat),Q (.nx [some (.lst xs,false),some (.lst g,false),some (.bl r,false),some (.lst (acc++[ptD p]),true),some (.int (j:Int),false),some (ptD p,false)])->EvP (evSs J (.cons (.app 3 (.var 5)) .nil) [some (.lst xs,false),some (.lst g,false),some (.bl r,false),some (.lst acc,true),some (.int (j:Int),false),some (ptD p,false)]) Q:=λj q=>by
   refine zAD (zCd (xs:=acc) (i:=3) rfl (by omega) ?_);(walk_at "w");exact q
  have l:∀ a∈acc++[ptD p],isP n a:=λa m=>(mem_append.mp m).elim (A a) λz=>mem_singleton.mp z▸H
  have t:∀ z∈zs,isP n z:=λz m=>E z (qJ _ m)
  have U:(acc++[ptD p]).length=acc.length+1:=by simp
  (walk_at "w");refine zA9 (λc=>?_) λc=>?_
  .obtain ⟨y,L,I⟩:=zGC (ds:=g) (k:=k) (by omega) c;obtain⟨R,rfl,b2⟩:=G y L;(walk_at "w");refine zAo I ?_;(walk_at "w");refine c_eq (zHh (zIQ R) (zIQ p) (by decide)) ?_;(walk_at "w");refine zF7 (λ_=>?_) λ_=>?_
   .refine zAD (zLR (i:=4) rfl ?_);(walk_at "e");refine zBH (k_nx ?_);rw[show (k:Int)+1=((k+1:Nat):Int) by omega];exact f _ ⟨_,k+1,_,t,l,by omega,by omega,rfl⟩
   .exact zBH (k_nx (f _ ⟨_,k,_,t,l,v,by omega,rfl⟩))
  ·(walk_at "e");exact zBH (k_nx (f _ ⟨_,k,_,t,l,v,by omega,rfl⟩))
 .rintro O ⟨acc,k,o,E,A,v,C,rfl⟩;refine k_nx ?_;(walk_at "w");rw[zIT];have e:(acc++g.drop k).length<=xs.length+g.length:=by simp at C ⊢;omega
  refine zNl (by rw[<- qQ];omega) ?_;(walk_at "w");exact h _ e λd m=>(mem_append.mp m).elim (A d) λz=>G d (List.mem_of_mem_drop z)
end
noncomputable def zJZ (nm nu nl nx:Nat):S:=.cons (.set 3 (.ix (.var 2) (.int 0))) (.cons (.set 4 (.ix (.var 2) (.int 1))) (.cons (.set 5 (.call nm "made_one" (.cons (.call nu "upright_crossings" (.cons (.var 2) (.cons (.var 0) .nil))) (.cons (.call nl "level_crossings" (.cons (.var 2) (.cons (.var 1) .nil))) (.cons (.call nx "under" (.cons (.ix (.var 3) (.int 0)) (.cons (.ix (.var 4) (.int 0)) .nil))) .nil))))) (.frz 4 (.frz 3 (.cons (.ret (.bin .Add (.bin .Add (.lst (.cons (.var 3) .nil)) (.var 5)) (.lst (.cons (.var 4) .nil)))) .nil)))))
def zLt (F:List D->Option R):Prop:=∀ (w h:Nat) (s:Pt×Pt) (n:Nat) (Q:R->Prop),PB n s.1->PB n s.2->8*n+20<=10000000->w<=100->h<=100->(∀ ds,1<=ds.length->ds.length<=w+h+4->(∀ d∈ds,isP (8*n+20) d)->Q (.lst ds,.fr))->EvP (F [.int w,.int h,zGO s]) Q
theorem zMF (em:J.fns[nm]?=some (("made_one":Str),Fm))(eu:J.fns[nu]?=some (("upright_crossings":Str),Fu))(el:J.fns[nl]?=some (("level_crossings":Str),Fl))(ex:J.fns[nx]?=some (("under":Str),Fx))
  (hm:zQ9 Fm) (hu:CrF Fu) (hl:CrF Fl) (hx:zFN Fx):zLt (dFun 3 6 (evSs J (zJZ nm nu nl nx))):=λw h s n Q h1 h2 hn hw hh hQ=>by
 (walk_at "d");unfold zJZ;(walk_at "st");(walk_at "w");refine hu s w n _ h1 h2 hn hw λxs l1 p1=>?_
 (walk_at "w");refine hl s h n _ h1 h2 hn hh λys l2 p2=>?_
 (walk_at "w");refine zCn hx h1.x h2.x (by omega) ?_;(walk_at "w");refine hm xs ys _ _ _ p1 p2 hn (by omega) λzs l3 p3=>?_
 (walk_at "w");refine zNl (by rw[length_singleton];omega) ?_;(walk_at "w");refine zNl (by simp;omega) ?_;(walk_at "w");refine hQ _ (by simp) (by simp;omega) λd m=>?_
 simp only[mem_append,mem_singleton] at m;rcases m with (rfl | m) | rfl
 .exact ⟨_,rfl,h1.mono (by omega)⟩
 .exact p3 d m
 .exact ⟨_,rfl,h2.mono (by omega)⟩
noncomputable def pcB (nw nm:Nat):S:=.cons (.set 2 (.call nw "whole_part" (.cons (.call nm "middle" (.cons (.ix (.var 0) (.int 0)) (.cons (.ix (.var 1) (.int 0)) .nil))) .nil))) (.cons (.set 3 (.call nw "whole_part" (.cons (.call nm "middle" (.cons (.ix (.var 0) (.int 1)) (.cons (.ix (.var 1) (.int 1)) .nil))) .nil))) (.cons (.ret (.tup (.cons (.max (.var 2) (.neg (.int 1))) (.cons (.var 3) (.cons (.var 0) (.cons (.var 1) .nil)))))) .nil))
abbrev zE2 (c r:Int) (p q:Pt):D:=.tup [.int c,.int r,ptD p,ptD q]
def PcF (F:List D->Option R):Prop:=∀ (p q:Pt) (n:Nat) (Q:R->Prop),PB n p->PB n q->n<=10000000->(∀ c r:Int,-1<=c->Q (zE2 c r p q,.cl))->EvP (F [ptD p,ptD q]) Q
theorem zUI (ew:J.fns[nw]?=some (("whole_part":Str),Fw))(em:J.fns[nm]?=some (("middle":Str),Fm))(hw:WpF Fw)(hm:MidF Fm):PcF (dFun 2 4 (evSs J (pcB nw nm))):=λp q n Q h1 h2 hn h=>by
 (walk_at "d");unfold pcB;(walk_at "st");(walk_at "w");refine hm _ _ n _ h1.x h2.x hn λ_ _=>?_
 (walk_at "w");refine hw _ _ λc=>?_
 (walk_at "w");refine hm _ _ n _ h1.y h2.y hn λ_ _=>?_
 (walk_at "w");refine hw _ _ λr=>?_
 (walk_at "w");exact h _ _ (by omega)
noncomputable def onB:S:=.cons (.ret (.andl (.cons (.cmp .Lt (.ix (.var 2) (.int 0)) (.var 0)) (.cons (.chn .LtE .Lt (.int 0) (.ix (.var 2) (.int 1)) (.var 1)) .nil)))) .nil
def OnF (F:List D->Option R):Prop:=∀ (w h c r:Int) (p q:Pt) (Q:R->Prop),(∀ b,(b=true->c < w/\0<=r/\r < h)->Q (.bl b,.cl))->EvP (F [.int w,.int h,zE2 c r p q]) Q
def zUK :OnF (dFun 3 3 (evSs J onB)):=λw h c r p q Q a=>by
 (walk_at "d");unfold onB;(walk_at "st");(walk_at "w");refine zA9 (λz1=>?_) λz1=>?_
 .refine zHd (zOT ?_);(walk_at "w");refine zA9 (λz2=>?_) λz2=>?_
  ·(walk_at "w");exact a _ λz=>⟨z1,z2,of_decide_eq_true z⟩
  ·(walk_at "w");exact a _ λz=>nomatch z
 ·(walk_at "w");exact a _ λz=>nomatch z
noncomputable def zHG (ns np no:Nat):S:=.cons (.ife (.cmp .Eq (.ix (.var 2) (.int 0)) (.ix (.var 2) (.int 1))) (.cons (.ret (.lst .nil)) .nil) .nil) (.cons (.set 3 (.call ns "stops" (.cons (.var 0) (.cons (.var 1) (.cons (.var 2) .nil))))) (.frz 3 (.cons (.setC 4 (.comp1 5 [] "k" (.r1 (.bin .Sub (.len (.var 3)) (.int 1))) .nil (.call np "piece_between" (.cons (.ix (.var 3) (.var 5)) (.cons (.ix (.var 3) (.bin .Add (.var 5) (.int 1))) .nil))))) (.frz 4 (.cons (.ret (.comp1 5 [] "part" (.it (.var 4)) (.cons (.call no "counts_on" (.cons (.var 0) (.cons (.var 1) (.cons (.var 5) .nil)))) .nil) (.var 5))) .nil)))))
def isC (n:Nat)(d:D):Prop:=∃ (c r:Int) (p q:Pt),d=zE2 c r p q/\-1<=c/\PB n p/\PB n q
def isZ (n w h:Nat)(d:D):Prop:=∃ (c r:Int) (p q:Pt),d=zE2 c r p q/\-1<=c/\c < w/\0<=r/\r < h/\PB n p/\PB n q
def zHs (F:List D->Option R):Prop:=∀ (w h:Nat) (s:Pt×Pt) (n:Nat) (Q:R->Prop),PB n s.1->PB n s.2->8*n+20<=10000000->w<=100->h<=100->(∀ ds,ds.length<=w+h+4->(∀ d∈ds,isZ (8*n+20) w h d)->Q (.lst ds,.fr))->EvP (F [.int w,.int h,zGO s]) Q
def zJx (es:J.fns[ns]?=some (("stops":Str),Fs))(T:J.fns[np]?=some (("piece_between":Str),Fp))(R:J.fns[no]?=some (("counts_on":Str),Fo))(B:zLt Fs)(G:PcF Fp)(u:OnF Fo) :
  zHs (dFun 3 5 (evSs J (zHG ns np no))):=λw h s n Q h1 h2 I C o j=>by
 (walk_at "d");unfold zHG;(walk_at "st");refine zAD ?_;(walk_at "e");refine c_eq (zHh (zIQ _) (zIQ _) (by decide)) ?_;(walk_at "e");refine zF7 (λ_=>?_) λ_=>?_
 ·(walk_at "w");exact j [] (zero_le _) (by simp)
 refine zBH (k_nx (zAD ?_));(walk_at "e");refine B w h s n _ h1 h2 I C o λl O P m=>?_
 (walk_at "e");refine zII rfl ?_;(walk_at "s");refine zAD (zHg (zCt (zIl ?_)));(walk_at "e");refine⟨by omega,by rw[zAc];omega,?_⟩;refine zFF (n:=5) (base:=[_,_,_,_,_]) rfl (isC (8*n+20)) _ _ (λy i=>⟨true,rfl,λ_=>?_⟩) λps L _ D=>?_
 .obtain ⟨k,rfl,F,N⟩:=zFa i;(walk_at "c");obtain⟨a,x,K⟩:=zGC (ds:=l) F (by omega);obtain⟨b,M,E⟩:=zGC (ds:=l) (k:=k+1) (by omega) (by omega);obtain⟨p,rfl,g⟩:=m a x;obtain⟨q,rfl,f⟩:=m b M;(walk_at "w");refine zAo K ?_;(walk_at "w");refine zAo E ?_;(walk_at "w");refine G _ _ _ _ g f (by omega) λc r c0=>?_
  (walk_at "w");exact⟨c,r,p,q,rfl,c0,g,f⟩
 rw[zAc] at L;(walk_at "e");refine zII rfl ?_;(walk_at "s");refine zAD (zBL (zCt (zIm ?_)));(walk_at "e");refine⟨by omega,?_⟩;refine zFF (n:=5) (base:=[_,_,_,_,_]) rfl (isZ (8*n+20) w h) _ _ (λy i=>as_b ?_) λzs S _ v=>?_
 .obtain ⟨c,r,p,q,rfl,c0,g,f⟩:=D y i;(walk_at "c");(walk_at "w");refine u _ _ _ _ _ _ _ λb A=>?_
  (walk_at "w");intro z;obtain⟨t,H,r1⟩:=A z;(walk_at "w");exact⟨c,r,p,q,rfl,c0,t,H,r1,g,f⟩
 ·(walk_at "w");exact j _ (by omega) v
noncomputable def rsD (qs:List Rat):D:=.tup (qs.map ratD)
noncomputable def lowL:S:=.cons (.set 4 (.bin .Mod (.var 2) (.var 3))) (.frz 3 (.cons (.set 2 (.var 3)) (.cons (.set 3 (.var 4)) .nil)))
noncomputable def lowB:S:=.cons (.set 2 (.abs (.var 0))) (.cons (.set 3 (.var 1)) (.cons (.whl (.cmp .Gt (.var 3) (.int 0)) lowL) (.cons (.ret (.tup (.cons (.bin .FloorDiv (.var 0) (.var 2)) (.cons (.bin .FloorDiv (.var 1) (.var 2)) .nil)))) .nil)))
def LowF (F:List D->Option R):Prop:=∀ (t b:Int) (Q:R->Prop),0 < b->Q (ratD (Rat.divInt t b),.cl)->EvP (F [.int t,.int b]) Q
def zMl :∀ (n:Nat) (a b:Int) (r:Option (D×Bool)),b.toNat<=n->0<=a->0<=b->(∀ r',Q (.nx [x0,x1,some (.int (Int.gcd a b:Int),false),some (.int 0,false),r'])) ->
  EvP (zBW (asB (evE J (.cmp .Gt (.var 3) (.int 0)))) (evSs J lowL) [x0,x1,some (.int a,false),some (.int b,false),r]) Q:=by
 intro n
 induction n with
 | zero =>
  intro a b r f c d q;have e:b=0:=by omega
  subst e;refine zB5 (as_b ?_);(walk_at "w");refine zDy (Int.lt_irrefl 0) ?_;have:(Int.gcd a 0:Int)=a:=by rw[Int.gcd_zero_right];omega
  rw[this] at q;exact q r
 | succ n g =>
  intro a b r f c d q;by_cases e:b=0
  .subst e;refine zB5 (as_b ?_);(walk_at "w");refine zDy (Int.lt_irrefl 0) ?_;have:(Int.gcd a 0:Int)=a:=by rw[Int.gcd_zero_right];omega
   rw[this] at q;exact q r
  .refine zB5 (as_b ?_);(walk_at "w");refine zDx (show 0 < b by omega) ?_;unfold lowL;(walk_at "w");refine zBD e ?_;(walk_at "w");have h1:=xY a (show 0 < b by omega);have h2:=fmod_lt_of_pos a (show 0 < b by omega);refine g b (a.fmod b) (some (.int (a.fmod b),false)) (by omega) d h1 λr'=>?_
   rw[DM.zIE c (by omega)];exact q r'
def zSN :LowF (dFun 2 5 (evSs J lowB)):=λt b Q c h=>by
 (walk_at "d");unfold lowB;(walk_at "st");(walk_at "w");refine zMl _ _ _ none (le_refl _) (Int.natCast_nonneg _) (Int.le_of_lt c) λr'=>?_
 have e:((Int.gcd (t.natAbs:Int) b:Nat):Int)=DM.msr t b:=by
  unfold DM.msr;rw[if_neg (by omega)];unfold Int.gcd;simp only[Int.natAbs_natCast]
 rw[e];refine k_nx ?_;have a:b≠0:=by omega
 (walk_at "w");refine zCK (DM.zKO a) ?_;(walk_at "w");refine zCK (DM.zKO a) ?_;(walk_at "w");rw[DM.zHO a,DM.zKQ a];exact h
section
variable {J:Gm}{nr:Nat}{Fr:List D->Option R}
def zMk (c:J.fns[nr]?=some (("_law_low":Str),Fr))(b:LowF Fr):zEv (dFun 2 2 (evSs J (zIs "_law_low" nr))):=λp q m n Q a hq l h=>by
 (walk_at "d");unfold zIs;refine zAD (zBL (zAL c ?_));(walk_at "w");refine zAx (zBF a.num hq.den l) ?_;(walk_at "w");refine zAx (zBF hq.num a.den (by omega)) ?_;(walk_at "w");refine zAx (zBF a.den hq.den l) ?_;(walk_at "w");refine b _ _ _ (Int.mul_pos (zDA p) (zDA q)) ?_;rw[<- zLq];(walk_at "w");exact h
def zKZ (b:J.fns[nr]?=some (("_law_low":Str),Fr))(c:LowF Fr):zD0 (dFun 2 2 (evSs J (zE7 "_law_low" nr))):=λp q m n Q a hq l h=>by
 (walk_at "d");unfold zE7;refine zAD (zBL (zAL b ?_));(walk_at "w");refine zAx (zBF a.num hq.den l) ?_;(walk_at "w");refine zAx (zBF hq.num a.den (by omega)) ?_;(walk_at "w");refine zAx (zBF a.den hq.den l) ?_;(walk_at "w");refine c _ _ _ (Int.mul_pos (zDA p) (zDA q)) ?_;rw[<- zJW];(walk_at "w");exact h
def zKU (c:J.fns[nr]?=some (("_law_low":Str),Fr))(b:LowF Fr):zC0 (dFun 2 2 (evSs J (zEy "_law_low" nr))):=λp q m n Q a hq l h=>by
 (walk_at "d");unfold zEy;refine zAD (zBL (zAL c ?_));(walk_at "w");refine zAx (zBF a.num hq.num l) ?_;(walk_at "w");refine zAx (zBF a.den hq.den l) ?_;(walk_at "w");refine b _ _ _ (Int.mul_pos (zDA p) (zDA q)) ?_;rw[<- zKM];(walk_at "w");exact h
end
def zOY (a:List Rat):DOk 2 (rsD a):=zHj λd h=>by
 obtain⟨q,_,rfl⟩:=mem_map.mp h;exact zHk q
noncomputable def zK4 (nw:Nat):S:=.cons (.ife (.orl (.cons (.not (.isi .tuple (.var 2))) (.cons (.cmp .NotEq (.len (.var 2)) (.int 2)) .nil))) (.cons (.ret (.bl false)) .nil) .nil) (.cons (.for1 3 (.it (.var 2)) (.cons (.ife (.not (.call nw "_law_whole" (.cons (.var 3) .nil))) (.cons (.ret (.bl false)) .nil) .nil) .nil)) .nil)
noncomputable def zK5 (nw:Nat):S:=.cons (.ife (.orl (.cons (.not (.isi .tuple (.var 0))) (.cons (.cmp .NotEq (.len (.var 0)) (.len (.var 1))) .nil))) (.cons (.ret (.bl false)) .nil) .nil) (.cons (.for1 2 (.it (.var 0)) (zK4 nw)) (.cons (.ret (.cmp .Eq (.var 0) (.var 1))) .nil))
def zOg (F:List D->Option R):Prop:=∀ (qs:List Rat) (Q:R->Prop),Q (.bl true,.cl)->EvP (F [rsD qs,rsD qs]) Q
theorem zFD (ew:J.fns[nw]?=some (("_law_whole":Str),Fw))(hw:zLr Fw):∀ (qs:List Rat) (a b:Option (D×Bool)),(∀ a b,Q (.nx [x0,x1,a,b])) ->
  EvP (forD (tg1 2) (evSs J (zK4 nw)) (qs.map ratD) [x0,x1,a,b]) Q
 | [],a,b,h=>zIG (h a b)
 | q::qs,a,b,h=>by
  rw[map_cons];refine zCb rfl ?_;(walk_at "s");unfold zK4;(walk_at "w");refine zDx rfl ?_;(walk_at "w");refine w_tu (ds:=[.int q.num,.int (q.den:Int)]) ?_;refine zCb rfl ?_;(walk_at "s");(walk_at "w");refine hw _ _ ?_;(walk_at "w");refine hw _ _ ?_;(walk_at "w");exact zFD ew hw qs _ _ h
def zNF (f:J.fns[nw]?=some (("_law_whole":Str),Fw))(e:zLr Fw):zOg (dFun 2 4 (evSs J (zK5 nw))):=λqs Q h=>by
 (walk_at "d");have eo:=zHh (zOY qs) (zOY qs) (by decide);unfold zK5;unfold rsD at eo ⊢;(walk_at "st");(walk_at "w");refine zDx rfl ?_;(walk_at "w");refine zFD f e qs none none λa b=>?_
 refine k_nx ?_;(walk_at "w");refine c_eq eo ?_;rw[zNT];(walk_at "w");exact h
def zDB (h:EvP (evE J el (O.set n (some (z,false)))) λr=>r.2≠.dt/\EvP (zCF (tg1 n) (evC J .nil) (evE J el) zs (O.set n (some (z,false)))) λys=>Q (r.1::ys)):EvP (zCF (tg1 n) (evC J .nil) (evE J el) (z::zs) O) Q:=by
 obtain⟨r,e,b,ys,a,q⟩:=h;refine⟨_,?_,q⟩;show (tg1 n z O).bind _=_;unfold tg1 at a ⊢;rw[ zDm];rw[zDm] at a
 simp_all
def zOb (h:Q []):EvP (zCF (tg1 n) (evC J .nil) (evE J el) [] O) Q:=⟨_,rfl,h⟩
noncomputable def zLh (n1 n0:Nat):S:=.cons (.ret (.tup (.cons (.glob n1 "ONE") (.cons (.glob n0 "NOUGHT") (.cons (.glob n0 "NOUGHT") (.cons (.glob n0 "NOUGHT") (.cons (.glob n0 "NOUGHT") .nil))))))) .nil
def zOh (F:List D->Option R):Prop:=∀ (Q:R->Prop),Q (rsD [1,0,0,0,0],.cl)->EvP (F []) Q
def zNf (a:J.cs[n1]?=some (("ONE":Str),.tup [.int 1,.int 1]))(b:J.cs[n0]?=some (("NOUGHT":Str),.tup [.int 0,.int 1])):zOh (dFun 0 0 (evSs J (zLh n1 n0))):=λQ h=>by
 (walk_at "d");unfold zLh;(walk_at "w");exact h
noncomputable def zRc (nm n1:Nat):S:=.cons (.ret (.call nm "minus" (.cons (.glob n1 "ONE") (.cons (.var 0) .nil)))) .nil
def zLy (F:List D->Option R):Prop:=∀ (q:Rat) (n:Nat) (Q:R->Prop),RB n q->n<=50000000->Q (ratD (1 - q),.cl)->EvP (F [ratD q]) Q
theorem zOy (em:J.fns[nm]?=some (("minus":Str),Fm))(e1:J.cs[n1]?=some (("ONE":Str),.tup [.int 1,.int 1]))(hm:zD0 Fm):zLy (dFun 1 1 (evSs J (zRc nm n1))):=λq n Q hq l h=>by
 refine zQV rfl (by decide) (zAD (zBL (zAL em (zAH (zCE e1 ?_)))));rw[zPM];(walk_at "w");exact h
noncomputable def zPa (nt:Nat):S:=.cons (.ret (.tupl (.comp1 2 [] "part" (.it (.var 0)) .nil (.call nt "times" (.cons (.var 2) (.cons (.var 1) .nil)))))) .nil
def zJK (F:List D->Option R):Prop:=∀ (d:D) (qs:List Rat) (r:Rat) (m n:Nat) (Q:R->Prop),(d=rsD qs\/d=.lst (qs.map ratD))->qs.length<=100->(∀ q∈qs,RB m q)->RB n r->m+n<=60000000->Q (rsD (qs.map (·*r)),.cl)->EvP (F [d,ratD r]) Q
def zPZ (e:J.fns[nt]?=some (("times":Str),Ft))(j:zC0 Ft):zJK (dFun 2 2 (evSs J (zPa nt))):=λd a r m n Q f i hq g l h=>by
 (walk_at "d");unfold zPa;(walk_at "st");refine zAD (zBL (zF3 (zCt (zIm (zAJ rfl ?_)))));refine⟨a.map ratD,(λz=>nomatch z),?_,?_⟩
 .rcases f with rfl | rfl
  .exact .inr rfl
  .exact .inl rfl
 refine⟨by rw[qy];omega,?_⟩;refine zLe (J:=J) (base:=[some (d,false),some (ratD r,false)]) rfl ratD (λq=>ratD (q*r)) a none ?_ ?_
 .intro q c;have b:=hq q c;refine zAL e ?_;show EvP (evEs J _ [some (d,false),some (ratD r,false),some (ratD q,false)]) _;(walk_at "w")
  rfl
 .refine zMA ?_;(walk_at "w");unfold rsD at h;rw[map_map] at h;exact h
noncomputable def zOs (nm np:Nat):S:=.cons (.set 2 (.call nm "multiplied" (.cons (.var 1) (.cons (.ix (.var 0) (.int 0)) .nil)))) (.cons (.ret (.tupl (.comp1 3 [] "k" (.r1 (.int 4)) .nil (.call np "plus" (.cons (.ix (.var 0) (.bin .Add (.int 1) (.var 3))) (.cons (.ix (.var 2) (.var 3)) .nil)))))) .nil)
structure Fm where
 k:Rat
 a:Rat
 r:Rat
 g:Rat
 b:Rat
structure Gr where
 a:Rat
 r:Rat
 g:Rat
 b:Rat
noncomputable def fmD (f:Fm):D:=rsD [f.k,f.a,f.r,f.g,f.b]
noncomputable def grD (x:Gr):D:=rsD [x.a,x.r,x.g,x.b]
structure FB (n:Nat)(f:Fm):Prop where
 k:RB n f.k
 a:RB n f.a
 r:RB n f.r
 g:RB n f.g
 b:RB n f.b
structure GB (n:Nat)(x:Gr):Prop where
 a:RB n x.a
 r:RB n x.r
 g:RB n x.g
 b:RB n x.b
def FB.mono (h:FB m f)(l:m<=n):FB n f:=⟨h.k.mono l,h.a.mono l,h.r.mono l,h.g.mono l,h.b.mono l⟩
noncomputable def sn (f:Fm)(x:Gr):Gr:=⟨f.a+x.a*f.k,f.r+x.r*f.k,f.g+x.g*f.k,f.b+x.b*f.k⟩
def zQ7 (F:List D->Option R):Prop:=∀ (f:Fm) (x:Gr) (m n:Nat) (Q:R->Prop),FB m f->GB n x->m+n<=10000000->Q (grD (sn f x),.cl)->EvP (F [fmD f,grD x]) Q
def zOr {Fm:List D->Option R}(t:J.fns[nm]?=some (("multiplied":Str),Fm))(k:J.fns[np]?=some (("plus":Str),Fp))(e:zJK Fm)(u:zEv Fp):zQ7 (dFun 2 3 (evSs J (zOs nm np))):=λf x m n Q a b l h=>by
 (walk_at "d");unfold zOs;(walk_at "st");refine zAD (zCz (zAL t ?_));(walk_at "w");refine zD3 (d:=ratD f.k) rfl ?_;(walk_at "w");refine e (grD x) [x.a,x.r,x.g,x.b] f.k n m _ (.inl rfl) (zzb rfl) ?_ a.k (by omega) ?_
 .intro q hq;simp only[mem_cons,not_mem_nil,or_false] at hq;rcases hq with rfl | rfl | rfl | rfl
  .exact b.a
  .exact b.r
  .exact b.g
  .exact b.b
 (walk_at "w");refine zF3 (zCt (zIl ?_));(walk_at "w");refine⟨by decide,?_⟩;refine⟨by decide,?_⟩;show EvP (zCF (tg1 3) (evC J .nil) _ [.int 0,.int 1,.int 2,.int 3] [some (fmD f,false),some (grD x,false),some (rsD [x.a*f.k,x.r*f.k,x.g*f.k,x.b*f.k],false),none]) _;have step:∀ (i j:Int) (p q:Rat) (o:Option (D×Bool)) (Q:R->Prop),atI ([f.k,f.a,f.r,f.g,f.b].map ratD) (1+i)=some (ratD p)->atI ([x.a*f.k,x.r*f.k,x.g*f.k,x.b*f.k].map ratD) i=some (ratD q)->RB m p->RB (n+m) q->Q (ratD (p+q),.cl) ->
   EvP (evE J (.call np "plus" (.cons (.ix (.var 0) (.bin .Add (.int 1) (.var 3))) (.cons (.ix (.var 2) (.var 3)) .nil))) [some (fmD f,false),some (grD x,false),some (rsD [x.a*f.k,x.r*f.k,x.g*f.k,x.b*f.k],false),some (.int i,false)]) Q:=by
  intro i j p q o Q c g b1 b2 r;refine zAL k ?_;(walk_at "w");refine zD3 c ?_;(walk_at "w");refine zD3 g ?_;(walk_at "w");exact r
 refine zDB ?_;(walk_at "s");refine step 0 0 f.a (x.a*f.k) none _ rfl rfl a.a (zAj b.a a.k) ?_;refine n_cl (zDB ?_);(walk_at "s");refine step 1 0 f.r (x.r*f.k) none _ rfl rfl a.r (zAj b.r a.k) ?_;refine n_cl (zDB ?_);(walk_at "s");refine step 2 0 f.g (x.g*f.k) none _ rfl rfl a.g (zAj b.g a.k) ?_;refine n_cl (zDB ?_);(walk_at "s");refine step 3 0 f.b (x.b*f.k) none _ rfl rfl a.b (zAj b.b a.k) ?_;refine n_cl (zOb ?_);refine zMA ?_;(walk_at "w");exact h
def zT4:(10:Int)^(20:Int).toNat=100000000000000000000:=by decide
noncomputable def zGh (nl:Nat):S:=.cons (.set 1 (.bin .Add (.int 1) (.bin .Mod (.var 0) (.int 12)))) (.cons (.set 2 (.bin .FloorDiv (.var 0) (.int 12))) (.cons (.ife (.cmp .Eq (.bin .Mod (.var 2) (.int 8)) (.int 5)) (.cons (.set 1 (.bin .Add (.int 1) (.bin .Mod (.bin .FloorDiv (.var 2) (.int 8)) (.bin .Pow (.int 10) (.int 20))))) .nil) .nil) (.cons (.set 3 (.bin .Mod (.var 2) (.int 7))) (.cons (.ife (.cmp .Eq (.var 3) (.int 0)) (.cons (.ret (.tup (.cons (.int 0) (.cons (.int 1) .nil)))) .nil) .nil) (.cons (.ife (.cmp .Eq (.var 3) (.int 1)) (.cons (.ret (.tup (.cons (.int 1) (.cons (.int 1) .nil)))) .nil) .nil) (.cons (.ret (.call nl "_law_low" (.cons (.bin .Mod (.bin .Mult (.bin .FloorDiv (.var 2) (.int 9)) (.int 48271)) (.bin .Add (.var 1) (.int 1))) (.cons (.var 1) .nil)))) .nil))))))
def zOf (F:List D->Option R):Prop:=∀ (c:Int) (Q:R->Prop),(∀ q:Rat,RB 80 q->0<=q->q<=1->Q (ratD q,.cl))->EvP (F [.int c]) Q
def zNZ (a:0 < b)(h0:0<=t)(h1:t<=b):0<=Rat.divInt t b/\Rat.divInt t b<=1:=by
 refine⟨Rat.divInt_nonneg h0 (Int.le_of_lt a),?_⟩;have d:b≠0:=by omega
 have c:=(DM.zU0 d (Rat.divInt t b)).mp rfl;have e:=zDA (Rat.divInt t b);rw[Rat.le_iff];show (Rat.divInt t b).num*1<=1*((Rat.divInt t b).den:Int);rw[Int.mul_one,Int.one_mul];refine Int.le_of_mul_le_mul_right ?_ a;rw[c,Int.mul_comm];exact Int.mul_le_mul_of_nonneg_left h1 (Int.le_of_lt e)
def zND (j:J.fns[nl]?=some (("_law_low":Str),Fl))(g:LowF Fl):zOf (dFun 1 4 (evSs J (zGh nl))):=λc Q h=>by
 (walk_at "d");unfold zGh;(walk_at "st");have a:∀ (b r:Int),1<=b->b<=100000000000000000000->EvP (evSs J (S.tail 3 (zGh nl)) [some (.int c,false),some (.int b,false),some (.int r,false),none]) (Kd' Q):=λb r b1 b2=>by
  unfold zGh;simp only[S.tail];(walk_at "w");refine zBD (by decide) ?_;(walk_at "w");refine zA9 (λ_=>?_) λ_=>?_
  ·(walk_at "w");exact h 0 (zBB.mono (by decide)) (by decide) (by decide)
  (walk_at "w");refine zA9 (λ_=>?_) λ_=>?_
  ·(walk_at "w");exact h 1 (zBd.mono (by decide)) (by decide) (by decide)
  (walk_at "w");refine zCK (zBU (by decide) (by decide)) ?_;(walk_at "w");refine zAx (zEN (by decide)) ?_;(walk_at "w");refine zBD (by omega) ?_;(walk_at "w");have i:=xY (Int.fdiv r 9*48271) (show 0 < b+1 by omega);have o:=fmod_lt_of_pos (Int.fdiv r 9*48271) (show 0 < b+1 by omega);refine g _ _ _ (by omega) ?_;(walk_at "w");have f:Bd 80 b:=zCx (k:=100000000000000000000) (by omega) (by decide);have u:=zNZ (show 0 < b by omega) i (by omega);exact h _ (zEH (by omega) (zCx (k:=100000000000000000001) (by omega) (by decide)) f) u.1 u.2
 refine zAD ?_;(walk_at "e");refine zBD (by decide) ?_;(walk_at "e");have p:=xY c (show (0:Int) < 12 by decide);have m:=fmod_lt_of_pos c (show (0:Int) < 12 by decide);refine zAD ?_;(walk_at "e");refine zCK (zBU (by decide) (by decide)) ?_;(walk_at "e");refine zAD ?_;(walk_at "e");refine zBD (by decide) ?_;(walk_at "e");refine zA9 (λ_=>?_) λ_=>?_
 .refine zAD ?_;(walk_at "e");refine zCK (zBU (by decide) (by decide)) ?_;(walk_at "e");refine zU1 ⟨by decide,by decide,by decide⟩ ?_;rw[zT4];refine zBD (by decide) ?_;(walk_at "e");refine zBH (k_nx ?_);have n:=xY ((c.fdiv 12).fdiv 8) (show (0:Int) < 100000000000000000000 by decide);have l:=fmod_lt_of_pos ((c.fdiv 12).fdiv 8) (show (0:Int) < 100000000000000000000 by decide);exact a _ _ (by omega) (by omega)
 .refine zBH (k_nx ?_);exact a _ _ (by omega) (by omega)
noncomputable def inkD (r g b:Int):D:=.tup [.int r,.int g,.int b]
noncomputable def inkB (nr nm:Nat):S:=.cons (.ret (.bin .Add (.tup (.cons (.call nr "rest_of" (.cons (.var 0) .nil)) (.cons (.var 0) .nil))) (.call nm "multiplied" (.cons (.comp1 2 [] "part" (.it (.var 1)) .nil (.tup (.cons (.var 2) (.cons (.int 1) .nil)))) (.cons (.var 0) .nil))))) .nil
noncomputable def zFs (s:Rat)(r g b:Int):Fm:=⟨1 - s,s,(r:Rat)*s,(g:Rat)*s,(b:Rat)*s⟩
def zDQ {i:Int}(h0:0<=i)(h1:i<=255):RB 8 (i:Rat):=zHy (zCx (k:=255) (by omega) (by simp)) (by simp)
def InkF (F:List D->Option R):Prop:=∀ (s:Rat) (r g b:Int) (n:Nat) (Q:R->Prop),RB n s->n<=10000000->(0<=r/\r<=255)->(0<=g/\g<=255)->(0<=b/\b<=255)->Q (fmD (zFs s r g b),.cl)->EvP (F [ratD s,inkD r g b]) Q
def b_tt (l:(x::xs).length+(y::ys).length<=10000)(h:Q (.tup ((x::xs)++(y::ys)),.cl)):EvP (binD .Add (.tup (x::xs)) (.tup (y::ys))) Q:=⟨_,if_pos l,h⟩
def zSa {Fm:List D->Option R}(f:J.fns[nr]?=some (("rest_of":Str),Fr))(i:J.fns[nm]?=some (("multiplied":Str),Fm))(c:zLy Fr)(e:zJK Fm):InkF (dFun 2 2 (evSs J (inkB nr nm))):=λs r g b n Q a l h1 h2 h3 h=>by
 (walk_at "d");unfold inkB inkD;(walk_at "st");(walk_at "w");refine c s n _ a (by omega) ?_;(walk_at "w");refine zDB ?_;simp only[mask,cons_append,nil_append,List.set_cons_zero,List.set_cons_succ];(walk_at "w");refine zDB ?_;(walk_at "s");(walk_at "w");refine zDB ?_;(walk_at "s");(walk_at "w");refine zOb ?_;(walk_at "w");refine⟨(λz=>nomatch z),?_⟩;(walk_at "w");refine e _ [(r:Rat),(g:Rat),(b:Rat)] s 8 n _ (.inr rfl) (zzb rfl) ?_ a (by omega) ?_
 .intro q hq;simp only[mem_cons,not_mem_nil,or_false] at hq;rcases hq with rfl | rfl | rfl
  .exact zDQ h1.1 h1.2
  .exact zDQ h2.1 h2.2
  .exact zDQ h3.1 h3.2
 (walk_at "w");refine b_tt (zzb rfl) ?_;(walk_at "w");exact h
def zTM (a:RB n s)(h1:0<=r/\r<=255)(h2:0<=g/\g<=255)(h3:0<=b/\b<=255):FB (n+8) (zFs s r g b):=by
 refine⟨(zCW zBd a).mono (by omega),a.mono (by omega),?_,?_,?_⟩
 .exact (zAj (zDQ h1.1 h1.2) a).mono (by omega)
 .exact (zAj (zDQ h2.1 h2.2) a).mono (by omega)
 .exact (zAj (zDQ h3.1 h3.2) a).mono (by omega)
noncomputable def rubB (nr n0:Nat):S:=.cons (.ret (.tup (.cons (.call nr "rest_of" (.cons (.var 0) .nil)) (.cons (.glob n0 "NOUGHT") (.cons (.glob n0 "NOUGHT") (.cons (.glob n0 "NOUGHT") (.cons (.glob n0 "NOUGHT") .nil))))))) .nil
def RubF (F:List D->Option R):Prop:=∀ (s:Rat) (n:Nat) (Q:R->Prop),RB n s->n<=10000000->Q (fmD ⟨1 - s,0,0,0,0⟩,.cl)->EvP (F [ratD s]) Q
def zRY (c:J.fns[nr]?=some (("rest_of":Str),Fr))(e:J.cs[n0]?=some (("NOUGHT":Str),.tup [.int 0,.int 1]))(b:zLy Fr):RubF (dFun 1 1 (evSs J (rubB nr n0))):=λs n Q a l h=>by
 (walk_at "d");unfold rubB;(walk_at "st");(walk_at "w");refine b s n _ a (by omega) ?_;(walk_at "w");exact h
noncomputable def zPq (nt ns:Nat):S:=.cons (.ret (.bin .Add (.tup (.cons (.call nt "times" (.cons (.ix (.var 0) (.int 0)) (.cons (.ix (.var 1) (.int 0)) .nil))) .nil)) (.call ns "seen" (.cons (.var 0) (.cons (.sl (.var 1) (.cons (.int 1) .nil) .nil) .nil))))) .nil
noncomputable def jn (f g:Fm):Fm:=⟨f.k*g.k,f.a+g.a*f.k,f.r+g.r*f.k,f.g+g.g*f.k,f.b+g.b*f.k⟩
def zUw (a:FB m f)(b:FB n g):FB (m+(n+m)+1) (jn f g) :=
 ⟨(zAj a.k b.k).mono (by omega),zCO a.a (zAj b.a a.k),zCO a.r (zAj b.r a.k),zCO a.g (zAj b.g a.k),zCO a.b (zAj b.b a.k)⟩
def zTs (F:List D->Option R):Prop:=∀ (f g:Fm) (m n:Nat) (Q:R->Prop),FB m f->FB n g->m+n<=10000000->Q (fmD (jn f g),.cl)->EvP (F [fmD f,fmD g]) Q
def fm_k (h:Q (ratD f.k,.cl)):EvP (ixD (fmD f) (.int 0)) Q:=zD3 rfl h
def zHb (e:O[i]?=some (some (fmD f,false)))(h:Q (rsD [f.a,f.r,f.g,f.b],.cl)):EvP (evE J (.sl (.var i) (.cons (.int 1) .nil) .nil) O) Q:=by
 refine zTO (zAJ e (zLS (zAk ⟨1,rfl,zOW ?_⟩)));refine⟨[ratD f.k,ratD f.a,ratD f.r,ratD f.g,ratD f.b],rfl,?_,h⟩;show ¬ (HT.sIx 5 0 _=0/\HT.sIx 5 5 none=5)
 decide
def zPp (i:J.fns[nt]?=some (("times":Str),Ft))(es:J.fns[ns]?=some (("seen":Str),Fs))(c:zC0 Ft)(e:zQ7 Fs):zTs (dFun 2 2 (evSs J (zPq nt ns))):=λf g m n Q b a l h=>by
 (walk_at "d");unfold zPq;refine zAD (zBL (zAl (zIK (zAH (zAL i (zAH (zBh (zAJ rfl (zAk (fm_k (n_cl (zAH (zBh (zAJ rfl (zAk (fm_k (n_cl (zAs ?_))))))))))))))))));refine c f.k g.k m n _ b.k a.k (by omega) ?_;refine n_cl (n_cl (zAs ⟨zzb rfl,?_⟩));refine zAL es (zAH (zAJ rfl (n_cl (zAH (zHb rfl (n_cl (zAs ?_)))))));refine e f ⟨g.a,g.r,g.g,g.b⟩ m n _ b ⟨a.a,a.r,a.g,a.b⟩ l ?_;refine n_cl ?_;refine b_tt (zzb rfl) ?_;simp;exact h
noncomputable def mixB (np nr nt nm:Nat):S:=.cons (.ret (.bin .Add (.tup (.cons (.call np "plus" (.cons (.call nr "rest_of" (.cons (.var 1) .nil)) (.cons (.call nt "times" (.cons (.var 1) (.cons (.ix (.var 0) (.int 0)) .nil))) .nil))) .nil)) (.call nm "multiplied" (.cons (.sl (.var 0) (.cons (.int 1) .nil) .nil) (.cons (.var 1) .nil))))) .nil
noncomputable def mx (f:Fm)(t:Rat):Fm:=⟨1 - t+t*f.k,f.a*t,f.r*t,f.g*t,f.b*t⟩
def zUv (b:FB m f)(a:RB n t):FB (m+n+n+3) (mx f t) :=
 ⟨(zCO (zCW zBd a) (zAj a b.k)).mono (by omega),(zAj b.a a).mono (by omega),(zAj b.r a).mono (by omega),(zAj b.g a).mono (by omega),(zAj b.b a).mono (by omega)⟩
def MixF (F:List D->Option R):Prop:=∀ (f:Fm) (t:Rat) (m n:Nat) (Q:R->Prop),FB m f->RB n t->m+n<=10000000->Q (fmD (mx f t),.cl)->EvP (F [fmD f,ratD t]) Q
def zUM (c:zJK F)(a:FB m f)(b:RB n t)(l:m+n<=10000000)(h:Q (rsD [f.a*t,f.r*t,f.g*t,f.b*t],.cl)):EvP (F [rsD [f.a,f.r,f.g,f.b],ratD t]) Q:=by
 refine c _ [f.a,f.r,f.g,f.b] t m n _ (.inl rfl) (zzb rfl) ?_ b (by omega) h;intro q hq
 simp_all
 rcases hq with rfl | rfl | rfl | rfl
 .exact a.a
 .exact a.r
 .exact a.g
 .exact a.b
def zSD {Fm:List D->Option R}(k:J.fns[np]?=some (("plus":Str),Fp))(o:J.fns[nr]?=some (("rest_of":Str),Fr))(c:J.fns[nt]?=some (("times":Str),Ft))(e:J.fns[nm]?=some (("multiplied":Str),Fm))(i:zEv Fp)(p:zLy Fr)(j:zC0 Ft)(g:zJK Fm) :
  MixF (dFun 2 2 (evSs J (mixB np nr nt nm))):=λf t m n Q b a l h=>by
 (walk_at "d");unfold mixB;refine zAD (zBL (zAl (zIK (zAH (zAL k (zAH (zAL o (zAH (zAJ rfl (n_cl (zAs ?_))))))))))) ;refine p t n _ a (by omega) ?_;refine n_cl (n_cl (zAH (zAL c (zAH (zAJ rfl (n_cl (zAH (zBh (zAJ rfl (zAk (fm_k (n_cl (zAs ?_)))))))))))));refine j t f.k n m _ a b.k (by omega) ?_;refine n_cl (n_cl (zAs ?_));refine i _ _ (1+n+1) (n+m) _ (zCW zBd a) (zAj a b.k) (by omega) ?_;refine n_cl (n_cl (zAs ⟨zzb rfl,?_⟩));refine zAL e (zAH (zHb rfl (n_cl (zAH (zAJ rfl (n_cl (zAs ?_)))))));refine zUM g b a l ?_;refine n_cl ?_;refine b_tt (zzb rfl) ?_;(walk_at "w");exact h
noncomputable def clr:Fm:=⟨1,0,0,0,0⟩
def zTN:FB 1 clr:=⟨zBd,zBB,zBB,zBB,zBB⟩
end DL
end
section
namespace DL
open PySem Spec PyProof.Rows L2
inductive W where
 | dat (d:D) | loc (n:Nat) | tup (l:List W) | obj (c:Str) (ns:List Str) (l:List W) | ob (c:Str) (ns:List Str) (n:Nat) | di (t:Bool) (n:Nat)
noncomputable instance:Inhabited W:=⟨.dat .non⟩
abbrev Mem:=List (List W)
inductive CK where
 | lst | ins (c:Str) (ns:List Str) | dic (t:Bool)
abbrev CA:=Addr×CK
noncomputable def mutK (ns:List Str):Bool:=ns.any λn=>n==("grounds":Str)||n==("shapes":Str)
noncomputable def mutF (fs:List (Str×V)):Bool:=mutK (fs.map (·.1))
noncomputable def fz1:HO->Option HO
 | .tup xs=>some (.tup xs)
 | .frz o u=>some (.frz o u)
 | .ins C dx fs=>if mutF fs=true then none else some (.ins C dx fs)
 | _=>none
noncomputable def fzH (H:Hp):Hp:=λb=>(H b).bind fz1
def zTF (h:fz1 o=some u):u=o:=by
 cases o<;>first | cases h;rfl | cases h | skip
 rename_i C a fs;replace h:(if mutF fs=true then none else some _)=some u:=h;grind
def zCa :fzH H b=some o<->H b=some o/\fz1 o=some o:=by
 unfold fzH;constructor
 .intro h;obtain⟨u,e,h⟩:=bind_some h;have:=zTF h
  simp_all
 .simp_all
def zBX :Same (fzH H) H:=λb o h=>(zCa.mp h).1
def zFC (h:H a=some (.frz o u)):fzH H a=some (.frz o u):=zCa.mpr ⟨h,rfl⟩
def zIF (h:H a=some (.ins C dx fs))(n:mutF fs=false):fzH H a=some (.ins C dx fs):=zCa.mpr ⟨h,by show (if mutF fs=true then none else some _)=_;rw[n];rfl⟩
def zBO (h:Same H H'):Same (fzH H) (fzH H'):=λb o q=>let ⟨q1,q2⟩:=zCa.mp q;zCa.mpr ⟨h _ _ q1,q2⟩
def zK0 (h:H a=some u)(h1:fz1 u=none)(h2:fz1 o=none):fzH (upd H a o)=fzH H:=by
 funext b;unfold fzH;by_cases e:b=a
 .subst e;rw[zAd,h];exact h2.trans h1.symm
 .rw [zAS e]
def zIP (h:zEd gs=true):mutF gs=false:=by
 unfold zEd zLY at h;rw[x9,all_eq_true] at h;unfold mutF mutK;rw[List.any_eq_false];intro n a z;have q:=h.2 n a;rw[Bool.or_eq_true,beq_iff_eq,beq_iff_eq] at z;rcases z with rfl | rfl
 .exact absurd q (by decide)
 .exact absurd q (by decide)
abbrev Kp (H H':Hp):Prop:=Same (fzH H) (fzH H')
def Kp.refl (H:Hp):Kp H H:=Same.refl _
def zRR {K:W.Frag}(h:SqT K H a xs):SqT K (fzH H) a xs:=by
 rcases h with (h | ⟨o,h⟩) | h
 .exact .inl (.inl ((zCa.mpr ⟨h,rfl⟩)))
 .exact .inl (.inr ⟨o,zFC h⟩)
 .exact .inr h
mutual
noncomputable def noL:D->Bool
 | .lst _=>false
 | .tup ds=>noLs ds
 | .lam _ _ ds=>noLs ds
 | .obj _ _ ds=>noLs ds
 | .dct _=>false
 | _=>true
noncomputable def noLs:List D->Bool
 | []=>true
 | d::ds=>noL d&&noLs ds
end
section
variable {K:W.Frag}{H:Hp}
mutual
theorem Den.fz:∀ {d:D} {v:V},noL d=true->Den K H d v->Den K (fzH H) d v
 | .non,_,_,h=>by rw[Den] at h ⊢;exact h
 | .bl _,_,_,h=>by rw[Den] at h ⊢;exact h
 | .int _,_,_,h=>by rw[Den] at h ⊢;exact h
 | .str _,_,_,h=>by rw[Den] at h ⊢;exact h
 | .lst _,_,n,_=>by rw[noL] at n;cases n
 | .tup ds,_,n,h=>by
  rw[noL] at n;rw[Den] at h ⊢;obtain⟨a,vs,h1,h2,h3⟩:=h;exact⟨a,vs,h1,zRR h2,DenL.fz n h3⟩
 | .exc c,_,_,h=>by
  rw[Den] at h ⊢;obtain⟨a,o,u,C,h1,h2,h3⟩:=h;exact⟨a,o,u,C,h1,zFC h2,h3⟩
 | .dct _,_,n,_=>by rw[noL] at n;cases n
 | .lam _ L ds,_,n,h=>by
  rw[noL] at n;rw[Den] at h ⊢;obtain⟨a,vs,h1,⟨cl,pm,c,ctv,oc,u1,g1,g2,g3,g4,g5,g6⟩,h3⟩:=h;exact⟨a,vs,h1,⟨cl,pm,c,ctv,oc,u1,zFC g1,zFC g2,g3,g4,g5,Paired.mapP g6 λ_ _ zy133=>by obtain⟨o,u,k1,k2⟩:=zy133;exact⟨o,u,zFC k1,k2⟩⟩,DenL.fz n h3⟩
 | .obj _ ns ds,_,n,h=>by
  rw[noL] at n;rw[Den] at h ⊢;obtain⟨a,vs,h1,⟨C,dx,gs,g1,g2⟩,h3⟩:=h;exact⟨a,vs,h1,⟨C,dx,gs,zIF g1 (zIP g2.1),g2⟩,DenL.fz n h3⟩
 | .fn _ _,_,_,h=>by rw[Den] at h ⊢;exact h
theorem DenL.fz:∀ {ds:List D} {vs:List V},noLs ds=true->DenL K H ds vs->DenL K (fzH H) ds vs
 | [],_,_,h=>by rw[DenL] at h ⊢;exact h
 | d::ds,_,n,h=>by
  rw[noLs,x9] at n;rw[DenL] at h ⊢;obtain⟨v,ws,h1,h2,h3⟩:=h;exact⟨v,ws,h1,Den.fz n.1 h2,DenL.fz n.2 h3⟩
end
end
mutual
noncomputable def DenW (K:W.Frag)(H:Hp)(T:List CA):W->V->Prop
 | .dat d,v=>Den K (fzH H) d v
 | .loc n,v=>∃ a,T[n]?=some (a,.lst)/\v=.ref a
 | .ob c ns n,v=>∃ a,T[n]?=some (a,.ins c ns)/\v=.ref a
 | .di t n,v=>∃ a,T[n]?=some (a,.dic t)/\v=.ref a
 | .tup ws,v=>∃ a vs,v=.ref a/\fzH H a=some (.tup vs)/\DenWL K H T ws vs
 | .obj c ns ws,v=>∃ a vs,v=.ref a/\zLz K (fzH H) c ns a vs/\DenWL K H T ws vs
noncomputable def DenWL (K:W.Frag)(H:Hp)(T:List CA):List W->List V->Prop
 | [],vs=>vs=[]
 | w::ws,vs=>∃ v us,vs=v::us/\DenW K H T w v/\DenWL K H T ws us
end
def zDa {M:List CA}{n:Nat}{a:CA}(h:T[n]?=some a):(T++M)[n]?=some a:=by rw[getElem?_append_left (zzg h).1];exact h
section
variable {K:W.Frag}{H H':Hp}{T:List CA}
mutual
theorem DenW.monoF (e:zCf (fzH H) (fzH H'))(M:List CA):∀ {w:W} {v:V},DenW K H T w v->DenW K H' (T++M) w v
 | .dat _,_,h=>by rw[DenW] at h ⊢;exact h.monoF e
 | .loc n,_,h=>by
  rw[DenW] at h ⊢;obtain⟨a,h1,h2⟩:=h;exact⟨a,zDa h1,h2⟩
 | .ob c ns n,_,h=>by
  rw[DenW] at h ⊢;obtain⟨a,h1,h2⟩:=h;exact⟨a,zDa h1,h2⟩
 | .di t n,_,h=>by
  rw[DenW] at h ⊢;obtain⟨a,h1,h2⟩:=h;exact⟨a,zDa h1,h2⟩
 | .tup ws,_,h=>by
  rw[DenW] at h ⊢;obtain⟨a,vs,h1,h2,h3⟩:=h;exact⟨a,vs,h1,e _ _ h2 (λ_ _ _ z=>nomatch z),DenWL.monoF e M h3⟩
 | .obj c ns ws,_,h=>by
  rw[DenW] at h ⊢;obtain⟨a,vs,h1,h2,h3⟩:=h;exact⟨a,vs,h1,h2.monoF e,DenWL.monoF e M h3⟩
theorem DenWL.monoF (e:zCf (fzH H) (fzH H'))(M:List CA):∀ {ws:List W} {vs:List V},DenWL K H T ws vs->DenWL K H' (T++M) ws vs
 | [],_,h=>by rw[DenWL] at h ⊢;exact h
 | w::ws,_,h=>by
  rw[DenWL] at h ⊢;obtain⟨v,us,h1,h2,h3⟩:=h;exact⟨v,us,h1,DenW.monoF e M h2,DenWL.monoF e M h3⟩
end
def DenW.mono (e:Kp H H')(M:List CA)(h:DenW K H T w v):DenW K H' (T++M) w v:=h.monoF (λb o q _=>e b o q) M
def DenWL.mono (e:Kp H H')(M:List CA)(h:DenWL K H T ws vs):DenWL K H' (T++M) ws vs:=h.monoF (λb o q _=>e b o q) M
def DenW.keep (e:Kp H H')(h:DenW K H T w v):DenW K H' T w v:=by
 have:=h.mono e []
 simp_all
def DenWL.keep (e:Kp H H')(h:DenWL K H T ws vs):DenWL K H' T ws vs:=by
 have:=h.mono e []
 simp_all
def DenWL.nil:DenWL K H T [] []:=rfl
def DenWL.cons (h:DenW K H T w v)(t:DenWL K H T ws vs):DenWL K H T (w::ws) (v::vs):=⟨v,vs,rfl,h,t⟩
def DenWL.length:∀ {ws:List W} {vs:List V},DenWL K H T ws vs->ws.length=vs.length
 | [],_,h=>by rw[DenWL] at h;rw[h];rfl
 | _::ws,_,h=>by
  rw[DenWL] at h;obtain⟨v,us,h1,h2,h3⟩:=h;rw[h1,xJ,xJ,DenWL.length h3]
def DenWL.get:∀ {ws:List W} {vs:List V} {i:Nat} {w:W},DenWL K H T ws vs->ws[i]?=some w->∃ v,vs[i]?=some v/\DenW K H T w v
 | [],_,_,_,_,e=>by simp at e
 | x::ws,_,i,w,h,e=>by
  rw[DenWL] at h;obtain⟨v,us,h1,h2,h3⟩:=h;subst h1;cases i with
  | zero=>simp at e;subst e;exact⟨v,by simp,h2⟩
  | succ i =>
   obtain⟨u,a,b⟩:=DenWL.get (i:=i) (w:=w) h3 (by simpa using e);exact⟨u,by simpa using a,b⟩
def DenWL.append:∀ {ws xs:List W} {vs us:List V},DenWL K H T ws vs->DenWL K H T xs us->DenWL K H T (ws++xs) (vs++us)
 | [],_,_,_,h,t=>by rw[DenWL] at h;subst h;exact t
 | _::ws,_,_,_,h,t=>by
  rw[DenWL] at h;obtain⟨v,us',h1,h2,h3⟩:=h;subst h1;exact .cons h2 (DenWL.append h3 t)
def DenWL.set (a:DenW K H T w v):∀ {ws:List W} {vs:List V} (n:Nat),DenWL K H T ws vs->DenWL K H T (ws.set n w) (vs.set n v)
 | [],_,n,h=>by rw[DenWL] at h;subst h;exact .nil
 | _::ws,_,n,h=>by
  rw[DenWL] at h;obtain⟨u,us,h1,h2,h3⟩:=h;subst h1;cases n with
  | zero=>exact .cons a h3
  | succ n=>exact .cons h2 (DenWL.set a n h3)
def DenWL.dats:∀ {ds:List D} {vs:List V},DenL K (fzH H) ds vs->DenWL K H T (ds.map .dat) vs
 | [],_,h=>by rw[DenL] at h;subst h;exact .nil
 | d::ds,_,h=>by
  rw[DenL] at h;obtain⟨v,us,h1,h2,h3⟩:=h;subst h1;exact .cons (by rw[DenW];exact h2) (DenWL.dats h3)
end
noncomputable def kI:W->Option (List Int)
 | .dat (.int i)=>some [i]
 | .tup [.dat (.int i),.dat (.int j)]=>some [i,j]
 | _=>none
noncomputable def encK:List Int->Option Key
 | [i]=>some (Sum.inl i)
 | _=>none
noncomputable def encT:List Int->Option (List Key)
 | [i,j]=>some [Sum.inl i,Sum.inl j]
 | _=>none
def zEw {c:Type}(K:W.Frag)(H:Hp)(T:List CA)(enc:List Int->Option c):List W->List (c×V)->Prop
 | [],kvs=>kvs=[]
 | w::ws,kvs=>∃ d ks k u v r,w=.tup [d,u]/\kI d=some ks/\enc ks=some k/\kvs=(k,v)::r/\DenW K H T u v/\zEw K H T enc ws r
theorem zEw.monoF {c:Type}{K:W.Frag}{H H':Hp}{T:List CA}{enc:List Int->Option c}(e:zCf (fzH H) (fzH H'))(M:List CA):∀ {ws:List W} {kvs:List (c×V)},zEw K H T enc ws kvs->zEw K H' (T++M) enc ws kvs
 | [],_,h=>h
 | _::ws,_,⟨d,ks,k,u,v,r,h1,h2,h3,h4,h5,h6⟩=>⟨d,ks,k,u,v,r,h1,h2,h3,h4,h5.monoF e M,zEw.monoF e M h6⟩
def zEw.mono {c:Type}{K:W.Frag}{H f:Hp}{T:List CA}{d:List Int->Option c}(e:Kp H f)(M:List CA){ws:List W}{a:List (c×V)}(h:zEw K H T d ws a):zEw K f (T++M) d ws a:=h.monoF (λb o q _=>e b o q) M
def zBi (K:W.Frag)(H:Hp)(T:List CA)(a:Addr)(ws:List W):CK->Prop
 | .lst=>∃ vs,H a=some (.lst vs)/\DenWL K H T ws vs
 | .ins c ns=>∃ C dx gs,H a=some (.ins C dx gs)/\mutF gs=true/\zBl K c C/\gs.map (·.1)=ns/\DenWL K H T ws (gs.map (·.2))
 | .dic false=>∃ kvs,H a=some (.dK kvs)/\zEw K H T encK ws kvs
 | .dic true=>∃ kvs,H a=some (.dT kvs)/\zEw K H T encT ws kvs
def zBi.monoF {K:W.Frag}(h:zBi K H T a ws k)(e:zCf (fzH H) (fzH H'))(q:H' a=H a)(M:List CA):zBi K H' (T++M) a ws k:=by
 match k,h with
 | .lst,⟨vs,h1,h2⟩=>exact⟨vs,q.trans h1,h2.monoF e M⟩
 | .ins c ns,⟨C,dx,gs,h1,h2,h3,h4,h5⟩=>exact⟨C,dx,gs,q.trans h1,h2,h3,h4,h5.monoF e M⟩
 | .dic false,⟨kvs,h1,h2⟩=>exact⟨kvs,q.trans h1,h2.monoF e M⟩
 | .dic true,⟨kvs,h1,h2⟩=>exact⟨kvs,q.trans h1,h2.monoF e M⟩
def zBi.mono {K:W.Frag}(h:zBi K H T a ws k)(e:Kp H H')(q:H' a=H a)(M:List CA):zBi K H' (T++M) a ws k:=h.monoF (λb o q _=>e b o q) q M
theorem zBi.some {K:W.Frag}(h:zBi K H T a ws k):∃ o,H a=some o/\fz1 o=none:=by
 match k,h with
 | .lst,⟨vs,h1,h2⟩=>exact⟨_,h1,rfl⟩
 | .ins c ns,⟨C,dx,gs,h1,h2,h3,h4,h5⟩=>exact⟨_,h1,if_pos h2⟩
 | .dic false,⟨kvs,h1,h2⟩=>exact⟨_,h1,rfl⟩
 | .dic true,⟨kvs,h1,h2⟩=>exact⟨_,h1,rfl⟩
structure zAE (K:W.Frag)(H:Hp)(T:List CA)(G:Mem):Prop where
 len:T.length=G.length
 nd:(T.map (·.1)).Nodup
 at_:∀ (n:Nat) ws,G[n]?=some ws->∃ p:CA,T[n]?=some p/\zBi K H T p.1 ws p.2
structure MS (K:W.Frag)(H:Hp)(T:List CA)(G:Mem)(B:St)(O:List (Option W)):Prop where
 cells:zAE K H T G
 len:B.length=O.length
 get:∀ (i:Nat) w,O[i]?=some (some w)->∃ v,B[i]?=some (some v)/\DenW K H T w v
section
variable {K:W.Frag}{H H':Hp}{T:List CA}{G:Mem}
def zAE.cell (c:zAE K H T G){n:Nat}(b:T[n]?=some (a,k)):∃ ws,G[n]?=some ws/\zBi K H T a ws k:=by
 have d:n < G.length:=by rw[<- c.len];exact(zzg b).1
 obtain _:=c.at_ n _ (getElem?_eq_getElem d)
 simp_all
def zAE.cell' (c:zAE K H T G){n:Nat}(b:T[n]?=some (a,k))(e:G[n]?=some ws):zBi K H T a ws k:=by
 obtain⟨d,f,g⟩:=c.cell b;grind
def zAE.loc (c:zAE K H T G){n:Nat}(b:T[n]?=some (a,.lst)):∃ ws vs,G[n]?=some ws/\H a=some (.lst vs)/\DenWL K H T ws vs :=
 let ⟨ws,h1,vs,h2⟩:=c.cell b;⟨ws,vs,h1,h2⟩
def zAE.loc' (c:zAE K H T G){n:Nat}(b:T[n]?=some (a,.lst))(d:G[n]?=some ws):∃ vs,H a=some (.lst vs)/\DenWL K H T ws vs:=c.cell' b d
def zAE.same (h:zAE K H T G)(e:Same H H'):zAE K H' T G :=
 ⟨h.len,h.nd,λn a q=>let ⟨p,h1,h2⟩:=h.at_ n a q;let ⟨_,g,_⟩:=h2.some;⟨p,h1,by have:=h2.mono (zBO e) ((e _ _ g).trans g.symm) [];rwa [append_nil] at this⟩⟩
def zAE.out (h:zAE K H T G)(j:H x=some o)(f:fz1 o=some u):x∉T.map (·.1):=λz=>by
 obtain⟨p,c,rfl⟩:=mem_map.mp z;obtain⟨i,b,e⟩:=List.mem_iff_getElem.mp c;obtain⟨g,d,a⟩:=h.at_ i _ (getElem?_eq_getElem (by rw[<- h.len];exact b))
 simp_all
 obtain _:=a.some;grind
def zAE.outN (h:zAE K H T G)(f:H x=none):x∉T.map (·.1):=λz=>by
 obtain⟨p,a,rfl⟩:=mem_map.mp z;obtain⟨i,b,e⟩:=List.mem_iff_getElem.mp a;obtain⟨d,g,c⟩:=h.at_ i _ (getElem?_eq_getElem (by rw[<- h.len];exact b));obtain _:=c.some
 simp_all
def zAE.more (h:zAE K H T G){a:Addr}{k:CK}{ws:List W}(n:a∉T.map (·.1))(t:zBi K H (T++[(a,k)]) a ws k):zAE K H (T++[(a,k)]) (G++[ws]):=by
 refine⟨by rw[qQ,qQ,h.len];rfl,?_,λm e q=>?_⟩
 .rw [x8,List.nodup_append];refine⟨h.nd,by simp,λb g c d=>?_⟩;rw[mem_singleton.mp d];rintro rfl;exact n g
 .by_cases lt:m < G.length
  .rw [getElem?_append_left lt] at q;obtain⟨p,f,i⟩:=h.at_ m e q;exact⟨p,zDa f,i.mono (Kp.refl H) rfl _⟩
  .rw [getElem?_append_right (by omega)] at q;have b:m - G.length=0:=by
    have:=(zzg q).1
    simp_all
   rw[b] at q;cases q;exact⟨_,by rw[getElem?_append_right (by rw[h.len];omega),h.len,b];rfl,t⟩
def zAE.newG (h:zAE K H T G)(e:Same H H')(n:H a=none)(t:zBi K H' (T++[(a,k)]) a ws k):zAE K H' (T++[(a,k)]) (G++[ws]):=(h.same e).more (h.outN n) t
def zAE.new (h:zAE K H T G)(e:Same H H')(n:H a=none)(b:H' a=some (.lst vs))(t:DenWL K H' (T++[(a,.lst)]) ws vs):zAE K H' (T++[(a,.lst)]) (G++[ws]):=h.newG e n ⟨vs,b,t⟩
def zAE.chgG (h:zAE K H T G)(z:n < G.length)(c:T[n]?=some (a,k))(h2:fz1 o=none)(t:Kp H (upd H a o)->zBi K (upd H a o) T a ws k):zAE K (upd H a o) T (G.set n ws)/\Kp H (upd H a o):=by
 have g:Kp H (upd H a o):=by
  obtain⟨_,_,h4⟩:=h.cell c;obtain⟨_,u,l⟩:=h4.some;show Same _ _;rw[zK0 u l h2];exact Same.refl _
 refine⟨⟨by rw[length_set];exact h.len,h.nd,λm r q=>?_⟩,g⟩;by_cases e:n=m
 .simp_all
 .rw [getElem?_set_ne e] at q;obtain⟨p,w,x⟩:=h.at_ m r q;have v:p.1≠a:=by
   rintro rfl;have y:(T.map (·.1))[n]?=some p.1:=by rw[getElem?_map,c];rfl
   have s:(T.map (·.1))[m]?=some p.1:=by rw[getElem?_map,w];rfl
   obtain⟨d,f⟩:=zzg y;obtain⟨j,b⟩:=zzg s;have i:=List.pairwise_iff_getElem.mp h.nd;rcases Nat.lt_or_gt_of_ne e with lt | lt
   .exact i n m d j lt (f.trans b.symm)
   .exact i m n j d lt (b.trans f.symm)
  have:=x.mono g (zAS v) []
  simp_all
def zAE.change (h:zAE K H T G)(c:n < G.length)(b:T[n]?=some (a,.lst))(t:DenWL K H T ws vs):zAE K (upd H a (.lst vs)) T (G.set n ws):=(h.chgG c b rfl λkp=>⟨vs,zAd,t.keep kp⟩).1
def MS.next (h:MS K H T G B O)(e:Kp H H')(c:zAE K H' (T++M) G'):MS K H' (T++M) G' B O :=
 ⟨c,h.len,λi w q=>let ⟨v,q1,q2⟩:=h.get i w q;⟨v,q1,q2.mono e M⟩⟩
def MS.set (h:MS K H T G B O)(a:DenW K H T w v):MS K H T G (B.set i (some v)) (O.set i (some w)):=by
 refine⟨h.cells,by rw[length_set,length_set];exact h.len,λj x q=>?_⟩;rcases zAV q with ⟨rfl,z,b⟩ | ⟨ne,z⟩
 .cases z;exact⟨v,zBS (by rw[h.len];exact b),a⟩
 .obtain _:=h.get j x z
  simp_all
end
noncomputable def datA:List Str->List W->List (Str×D)
 | n::ns,.dat d::ws=>(n,d)::datA ns ws
 | _::ns,_::ws=>datA ns ws
 | _,_=>[]
noncomputable def dobj (c:Str)(ns:List Str)(ws:List W):D:=.obj c ((datA ns ws).map (·.1)) ((datA ns ws).map (·.2))
theorem zIS {K:W.Frag}{gs:List (Str×V)}:∀ {ns:List Str} {ws:List W} {vs:List V},(ns.map λn=>gs.lookup n)=vs.map some->DenWL K H T ws vs->∃ us,(((datA ns ws).map (·.1)).map λn=>gs.lookup n)=us.map some/\DenL K (fzH H) ((datA ns ws).map (·.2)) us
 | [],ws,_,_,_=>⟨[],by unfold datA;rfl,by unfold datA;exact .nil⟩
 | _::_,[],_,_,_=>⟨[],rfl,.nil⟩
 | n::ns,w::ws,vs,h,t=>by
  rw[DenWL] at t;obtain⟨v,us,rfl,t1,t2⟩:=t;simp only[map_cons,List.cons.injEq] at h;obtain⟨zs,z1,z2⟩:=zIS h.2 t2;cases w with
  | dat d =>
   rw[DenW] at t1;refine⟨v::zs,?_,.cons t1 z2⟩;show gs.lookup n::_=some v::_;rw[h.1,<- z1]
  | loc _=>exact⟨zs,z1,z2⟩
  | tup _=>exact⟨zs,z1,z2⟩
  | ob _ _ _=>exact⟨zs,z1,z2⟩
  | di _ _=>exact⟨zs,z1,z2⟩
  | obj _ _ _=>exact⟨zs,z1,z2⟩
def zIR {K:W.Frag}(h:DenW K H T (.obj c ns ws) v):Den K (fzH H) (dobj c ns ws) v:=by
 obtain⟨a,g,rfl,⟨C,d,b,h1,h2,h3,h4⟩,h5⟩:=h;obtain⟨us,e,f⟩:=zIS h4 h5;exact⟨a,us,rfl,⟨C,d,b,h1,h2,h3,e⟩,f⟩
mutual
noncomputable def sbW (f:Nat->Option D):W->Option D
 | .dat d=>some d
 | .loc n=>f n
 | .tup ws=>(sbL f ws).map .tup
 | .obj c ns ws=>some (dobj c ns ws)
 | .ob _ _ _=>none
 | .di _ _=>none
noncomputable def sbL (f:Nat->Option D):List W->Option (List D)
 | []=>some []
 | w::ws=>(sbW f w).bind λd=>(sbL f ws).map λds=>d::ds
end
noncomputable def drN (G:Mem):Nat->Nat->Option D
 | 0,_=>none
 | k+1,n=>(G[n]?).bind λws=>(sbL (drN G k) ws).map .lst
noncomputable def drW (G:Mem)(w:W):Option D:=sbW (drN G 6) w
noncomputable def drS (G:Mem)(O:List (Option W)):Dst:=O.map λo=>o.bind λw=>(drW G w).map λd=>(d,false)
section
variable {K:W.Frag}{H:Hp}{T:List CA}{G:Mem}
mutual
theorem zNz {f:Nat->Option D}(hf:∀ n d a,f n=some d->T[n]?=some (a,.lst)->Den K H d (.ref a)):∀ {w:W} {v:V} {d:D},DenW K H T w v->sbW f w=some d->Den K H d v
 | .dat x,v,d,h,e=>by
  rw[sbW] at e;cases e;rw[DenW] at h;exact h.mono zBX
 | .loc n,v,d,h,e=>by
  rw[sbW] at e;rw[DenW] at h;obtain⟨a,h1,rfl⟩:=h;exact hf n d a e h1
 | .tup ws,v,d,h,e=>by
  rw[sbW] at e;obtain⟨ds,e1,rfl⟩:=yq.mp e;rw[DenW] at h;obtain⟨a,vs,rfl,h2,h3⟩:=h;rw[Den];exact⟨a,vs,rfl,SqT.of (zBX _ _ h2),sb_denL hf h3 e1⟩
 | .obj c ns ws,v,d,h,e=>by
  rw[sbW] at e;cases e;exact(zIR h).mono zBX
 | .ob _ _ _,_,_,_,e=>by rw[sbW] at e;cases e
 | .di _ _,_,_,_,e=>by rw[sbW] at e;cases e
theorem sb_denL {f:Nat->Option D}(hf:∀ n d a,f n=some d->T[n]?=some (a,.lst)->Den K H d (.ref a)):∀ {ws:List W} {vs:List V} {ds:List D},DenWL K H T ws vs->sbL f ws=some ds->DenL K H ds vs
 | [],_,_,h,e=>by
  rw[sbL] at e;cases e;rw[DenWL] at h;subst h;exact .nil
 | w::ws,_,_,h,e=>by
  rw[sbL] at e;obtain⟨d,e1,e⟩:=bind_some e;obtain⟨ds,e2,rfl⟩:=yq.mp e;rw[DenWL] at h;obtain⟨v,us,rfl,h2,h3⟩:=h;exact .cons (zNz hf h2 e1) (sb_denL hf h3 e2)
end
theorem zHi (c:zAE K H T G):∀ (k n:Nat) (d:D) (a:Addr),drN G k n=some d->T[n]?=some (a,.lst)->Den K H d (.ref a)
 | 0,_,_,_,e,_=>by cases e
 | k+1,n,d,a,e,ha=>by
  obtain⟨ws,e1,e⟩:=bind_some e;obtain⟨ds,e2,rfl⟩:=yq.mp e;obtain⟨vs,q2,q3⟩:=c.loc' ha e1;rw[Den];exact⟨a,vs,rfl,SqL.of q2,sb_denL (zHi c k) q3 e2⟩
def zOX (h:MS K H T G B O):DS K H [] B (drS G O):=by
 refine⟨by unfold drS;rw[qy];exact h.len,λa z=>absurd z (by simp),λi d o q=>?_,λi j d e a c g _ _=>?_⟩
 .unfold drS at q;rw[getElem?_map] at q;obtain⟨x,f,b⟩:=yq.mp q;obtain⟨w,rfl,b⟩:=bind_some b;obtain⟨m,k,l⟩:=yq.mp b;cases l;obtain⟨v,c,g⟩:=h.get i w f;exact⟨v,c,.of_den ((zNz (zHi h.cells 6) g k))⟩
 .unfold drS at c;rw[getElem?_map] at c;obtain⟨x,f,b⟩:=yq.mp c;obtain _:=bind_some b
  simp_all
end
structure Mst where
 O:List (Option W)
 G:Mem
abbrev MR:=W×Mem
def gM (K:W.Frag)(g:Mst->Option MR):TE:=λB H Q=>∃ T O G r,MS K H T G B O/\g ⟨O,G⟩=some r/\∀ v H' M,Kp H H'->zAE K H' (T++M) r.2->DenW K H' (T++M) r.1 v->Q v H'
def GM (X:Cx)(e:Expr)(g:Mst->Option MR):Prop:=PE X e (gM X.K g)
noncomputable def zD5 (r:R)(G:Mem):Option MR:=match r with
 | (d,.cl)=>if noL d=true then some (.dat d,G) else none
 | (.lst es,.fr)=>if noLs es=true then some (.loc G.length,G++[es.map .dat]) else none
 | _=>none
noncomputable def zMn (f:Dst->Option R):Mst->Option MR:=λs=>(f (drS s.G s.O)).bind λr=>zD5 r s.G
def zIb {K:W.Frag}(c:zAE K H T G)(e:Same H H')(h:RV K H H' [] r v)(q:zD5 r G=some z):∃ M,zAE K H' (T++M) z.2/\DenW K H' (T++M) z.1 v:=by
 unfold zD5 at q;split at q
 .rename_i d;by_cases n:noL d=true
  .rw [if_pos n] at q;cases q;refine⟨[],by rw[append_nil];exact c.same e,?_⟩;rw[DenW];exact h.fz n
  .rw [if_neg n] at q;cases q
 .rename_i es;by_cases n:noLs es=true
  .rw [if_pos n] at q;cases q;obtain⟨a,j,i,rfl,b,_,g,f,t⟩:=h;cases b;refine⟨[(a,.lst)],c.new e g f (DenWL.dats ((t.mono zAf).fz n)),?_⟩;rw[DenW];exact⟨a,by show _[G.length]?=_;rw[getElem?_append_right (by rw[c.len];omega),c.len,sub_self];rfl,rfl⟩
  .rw [if_neg n] at q;cases q
 .cases q
def zQD (h:GE X e f):GM X e (zMn f):=h.imp λB H Q a=>by
 obtain⟨T,O,G,z,d,q,c⟩:=a;obtain⟨r,j,q⟩:=bind_some q;refine⟨[],drS G O,r,zOX d,j,λv k b r1=>?_⟩;obtain⟨M,i,g⟩:=zIb d.cells b r1 q;exact c v k M (zBO b) i g
section
variable {X:Cx}
noncomputable def varM (i:Nat):Mst->Option MR:=λs=>match s.O[i]? with
 | some (some w)=>some (w,s.G)
 | _=>none
def zSq (g:X.N[i]?=some x)(j:Vis X.env.scope x)(k:(x==("__debug__":Str))=false)(b:(x==("__classdict__":Str))=false):GM X (.Name x pos) (varM i):=by
 refine(zDK g j k b).imp λB H Q a=>?_
 obtain⟨T,O,G,r,d,q,c⟩:=a;unfold varM at q;split at q
 .rename_i w e;cases q;obtain⟨v,h,f⟩:=d.get i w e;exact⟨v,h,c v H [] (Kp.refl H) (by rw[append_nil];exact d.cells) (by rw[append_nil];exact f)⟩
 .cases q
abbrev MA:=List W×Mem
def gAM (K:W.Frag)(g:Mst->Option MA):TA:=λB H Q=>∃ T O G r,MS K H T G B O/\g ⟨O,G⟩=some r/\∀ vs H' M,Kp H H'->zAE K H' (T++M) r.2->DenWL K H' (T++M) r.1 vs->Q vs H'
def GAM (X:Cx)(es:List Expr)(g:Mst->Option MA):Prop:=PA X es (gAM X.K g)
noncomputable def nilM:Mst->Option MA:=λs=>some ([],s.G)
def zQN:GAM X [] nilM:=zBE.imp λB H Q a=>by
 obtain⟨T,O,G,r,b,q,c⟩:=a;cases q;exact c [] H [] (Kp.refl H) (by rw[append_nil];exact b.cells) .nil
noncomputable def zNa (f:Mst->Option MR)(g:Mst->Option MA):Mst->Option MA:=λs=>(f s).bind λw=>(g ⟨s.O,w.2⟩).bind λws=>some (w.1::ws.1,ws.2)
def zNB (m:GM X e f)(s:GAM X es g)(u:starEach (e::es) X.env=(false,eval e X.env)::starEach es X.env):GAM X (e::es) (zNa f g):=by
 refine(zAX m s u).imp λB H Q a=>?_
 obtain⟨T,O,G,r,b,q,c⟩:=a;obtain⟨w,l,q⟩:=bind_some q;obtain⟨x,t,q⟩:=bind_some q;cases q;refine⟨T,O,G,w,b,l,λv A j i n p=>⟨T++j,O,w.2,x,b.next i n,t,λvs k h d o y=>?_⟩⟩;refine c (v::vs) k (j++h) (i.trans d) (by rw[<- q8];exact o) (.cons ?_ ?_)
 .rw [<- q8];exact p.mono d h
 .rw [<- q8];exact y
noncomputable def lstM (g:Mst->Option MA):Mst->Option MR:=λs=>(g s).bind λr=>if r.1.length<=10000 then some (.loc r.2.length,r.2++[r.1]) else none
def zHQ {K:W.Frag}(c:zAE K H T G):DenW K H' (T++[(a,.lst)]) (.loc G.length) (.ref a):=by
 exact⟨a,by rw[getElem?_append_right (by rw[c.len];omega),c.len,sub_self];rfl,rfl⟩
abbrev MF:=List W->Mem->Option MR
def spM (K:W.Frag)(F:MF):Sp:=λvs H Q _=>∃ T G ws r,zAE K H T G/\DenWL K H T ws vs/\F ws G=some r/\∀ v H' M,Kp H H'->zAE K H' (T++M) r.2->DenW K H' (T++M) r.1 v->Q v H'
noncomputable def zLm (F:MF)(g:Mst->Option MA):Mst->Option MR:=λs=>(g s).bind λws=>F ws.1 ws.2
def zQE {k:Nat}{f:Addr}{fd:FuncData}{ps:List Str}{F:MF}{x:Str}{p pos:Pos}{e:Expr}{es:List Expr}{g:Mst->Option MA}(o:FnOk X.prog X.w X.K X.mg X.base CX0 k f fd ps (spM X.K F))(C:Room k X.A)(A:Gl X x)(h:X.mg x=some (.ref f))
  (B:W.keepIn X.K (.ref f)=true) (s:zBJ X.K fd ps []) (z:GAM X (e::es) g) (a:(x==("__debug__":Str))=false) (j:starEach (e::es) X.env=(false,eval e X.env)::starEach es X.env) (d:∀ pos,(backTo pos (starEach es X.env)).any (·.1)=false) :
  GM X (.Call (.Name x p) (e::es) [] pos) (zLm F g) :=
 (zJ0 o C A h B s .nil zHH z a j (d pos)).imp λ_ _ _ q=>(by obtain⟨T,O,G,r,n,q,c⟩:=q;obtain⟨b,t,q⟩:=bind_some q;refine⟨T,O,G,b,n,t,λvs H M i w u=>?_⟩;simp;exact⟨T++M,b.2,b.1,r,w,u,q,λv m l y E D=>c v m (M++l) (i.trans y) (by simp_all) (by simp_all)⟩)
noncomputable def zKb (F:List D->Option R):MF:=λws G=>(sbL (drN G 6) ws).bind λds=>(F ds).bind λr=>zD5 r G
def FnOk.lift {K:W.Frag}(h:FnOk P w K mg base CX0 k f fd ps (spD K F)):FnOk P w K mg base CX0 k f fd ps (spM K (zKb F)) :=
 h.imp λvs H Q E a=>by
  obtain⟨T,G,s,r,c,d,q,n⟩:=a;obtain⟨l,g,q⟩:=bind_some q;obtain⟨z,o,q⟩:=bind_some q;refine⟨[],l,z,λa m=>absurd m (by simp),by rw[zCB];exact sb_denL (zHi c 6) d g,o,?_,λv p b r1=>?_⟩
  .intro e;unfold zD5 at q;split at q
   .cases e
   .cases e
   .cases q
  .obtain ⟨M,j,i⟩:=zIb c b r1 q;exact n v p M (zBO b) j i
noncomputable def opM (o:D->D->Option R)(x y:W)(G:Mem):Option MR:=(drW G x).bind λa=>(drW G y).bind λb=>(o a b).bind λr=>zD5 r G
noncomputable def twoM (f g:Mst->Option MR)(o:W->W->Mem->Option MR):Mst->Option MR:=λs=>(f s).bind λx=>(g ⟨s.O,x.2⟩).bind λy=>o x.1 y.1 y.2
def OpW (K:W.Frag)(r:R2)(o:W->W->Mem->Option MR):Prop :=
 ∀ (H:Hp) (T:List CA) (G:Mem) (x y:W) (z:MR) (vx vy:V) (Q:VK),zAE K H T G->o x y G=some z->DenW K H T x vx->DenW K H T y vy->(∀ v H' M,Kp H H'->zAE K H' (T++M) z.2->DenW K H' (T++M) z.1 v->Q v H')->r vx vy H Q
def zPG {r:R2}{o:W->W->Mem->Option MR}{f g:Mst->Option MR}(h:OpW X.K r o){B:St}{H:Hp}{Q:VK}(q:gM X.K (twoM f g o) B H Q):tOp r (gM X.K f) (gM X.K g) B H Q:=by
 obtain⟨T,O,G,z,i,q,c⟩:=q;obtain⟨x,u,q⟩:=bind_some q;obtain⟨y,j,q⟩:=bind_some q;refine⟨T,O,G,x,i,u,λvx A a d w l=>⟨T++a,O,x.2,y,i.next d w,j,λvy p b e m n=>?_⟩⟩;refine h p _ y.2 x.1 y.1 z vx vy Q m q (l.mono e b) n λv s k t E C=>c v s (a++b++k) (d.trans (e.trans t)) ?_ ?_
 .grind
 .simp_all
noncomputable def ixW (x y:W)(G:Mem):Option MR:=match x,y with
 | .loc n,.dat (.int i)=>(G[n]?).bind λws=>(atI ws i).map λw=>(w,G)
 | .tup ws,.dat (.int i)=>(atI ws i).map λw=>(w,G)
 | .dat (.tup ds),.dat (.int i)=>(atI ds i).map λd=>(.dat d,G)
 | .dat (.lst ds),.dat (.int i)=>(atI ds i).map λd=>(.dat d,G)
 | _,_=>none
theorem DenWL.atI {K:W.Frag}(h:DenWL K H T ws vs)(e:atI ws i=some w):∃ v,L2.atI vs i=some v/\DenW K H T w v:=by
 unfold L2.atI at e ⊢;obtain⟨j,e1,e2⟩:=bind_some e;obtain⟨v,q1,q2⟩:=h.get e2;refine⟨v,?_,q2⟩;rw[<- h.length,e1];exact q1
def zRu:OpW X.K (λx y H Q=>rIxL X.K x y H Q\/rIxT X.K x y H Q) ixW:=λH T G x y z A B Q c e g f n=>by
 have h:∀ {w:W} {v:V},DenW X.K H T w v->z=(w,G)->Q v H:=λ{w v} d q=>by
  subst q;exact n v H [] (Kp.refl H) (by rw[append_nil];exact c) (by rw[append_nil];exact d)
 unfold ixW at e;split at e
 .rename_i m i;obtain⟨r,s,e⟩:=bind_some e;obtain⟨w,k,e⟩:=yq.mp e;rw[DenW] at g;rw[DenW] at f;rw[Den] at f;obtain⟨b,h1,rfl⟩:=g;obtain⟨o,p,u⟩:=c.loc' h1 s;obtain⟨v,l,j⟩:=u.atI k;exact .inl ⟨_,o,i,v,rfl,f,SqL.of p,l,h j e.symm⟩
 .rename_i r i;obtain⟨w,k,e⟩:=yq.mp e;rw[DenW] at g;rw[DenW] at f;rw[Den] at f;obtain⟨a,o,rfl,h2,h3⟩:=g;obtain⟨v,l,j⟩:=h3.atI k;exact .inr ⟨a,o,i,v,rfl,f,SqT.of (zBX _ _ h2),l,h j e.symm⟩
 .rename_i t i;obtain⟨d,k,e⟩:=yq.mp e;rw[DenW] at g;rw[DenW] at f;rw[Den] at g;rw[Den] at f;obtain⟨a,o,rfl,h2,h3⟩:=g;obtain⟨v,l,j⟩:=h3.atI k;exact .inr ⟨a,o,i,v,rfl,f,Same.tupS zBX h2,l,h (w:=.dat d) (by rw[DenW];exact j) e.symm⟩
 .rename_i t i;obtain⟨d,k,e⟩:=yq.mp e;rw[DenW] at g;rw[DenW] at f;rw[Den] at g;rw[Den] at f;obtain⟨a,o,rfl,h2,h3⟩:=g;obtain⟨v,l,j⟩:=h3.atI k;exact .inl ⟨a,o,i,v,rfl,f,zBX.seq h2,l,h (w:=.dat d) (by rw[DenW];exact j) e.symm⟩
 .cases e
def zUm (e:GM X a f)(d:GM X b g)(c:zGD b):GM X (.Subscript a b pos) (twoM f g ixW) :=
 (zRp (zKh.or zOH) e d c).imp λ_ _ _ q=>zPG zRu q
end
section
variable {X:Cx}
abbrev MB:=Bool×Mem
def gBM (K:W.Frag)(g:Mst->Option MB):TT:=λB H Q=>∃ T O G r,MS K H T G B O/\g ⟨O,G⟩=some r/\∀ H' M,Kp H H'->zAE K H' (T++M) r.2->Q r.1 H'
def GTM (X:Cx)(e:Expr)(g:Mst->Option MB):Prop:=PT X e (gBM X.K g)
def GWM (X:Cx)(e:Expr)(g:Mst->Option MB):Prop:=PW X e (gBM X.K g)
noncomputable def asBM (f:Mst->Option MR):Mst->Option MB:=λs=>match f s with
 | some (.dat (.bl b),G)=>some (b,G)
 | _=>none
def zLo (h:asBM f s=some r):f s=some (.dat (.bl r.1),r.2):=by
 unfold asBM at h;split at h
 .rename_i e;cases h;omega
 .cases h
def zQQ {f:Mst->Option MR}{B:St}{H:Hp}{Q:Bool->Hp->Prop}(q:gBM X.K (asBM f) B H Q):gM X.K f B H λx H'=>∃ k,x=.bl k/\Q k H':=by
 obtain⟨T,O,G,r,d,e,c⟩:=q;refine⟨T,O,G,_,d,zLo e,λv H' M a b g=>⟨r.1,?_,c H' M a b⟩⟩;exact g
noncomputable def zMo (k:Dst->Option Bool):Mst->Option MB:=λs=>(k (drS s.G s.O)).map λb=>(b,s.G)
def zMz (h:GT X e k):GTM X e (zMo k):=h.imp λB H Q a=>by
 obtain⟨T,O,G,r,f,q,c⟩:=a;obtain⟨b,i,g⟩:=yq.mp q;cases g;exact⟨[],drS G O,b,zOX f,i,λH' d=>c H' [] (zBO d) (by rw[append_nil];exact f.cells.same d)⟩
def zP2 (h:GM X e f)(a:∀ whole,isTrue e X.env whole=(do let v<-whole;standAt e.pos;holding [v] (truthy v))):GTM X e (asBM f) :=
 (zN3 h a).imp λ_ _ _ q=>zQQ q
noncomputable def andB (f g:Mst->Option MB):Mst->Option MB:=λs=>(f s).bind λr=>if r.1=true then g ⟨s.O,r.2⟩ else some (false,r.2)
noncomputable def orB (f g:Mst->Option MB):Mst->Option MB:=λs=>(f s).bind λr=>if r.1=true then some (true,r.2) else g ⟨s.O,r.2⟩
noncomputable def notB (f:Mst->Option MB):Mst->Option MB:=λs=>(f s).map λr=>(!r.1,r.2)
def zP3 (h:GTM X a f):GTM X (.UnaryOp .Not a pos) (notB f) :=
 (zN4 h).imp λB H Q b=>by
  obtain⟨T,O,G,r,i,q,c⟩:=b;obtain⟨z,e,d⟩:=yq.mp q;cases d;exact⟨T,O,G,z,i,e,λH' M g j=>c H' M g j⟩
def zP1 (j:GTM X a f)(l:GWM X (.BoolOp .And (b::rest) pos) g):GWM X (.BoolOp .And (a::b::rest) pos) (andB f g):=by
 refine PW.imp (zN2 j l) λB H Q d=>?_
 obtain⟨T,O,G,r,i,q,c⟩:=d;obtain⟨⟨b1,m⟩,e1,q⟩:=bind_some q;cases b1 with
 | true =>
  rw[if_pos rfl] at q;refine⟨T,O,G,_,i,e1,λH1 M e h=>iteT ?_⟩;exact⟨T++M,O,m,r,i.next e h,q,λH2 k o n=>c H2 (M++k) (e.trans o) (by rw[<- q8];exact n)⟩
 | false =>
  rw[if_neg qY] at q;cases q;exact⟨T,O,G,_,i,e1,λH1 M e h=>iteF (c H1 M e h)⟩
def zSd (n:GTM X a f)(m:GWM X (.BoolOp .Or (b::rest) pos) g):GWM X (.BoolOp .Or (a::b::rest) pos) (orB f g):=by
 refine PW.imp (zRf n m) λB H Q d=>?_
 obtain⟨T,O,G,r,h,q,c⟩:=d;obtain⟨⟨b1,o⟩,e1,q⟩:=bind_some q;cases b1 with
 | true =>
  rw[if_pos rfl] at q;cases q;exact⟨T,O,G,_,h,e1,λH1 M e i=>iteT (c H1 M e i)⟩
 | false =>
  rw[if_neg qY] at q;refine⟨T,O,G,_,h,e1,λH1 M e i=>iteF ?_⟩;exact⟨T++M,O,o,r,h.next e i,q,λH2 l k j=>c H2 (M++l) (e.trans k) (by rw[<- q8];exact j)⟩
inductive OutM where
 | nx (s:Mst) | rt (r:MR) | bk (s:Mst) | ct (s:Mst)
def zU4 (K:W.Frag)(H0:Hp)(α0:List CA)(o:OutM)(E:Ends):Prop:=match o with
 | .nx s=>∀ M B' H',MS K H' (α0++M) s.G B' s.O->Kp H0 H'->E.nx B' H'
 | .bk s=>∀ M B' H',MS K H' (α0++M) s.G B' s.O->Kp H0 H'->E.bk B' H'
 | .ct s=>∀ M B' H',MS K H' (α0++M) s.G B' s.O->Kp H0 H'->E.ct B' H'
 | .rt r=>∀ M v H',zAE K H' (α0++M) r.2->DenW K H' (α0++M) r.1 v->Kp H0 H'->E.rt v H'
def gSM (K:W.Frag)(H0:Hp)(α0:List CA)(g:Mst->Option OutM):TS:=λE B H=>∃ M s o,MS K H (α0++M) s.G B s.O/\Kp H0 H/\g s=some o/\zU4 K H0 α0 o E
def GSM (X:Cx)(st:Stmt)(g:Mst->Option OutM):Prop:=∀ H0 α0,PS X st (gSM X.K H0 α0 g)
def GSsM (X:Cx)(st:List Stmt)(g:Mst->Option OutM):Prop:=∀ H0 α0,PSs X st (gSM X.K H0 α0 g)
noncomputable def seqM (f g:Mst->Option OutM):Mst->Option OutM:=λs=>(f s).bind λo=>match o with
 | .nx s'=>g s'
 | o=>some o
def zM0:GSsM X [] (λs=>some (.nx s)):=λH0 c=>zHE.imp λE B H a=>by
 obtain⟨M,s,o,b,k,e,p⟩:=a;cases e;exact p M B H b k
def zKo {st:Stmt}(h1:GSM X st f)(h2:GSsM X rest g):GSsM X (st::rest) (seqM f g):=λH0 d=>(zFe (h1 H0 d) (h2 H0 d)).imp λE B H a=>by
 obtain⟨M,s,o,j,k,e,p⟩:=a;obtain⟨h,m,e⟩:=bind_some e;refine⟨M,s,h,j,k,m,?_⟩;cases h with
 | nx b=>exact λM' t n c i=>⟨M',b,o,c,i,e,p⟩
 | rt r=>cases e;exact p
 | bk b=>cases e;exact p
 | ct b=>cases e;exact p
noncomputable def setM (i:Nat)(f:Mst->Option MR):Mst->Option OutM:=λs=>(f s).bind λr=>some (.nx ⟨s.O.set i (some r.1),r.2⟩)
def zKp (m:X.N.Nodup)(l:X.N[i]?=some x)(q:Loc X.env.scope x)(h:GM X e f)(n:swapsWith e (some (.Name x pos')) pos.line X.env=pure false)(t:X.fn x=true\/X.env.scope.names.lookup x=some .local) :
  GSM X (.Assign [.Name x pos'] e pos) (setM i f):=λH0 g=>(zN5 m l q h n t).imp λE B H a=>by
 obtain⟨M,s,o,d,k,e,p⟩:=a;obtain⟨r,y,e⟩:=bind_some e;cases e;refine⟨g++M,s.O,s.G,r,d,y,λv j w c v u=>?_⟩;have b:=(d.next c v).set (i:=i) u;rw[q8] at b;exact p (M++w) _ j b (k.trans c)
noncomputable def retM (f:Mst->Option MR):Mst->Option OutM:=λs=>(f s).bind λr=>some (.rt r)
def zP6 (h:GM X e f):GSM X (.Return (some e) pos) (retM f):=λH0 i=>(zJv h).imp λE B H a=>by
 obtain⟨M,s,o,m,k,e,p⟩:=a;obtain⟨r,l,e⟩:=bind_some e;cases e;refine⟨i++M,s.O,s.G,r,m,l,λv j g d c b=>?_⟩;rw[q8] at c b;exact p (M++g) v j c b (k.trans d)
noncomputable def ifM (c:Mst->Option MB)(f g:Mst->Option OutM):Mst->Option OutM:=λs=>(c s).bind λb=>if b.1=true then f ⟨s.O,b.2⟩ else g ⟨s.O,b.2⟩
def zSk (t:GTM X c k)(v:GSsM X a f)(q:GSsM X b g):GSM X (.If c a b pos) (ifM k f g):=λH0 i=>(zRh t (v H0 i) (q H0 i)).imp λE B H h=>by
 obtain⟨M,s,o,l,m,e,p⟩:=h;obtain⟨⟨b1,w⟩,e1,e⟩:=bind_some e;refine⟨i++M,s.O,s.G,_,l,e1,λH1 n j u=>?_⟩;have d:=l.next j u;rw[q8] at d;cases b1 with
 | true =>
  rw[if_pos rfl] at e;exact iteT ⟨M++n,_,o,d,m.trans j,e,p⟩
 | false =>
  rw[if_neg qY] at e;exact iteF ⟨M++n,_,o,d,m.trans j,e,p⟩
noncomputable def appM (t f:Mst->Option MR):Mst->Option OutM:=λs=>(t s).bind λx=>match x.1 with
 | .loc n=>(f ⟨s.O,x.2⟩).bind λr=>(r.2[n]?).bind λws=>if ws.length<=10000 then some (.nx ⟨s.O,r.2.set n (ws++[r.1])⟩) else none
 | _=>none
def zP8 (Y:GM X b t)(h:GM X e f)
  (w:starEach [e] X.env=[(false,eval e X.env)]) (d:attributeBase b "append" X.env (eval b X.env)=eval b X.env) (c:(apos.endLine==cpos.line)=true) :
  GSM X (.Expr (.Call (.Attribute b "append" apos) [e] [] cpos) pos) (appM t f):=λH0 u=>(zHF (zO9 PySem.F.plainAttrs_list PySem.F.slot_list_append PySem.F.type_list_append zGZ Y (zAX h zBE w) d (by rw[w];rfl) c w rfl) rfl).imp λE B H q=>by
 obtain⟨M,s,o,Q,k,e,p⟩:=q;obtain⟨x,ex,e⟩:=bind_some e;split at e
 .rename_i n T;obtain⟨r,S,e⟩:=bind_some e;obtain⟨O,N,e⟩:=bind_some e;by_cases hl:O.length<=10000
  .rw [if_pos hl] at e;cases e;refine⟨u++M,s.O,s.G,x,Q,ex,λv H1 g L R F=>?_⟩;rw[T,DenW] at F;obtain⟨a,I,rfl⟩:=F;have l:=Q.next L R;obtain⟨_,V,_,Z,_⟩:=R.loc I;refine⟨.inl ⟨rfl,_,SqL.of Z⟩,u++M++g,s.O,x.2,r,l,S,λy C j P z U=>?_⟩;have v:=l.next P z;have i:=zDa (M:=j) I;obtain⟨A,G,J⟩:=z.loc' i N;refine⟨a,A,y,rfl,rfl,G,by rw[<- J.length];exact Nat.lt_of_le_of_lt hl (by decide),?_⟩;have D:n < r.2.length:=(zzg N).1;have K:Kp C (upd C a (.lst (A++[y]))):=by show Same _ _;rw[(zK0 G rfl rfl)];exact Same.refl _
   have W:=z.change D i (J.append (.cons U .nil));have E:MS X.K (upd C a (.lst (A++[y]))) (u++(M++g++j)) (r.2.set n (O++[r.1])) B s.O:=by
    have m:=v.next (M:=[]) K (by rw[append_nil];exact W);rw[append_nil] at m;rw[show u++(M++g++j)=u++M++g++j by simp];exact m
   exact p (M++g++j) B _ E (k.trans (L.trans (P.trans K)))
  .rw [if_neg hl] at e;cases e
 .cases e
end
section
variable {X:Cx}{K:W.Frag}{H:Hp}{T:List CA}{G:Mem}{B:St}{O:List (Option W)}
def DenWL.dropLast:∀ {ws:List W} {vs:List V},DenWL K H T ws vs->DenWL K H T ws.dropLast vs.dropLast
 | [],_,h=>by rw[DenWL] at h;subst h;exact .nil
 | [w],_,h=>by
  rw[DenWL] at h;obtain⟨v,us,rfl,h2,h3⟩:=h;rw[DenWL] at h3;subst h3;exact .nil
 | w::w2::ws,_,h=>by
  rw[DenWL] at h;obtain⟨v,us,rfl,h2,h3⟩:=h;have a:=h3;rw[DenWL] at h3;obtain⟨c,b,rfl,_,_⟩:=h3;exact .cons h2 (DenWL.dropLast a)
inductive Src where
 | items (ws:List W) | live (n:Nat)
noncomputable def itm (G:Mem):Src->Option (List W)
 | .items ws=>some ws
 | .live n=>G[n]?
def JOk (K:W.Frag)(J:It)(src:Src)(H1:Hp)(Y5:List CA):Prop :=
 ∀ (i:Nat) (H2:Hp) (P:List CA) (μ2:Mem) (ws:List W),Kp H1 H2->zAE K H2 (Y5++P) μ2->itm μ2 src=some ws->(ws[i]?=none->J.stop i H2)/\∀ w,ws[i]?=some w->J.go i H2/\∀ v H3,J.yld i H2 v H3->H3=H2/\DenW K H2 (Y5++P) w v
def GIM (X:Cx)(tg iter:Expr)(g:Mst->Option (Src×Mem)):Prop:=∃ wi,PI X tg iter wi/\∀ (B:St) (H:Hp) (T:List CA) (O:List (Option W)) (G:Mem) (r:Src×Mem) (Rr:It->Hp->Prop),MS X.K H T G B O->g ⟨O,G⟩=some r ->
 (∀ J H1 M,Kp H H1->zAE X.K H1 (T++M) r.2->JOk X.K J r.1 H1 (T++M)->Rr J H1)->wi B H Rr
def GGM (X:Cx)(tg:Expr)(t:W->Mst->Option Mst):Prop:=∃ g,PG X tg g/\∀ (w:W) (v:V) (B:St) (H:Hp) (T:List CA) (s s':Mst) (Q:St->Hp->Prop),MS X.K H T s.G B s.O->DenW X.K H T w v->t w s=some s'->(∀ B',MS X.K H T s'.G B' s'.O->Q B' H)->g v B H Q
noncomputable def tgM (i:Nat):W->Mst->Option Mst:=λw s=>some ⟨s.O.set i (some w),s.G⟩
def zFz (b:X.N.Nodup)(d:X.N[i]?=some x)(g:Loc X.env.scope x)(c:X.fn x=true\/X.env.scope.names.lookup x=some .local):GGM X (.Name x pos) (tgM i) :=
 ⟨_,zFh b d g c,λw v B H T s h Q a f e q=>by
  cases e;exact q _ (a.set f)⟩
noncomputable def forN (t:W->Mst->Option Mst)(b:Mst->Option OutM)(src:Src):Nat->Nat->Mst->Option OutM
 | 0,_,_=>none
 | f+1,i,s=>(itm s.G src).bind λws=>match ws[i]? with
  | none=>some (.nx s)
  | some w=>(t w s).bind λs1=>(b s1).bind λo=>match o with
   | .nx s'=>forN t b src f (i+1) s'
   | .ct s'=>forN t b src f (i+1) s'
   | .bk s'=>some (.nx s')
   | .rt r=>some (.rt r)
theorem zEa :∀ {f i:Nat} {s:Mst} {o:OutM},forN t b src f i s=some o->forN t b src (f+1) i s=some o
 | 0,_,_,_,h=>by cases h
 | f+1,i,s,o,h=>by
  rw[forN] at h ⊢;obtain⟨ws,e1,h⟩:=bind_some h;rw[e1,qx];cases q:ws[i]? with
  | none=>rw[q] at h;exact h
  | some w =>
   rw[q] at h;dsimp only at h ⊢;obtain⟨s1,e2,h⟩:=bind_some h;obtain⟨o1,e3,h⟩:=bind_some h;rw[e2,qx,e3,qx];cases o1 with
   | nx s'=>exact zEa (f:=f) h
   | ct s'=>exact zEa (f:=f) h
   | bk s'=>exact h
   | rt r=>exact h
def zGi (h:forN t b src f i s=some o)(l:f<=g):forN t b src g i s=some o:=by
 induction g with
 | zero =>
      have:f=0:=by omega
      grind
 | succ g a =>
  by_cases q:f<=g
  .exact zEa (a q)
  .grind
open Classical in
def zF1 (t:W->Mst->Option Mst)(b:Mst->Option OutM)(src:Src)(i:Nat)(s:Mst):Option OutM :=
 if h:∃ n o,forN t b src n i s=some o then some (Classical.choose (choose_spec h)) else none
def zNE (h:forN t b src n i s=some o):zF1 t b src i s=some o:=by
 have a:∃ n o,forN t b src n i s=some o:=⟨n,o,h⟩;unfold zF1;rw[dif_pos a];have c:=zGi h (Nat.le_max_right (Classical.choose a) n);rw[zGi (choose_spec (choose_spec a)) (Nat.le_max_left _ n)] at c;omega
def zK2 (h:zF1 t b src i s=some o):∃ n,forN t b src n i s=some o:=by
 unfold zF1 at h;by_cases ex:∃ n o,forN t b src n i s=some o
 .grind
 .simp_all
def zP7 (hp:PassesOwn (model X.prog X.w) X.A X.env X.xe)(hc:X.calm=true)(hi:GIM X tg iter f)(V:GGM X tg t)(hb:GSsM X body b)
  (hs:∀ x,foldedSetIterable iter X.env x=pure x):GSM X (.For tg iter body [] pos) (λs=>(f s).bind λr=>zF1 t b r.1 0 ⟨s.O,r.2⟩):=by
 intro H0 A;obtain⟨wi,S,hI⟩:=hi;obtain⟨g,V,hG⟩:=V;intro d s B H E I ⟨M,L,o,ms,O,e,p⟩;obtain⟨r,er,e⟩:=bind_some e;obtain⟨N,eN⟩:=zK2 e;refine(zN6 (tb:=λE B l=>∃ n W,gSM X.K n W b E B l) hp hc S V ?_ hs) d s B H E I ?_
 .intro d s B H E I ⟨n,W,q⟩;exact hb n W d s B H E I q
 refine hI B H (A++M) L.O L.G r _ ms er λJ n D G c1 hJ=>?_
 refine⟨λi m J l=>∃ P h,MS X.K l (A++M++D++P) h.G J h.O/\Kp n l/\forN t b r.1 m i h=some o,⟨N,[],⟨L.O,r.2⟩,by rw[append_nil];exact ms.next G c1,Kp.refl _,eN⟩,?_⟩;rintro i m J l ⟨P,h,j,R,a⟩;cases m with
 | zero=>cases a
 | succ m =>
  rw[forN] at a;obtain⟨ws,ew,a⟩:=bind_some a;obtain⟨j1,j2⟩:=hJ i l P h.G ws R j.cells ew;have c:∀ P:List CA,A++M++D++P=A++(M++D++P):=λP=>by simp
  cases q:ws[i]? with
  | none =>
   rw[q] at a;cases a;rw[c] at j;exact .inl ⟨j1 q,p _ J l j (O.trans (G.trans R))⟩
  | some w =>
   rw[q] at a;dsimp only at a;obtain⟨Z,e1,a⟩:=bind_some a;obtain⟨o1,e2,a⟩:=bind_some a;obtain⟨go,yl⟩:=j2 w q;refine .inr ⟨go,λB3 C=>∃ P h,MS X.K C (A++M++D++P) h.G B3 h.O/\Kp n C/\forN t b r.1 m (i+1) h=some o,λB3 C z=>⟨m,Nat.lt_succ_self m,z⟩,λv C y=>?_⟩;obtain⟨rfl,hv⟩:=yl v C y;refine hG w v J C _ h Z _ j hv e1 λB4 Q=>⟨n,A++M++D,P,Z,o1,Q,R,e2,?_⟩
   cases o1 with
   | nx K=>exact λP2 U F u k=>⟨P2,K,u,k,a⟩
   | ct K=>exact λP2 U F u k=>⟨P2,K,u,k,a⟩
   | bk K =>
    cases a;intro P2 U F u k;rw[c] at u;exact p _ U F u (O.trans (G.trans k))
   | rt z =>
    cases a;intro P2 v2 F c2 Y k;rw[c] at c2 Y;exact p _ v2 F c2 Y (O.trans (G.trans k))
end
section
variable {X:Cx}
noncomputable def srcM (f:Mst->Option MR):Mst->Option (Src×Mem):=λs=>(f s).bind λr=>match r.1 with
 | .loc n=>some (.live n,r.2)
 | .tup ws=>some (.items ws,r.2)
 | .dat (.tup ds)=>some (.items (ds.map .dat),r.2)
 | .dat (.lst ds)=>some (.items (ds.map .dat),r.2)
 | _=>none
def zQF (h:GM X iter f):GIM X tg iter (srcM f):=by
 refine⟨_,zN7 h,λB H T O G z Rr Z e q=>?_⟩;obtain⟨r,R,e⟩:=bind_some e;refine⟨T,O,G,r,Z,R,λv d M B A j=>?_⟩;have k:∀ {a:Addr} {g:List W} {b:List V},SqT X.K (fzH d) a b->DenWL X.K d (T++M) g b->JOk X.K (Itt X.K a) (.items g) d (T++M):=λ{a g b} F t i s P N E m C o=>by
  cases o;have c:SqT X.K s a b:=Same.tupS zBX (Same.tupS m F);refine⟨λn=>⟨b,c,?_⟩,λw v=>?_⟩
  .rw [<- t.length];exact List.getElem?_eq_none_iff.mp n
  .obtain ⟨u,w,p⟩:=t.get v;refine⟨⟨b,u,c,w⟩,λv L y=>⟨y.1,?_⟩⟩;have:=y.2 b c;rw[w] at this;cases this;exact p.mono m P
 have x:∀ {a:Addr} {g:List W} {b:List V},SqL X.K (fzH d) a b->DenWL X.K d (T++M) g b->JOk X.K (Itl X.K a) (.items g) d (T++M):=λ{a g b} F t i s P N E m C o=>by
  cases o;have c:SqL X.K s a b:=zBX.seq (m.seq F);refine⟨λn=>⟨b,c,?_⟩,λw v=>?_⟩
  .rw [<- t.length];exact List.getElem?_eq_none_iff.mp n
  .obtain ⟨u,w,p⟩:=t.get v;refine⟨⟨b,u,c,w⟩,λv L y=>⟨y.1,?_⟩⟩;have:=y.2 b c;rw[w] at this;cases this;exact p.mono m P
 split at e
 .rename_i n l;cases e;rw[l,DenW] at j;obtain⟨a,I,rfl⟩:=j;obtain⟨Q,D,_,U,_⟩:=A.loc I;refine⟨a,rfl,.inl ⟨⟨D,SqL.of U⟩,q _ d M B A λi s P N g m C o=>?_⟩⟩;obtain⟨b,p,K⟩:=C.loc' (zDa (M:=P) I) o;have c:SqL X.K s a b:=SqL.of p;refine⟨λn=>⟨b,c,?_⟩,λw v=>?_⟩
  .rw [<- K.length];exact List.getElem?_eq_none_iff.mp n
  .obtain ⟨u,J,S⟩:=K.get v;refine⟨⟨b,u,c,J⟩,λv L y=>⟨y.1,?_⟩⟩;have:=y.2 b c;rw[J] at this;cases this;exact S
 .rename_i g l;cases e;rw[l,DenW] at j;obtain⟨a,b,rfl,h2,h3⟩:=j;exact⟨a,rfl,.inr ⟨⟨b,SqT.of (zBX _ _ h2)⟩,q _ d M B A (k (SqT.of h2) h3)⟩⟩
 .rename_i Y l;cases e;rw[l,DenW,Den] at j;obtain⟨a,b,rfl,h2,h3⟩:=j;exact⟨a,rfl,.inr ⟨⟨b,Same.tupS zBX h2⟩,q _ d M B A (k h2 (DenWL.dats h3))⟩⟩
 .rename_i Y l;cases e;rw[l,DenW,Den] at j;obtain⟨a,b,rfl,h2,h3⟩:=j;exact⟨a,rfl,.inl ⟨⟨b,zBX.seq h2⟩,q _ d M B A (x h2 (DenWL.dats h3))⟩⟩
 .cases e
noncomputable def zMH (f:Mst->Option MR):Mst->Option (Src×Mem):=λs=>(f s).bind λr=>match r.1 with
 | .dat (.int j)=>if -(2^62)<=j/\j < 2^62 then some (.items ((rngL 0 j.toNat).map .dat),r.2) else none
 | _=>none
def rngJ {K:W.Frag}(a:Int)(n:Nat):JOk K (Itr a n) (.items ((rngL a n).map .dat)) H1 Y5:=λi g P j l k h e=>by
 cases e;have d:((rngL a n).map W.dat).length=n:=by unfold rngL;simp
 refine⟨λz=>?_,λw b=>?_⟩
 .have:=List.getElem?_eq_none_iff.mp z;rw[d] at this;exact this
 .have c:i < n:=by rw[<- d];exact(zzg b).1
  refine⟨c,λv f y=>⟨y.1,?_⟩⟩;have:((rngL a n).map W.dat)[i]?=some (.dat (.int (a+i))):=by unfold rngL;simp[c]
  rw[this] at b;cases b;exact y.2
def zI8 (d:Gl X "range")(k:X.mg "range"=none)(h:GM X a f)(b:starEach [a] X.env=[(false,eval a X.env)]):GIM X tg (.Call (.Name "range" p) [a] [] pos) (zMH f):=by
 refine⟨_,zGT d k (zAX h zBE b) b,λB H T O G z o c e q=>?_⟩;obtain⟨r,m,e⟩:=bind_some e;split at e
 .rename_i j s;by_cases hj:-(2^62)<=j/\j < 2^62
  .rw [if_pos hj] at e;cases e;refine⟨T,O,G,r,c,m,λv l M g n i=>⟨j,?_,hj.1,hj.2,q _ l M g n (rngJ 0 _)⟩⟩
   simp_all
   rw[i]
  .simp_all
 .cases e
noncomputable def zUC (f g:Dst->Option R):Mst->Option (Src×Mem):=λs=>(zGS f g (drS s.G s.O)).map λds=>(.items (ds.map .dat),s.G)
end
noncomputable def zAi (np nN:Nat)(g:Mst->Option OutM):MF:=λws G =>
 if ws.length=np/\np<=nN then (g ⟨ws.map some++List.replicate (nN - np) none,G⟩).bind λo=>match o with
  | .rt r=>some r
  | .nx s=>some (.dat .non,s.G)
  | _=>none
 else none
def zH9 {K:W.Frag}(c:zAE K H T G)(h:DenWL K H T ws vs)(g:ws.length<=N.length):MS K H T G (zBy N vs) (ws.map some++List.replicate (N.length - ws.length) none):=by
 have f:=h.length;refine⟨c,?_,λi w q=>?_⟩
 .unfold L2.zBy;grind
 .have d:i < ws.length:=by
   by_cases z:i < ws.length
   .exact z
   .rw [getElem?_append_right (by simpa using z),getElem?_replicate] at q;split at q<;>cases q
  rw[getElem?_append_left (by simpa using d),getElem?_map] at q;cases e:ws[i]? with
  | none=>rw[e] at q;cases q
  | some j =>
   rw[e] at q;cases q;obtain⟨v,b,a⟩:=h.get e;refine⟨v,?_,a⟩;unfold L2.zBy;rw[getElem?_append_left (by grind),getElem?_map,b]
   rfl
def zQR {K:W.Frag}{st:Stmt}(F:Fun K x qual st f fd)(S:zAa N ps (zAA st))
  (b:∀ (cdv:Value) (A:Around) (outer:List Env) (s:Shared) (H:Hp) (E:XK),Room k (A.deeper (envOfC qual (zAA st) s.heap.objs.size f cdv))->GSsM (cxOf CX0 P w K mg base N qual (zAA st) f cdv A outer s H E).nox (zAG st) g) :
  FnOk P w K mg base CX0 (k+1) f fd ps (spM K (zAi ps.length N.length g)):=by
 refine F.ok S (λvs H Q E h=>?_) λcdv A outer s H z Q E t h=>?_
 .obtain ⟨T,G,i,r,c,d,a,n⟩:=h;unfold zAi at a;by_cases q:i.length=ps.length/\ps.length<=N.length
  .rw [<- d.length];exact q.1
  .simp_all
 obtain⟨T,G,i,r,c,d,a,n⟩:=h;refine⟨_,b cdv A outer s H E t H T,?_⟩;unfold zAi at a;by_cases q:i.length=ps.length/\ps.length<=N.length
 .rw [if_pos q] at a;obtain⟨o,j,a⟩:=bind_some a;rw[<- q.1] at j;refine⟨[],_,o,by rw[append_nil];exact zH9 c d (by rw[q.1];exact q.2),Kp.refl H,j,?_⟩;cases o with
  | nx y =>
   cases a;exact λM B e m k=>n _ e M k m.cells (by rw[DenW,Den])
  | rt u =>
   cases a;exact λM v e l p k=>n v e M k l p
  | bk _=>cases a
  | ct _=>cases a
 .simp_all
def walkM {l:W.OpenLaw}{K:Params->W.Frag}(E:l.most=some 63)(g:d.params.defaults=[])(hq:importsNone q=true)(A:∀ w,(model l.prog w).prog.given.tree=none)(J:Room k callerA)(b:List (Str×Addr×Addr))(e:∀ (w:World) (h:Heap),YP w h->∀ t∈b,W.CodeHd h t.2.1 t.2.2/\h.get? t.2.2=some (W.tabObj #[]))(i:∀ w:World,∀ x∈zBt,tabQ (K w.params) x=b.lookup x)(m:∀ t∈b,t.1∈zBt/\b.lookup t.1=some t.2)(j:(b.map λt=>t.2.2).Nodup)(p:∀ w:World,W.noTabs (K w.params)=true)
  (r:∀ (w:World) (h:Heap),YP w h->(K w.params).In h)
  (L:∀ (w:World) (mg:Str->Option Value) (fa:Addr) (h:Heap),(K w.params).In h->h.Ns mainGlobals mg->mg d.name=some (.ref fa) ->
   ∃ fd:FuncData,(∀ (s:Shared) (u:Value),BindsTo s fd ⟨[u],[]⟩ [("_law_script",u)])/\∀ base:Heap,(K w.params).In base->base.Ns mainGlobals mg->FnOk l.prog w (K w.params) mg base CX0 k fa fd ["_law_script"] (spM (K w.params) F))
  (C:∀ ns:List Int,ns.length<=63->∃ G,F [.dat (.lst (ns.map D.int))] []=some (.dat (.bl true),G)) :
  W.WalkO q loose XP YP l.row.toRowW d [] (λf vs=>PySem.call f vs) :=
 L2.zOi (n:=63) (k:=k) (CX:=λ_=>CX0) E (by decide) g hq A J b e i m j p r L (λw H a ns I y B=>by
   obtain⟨G,N⟩:=C ns I.1;have v:SqL (K w.params) (fzH H) a (ns.map V.int):=by
    rcases B with (h | ⟨o,h⟩) | h
    .exact (y _ h).elim
    .exact .inl (.inr ⟨o,zFC h⟩)
    .exact .inr h
   refine⟨[],[],[.dat (.lst (ns.map D.int))],_,⟨rfl,by simp,λn O z=>by simp at z⟩,.cons ?_ .nil,N,λv P M k c d=>?_⟩
   .rw [DenW,Den];exact⟨a,_,rfl,v,DenL.ints ns⟩
   .rw [DenW,Den] at d;exact d) λ_ _ _ _ _ z=>z
end DL
end
section
namespace DL
open PySem Spec PyProof.Rows L2
noncomputable def zBj (t:W->Mst->Option Mst)(e:Mst->Option MR)(src:Src):Nat->Nat->Mst->List W->Option MA
 | 0,_,_,_=>none
 | f+1,i,s,done=>(itm s.G src).bind λws=>match ws[i]? with
  | none=>some (done,s.G)
  | some w=>(t w s).bind λs1=>(e s1).bind λr=>if done.length<=10000 then zBj t e src f (i+1) ⟨s1.O,r.2⟩ (done++[r.1]) else none
theorem zFH :∀ {f i:Nat} {s:Mst} {d:List W} {o:MA},zBj t e src f i s d=some o->zBj t e src (f+1) i s d=some o
 | 0,_,_,_,_,h=>by cases h
 | f+1,i,s,d,o,h=>by
  rw[zBj] at h ⊢;obtain⟨ws,e1,h⟩:=bind_some h;rw[e1,qx];cases q:ws[i]? with
  | none=>rw[q] at h;exact h
  | some w =>
   rw[q] at h;dsimp only at h ⊢;obtain⟨s1,e2,h⟩:=bind_some h;obtain⟨r,e3,h⟩:=bind_some h;rw[e2,qx,e3,qx];by_cases l:d.length<=10000
   .rw [if_pos l] at h ⊢;exact zFH (f:=f) h
   .rw [if_neg l] at h;cases h
def zFI (h:zBj t e src f i s d=some o)(l:f<=g):zBj t e src g i s d=some o:=by
 induction g with
 | zero =>
      have:f=0:=by omega
      grind
 | succ g a =>
  by_cases q:f<=g
  .exact zFH (a q)
  .grind
open Classical in
def zGp (t:W->Mst->Option Mst)(e:Mst->Option MR)(src:Src)(s:Mst):Option MA :=
 if h:∃ n o,zBj t e src n 0 s []=some o then some (Classical.choose (choose_spec h)) else none
def zLf (h:zBj t e src n 0 s []=some o):zGp t e src s=some o:=by
 have a:∃ n o,zBj t e src n 0 s []=some o:=⟨n,o,h⟩;unfold zGp;rw[dif_pos a];have b:=zFI h (Nat.le_max_right (Classical.choose a) n);rw[zFI (choose_spec (choose_spec a)) (Nat.le_max_left _ n)] at b;omega
def zJF (h:zGp t e src s=some o):∃ n,zBj t e src n 0 s []=some o:=by
 unfold zGp at h;by_cases ex:∃ n o,zBj t e src n 0 s []=some o
 .grind
 .rw [dif_neg ex] at h;cases h
def zHo (ms:List Nat)(k:Nat)(f:Mst->Option (Src×Mem))(t:W->Mst->Option Mst)(e:Mst->Option MR):Mst->Option MR:=λs =>
 (f s).bind λz=>(zGp t e z.1 ⟨mask none ms s.O++List.replicate k none,z.2⟩).bind λy=>if y.1.length<=10000 then some (.loc y.2.length,y.2++[y.1]) else none
def zGq (h:zHo ms k f t e s=some r):∃ z y N,f s=some z/\zBj t e z.1 N 0 ⟨mask none ms s.O++List.replicate k none,z.2⟩ []=some y/\y.1.length<=10000/\r=(.loc y.2.length,y.2++[y.1]):=by
 obtain⟨z,c,h⟩:=bind_some h;obtain⟨y,b,h⟩:=bind_some h;obtain⟨N,a⟩:=zJF b;by_cases l:y.1.length<=10000
 .rw [if_pos l] at h;cases h;exact⟨z,y,N,c,a,l,rfl⟩
 .simp_all
def MS.ext {K:W.Frag}(h:MS K H T G B O)(b:List Nat)(k:Nat):MS K H T G (mask none b B++List.replicate k none) (mask none b O++List.replicate k none):=by
 refine⟨h.cells,by rw[qQ,qQ,zBA,zBA,h.len,length_replicate,length_replicate],λi w q=>?_⟩;obtain⟨q,a⟩:=zCM q;rcases zBZ q with ⟨z,_⟩ | ⟨q,ni⟩
 .cases z
 .obtain ⟨v,c,d⟩:=h.get i w q;exact⟨v,by rw[getElem?_append_left (by rw[zBA] at a ⊢;rw[h.len];exact a),zFn ni];exact c,d⟩
def zNc :∀ {n i:Nat} {s:Mst} {d:List W} {y:MA},zBj t e src n i s d=some y->y.1.length<=10000->d.length<=10000
 | 0,_,_,_,_,h,_=>by cases h
 | n+1,i,s,d,y,h,l=>by
  rw[zBj] at h;obtain⟨ws,_,h⟩:=bind_some h;split at h
  .cases h;exact l
  .obtain ⟨_,_,h⟩:=bind_some h;obtain⟨_,_,h⟩:=bind_some h;split at h
   .assumption
   .cases h
section
variable {X:Cx}
def zFG (A:X.calm=true)(hi:GIM X tg iter f)(cs:zCT X.env.scope scope)
  (hm:∀ (i:Nat) x,X.N[i]?=some x->ownB scope x=true->i∈ms)
  (hg:∀ s H fp,GGM (zAW X (mask (noN X.N) ms X.N++xs) scope s H fp) tg t)
  (he:∀ s H fp,GM (zAW X (mask (noN X.N) ms X.N++xs) scope s H fp) elt e)
            (I:Inv X pins B H s) (R:MS X.K H T G B O) (ez:f ⟨O,G⟩=some z) (b6:y.1.length<=10000) (ey:zBj t e z.1 NN 0 ⟨mask none ms O++List.replicate xs.length none,z.2⟩ []=some y)
  {RR:Value->Addr->Result->Shared->Prop}
  (b1:∀ (D C:Addr) (s1:Shared) (H'':Hp) (m:Str->Option Value),s1.heap.Ns C m->(∀ h',Heap.SameBut C s1.heap h'->Inv X pins B H'' { s1 with heap:=h' })->H'' C=none->C≠X.env.locals->C∉X.fs->X.O6.heap.objs.size<=C ->
   (∀ x c,X.env.cells.lookup x=some c->c≠C)->(∀ p∈X.pn++pins,p.1≠C)->(∃ M,Kp H H''/\zAE X.K H'' (T++M) (y.2++[y.1])/\DenW X.K H'' (T++M) (.loc y.2.length) (.ref D))->RR (.ref D) C (.ok .next) s1) :
  wpAny (model X.prog X.w) X.A (eval iter X.env) (λx O2=>wpAny (model X.prog X.w) X.A (pyIter x) (λit Y1=>wpAny (model X.prog X.w) X.A (newList []) (λacc Y3 =>
   wpAny (model X.prog X.w) X.A (newFunctionEnv scope X.env.globals (zBv X.env scope.names []) [] X.env.qual none .none (some X.env)) (λcenv Y4 =>
    codeAny (model X.prog X.w) X.A (.compStart (.ListComp elt [⟨tg,iter,[],0⟩] scope pos) 0 it acc { cenv with scope:=relabel scope X.env }) (RR acc cenv.locals) Y4) X.xe Y3) X.xe Y1) X.xe O2) X.xe s:=by
 obtain⟨wi,b4,hI⟩:=hi;refine zIU A b4 cs hm I (L:=λJ H2 n i B' j w=>∃ (b P:List CA) (st':Mst) (a:List W),(Kp H H2/\JOk X.K J z.1 H2 (T++b))/\MS X.K j (T++b++P) st'.G B' st'.O/\Kp H2 j/\DenWL X.K j (T++b++P) a w/\a.length<=10000/\zBj t e z.1 n i st' a=some y)
  (Z:=λH2 j w=>∃ (b P:List CA),Kp H H2/\Kp H2 j/\zAE X.K j (T++b++P) y.2/\DenWL X.K j (T++b++P) y.1 w)
  (hI B H T O G z _ R ez λJ H1 M k1 c1 hJ=>⟨NN,M,[],⟨mask none ms O++List.replicate xs.length none,z.2⟩,[],⟨k1,hJ⟩,by rw[append_nil];exact(R.next k1 c1).ext ms xs.length,Kp.refl _,.nil,zero_le _,ey⟩) (λ{J H2 n i B' j w} ll=>?_) (λ{J H2 n i B' j w} s3 fp ll=>?_) λD C s1 H'' m h1 h2 h3 h4 h5 h6 h7 h8 ll=>?_
 .obtain ⟨_,_,_,_,_,_,_,K,hl,_⟩:=ll;rw[<- K.length];exact hl
 .obtain ⟨b,P,S,a,⟨l,hJ⟩,ds',Q,K,hl,d⟩:=ll;cases n with
  | zero=>cases d
  | succ n =>
  rw[zBj] at d;obtain⟨ws,ew,d⟩:=bind_some d;obtain⟨j1,j2⟩:=hJ i j P S.G ws Q ds'.cells ew;cases hq:ws[i]? with
  | none =>
   rw[hq] at d;cases d;exact .inl ⟨j1 hq,b,P,l,Q,ds'.cells,K⟩
  | some w0 =>
   rw[hq] at d;dsimp only at d;obtain⟨go,yl⟩:=j2 w0 hq;refine .inr ⟨n,Nat.lt_succ_self n,go,λx V y5=>?_⟩;obtain⟨rfl,hv⟩:=yl x V y5;refine⟨rfl,λY eY pn s5 u E I5 r5=>?_⟩;subst eY;obtain⟨h,e1,d⟩:=bind_some d;obtain⟨r,er,d⟩:=bind_some d;by_cases hdl:a.length<=10000
   case neg=>rw[if_neg hdl] at d;cases d
   rw[if_pos hdl] at d;have b5:(a++[r.1]).length<=10000:=zNc d b6;obtain⟨g,a7,b0⟩:=hg s3 H2 fp;refine wpAny_mono (a7 pn s5 B' V x u _ I5 r5 (b0 w0 x B' V (T++b++P) S h (λB6 H6=>H6=V/\MS X.K V (T++b++P) h.G B6 h.O) ds' hv e1 λB6 d6=>⟨rfl,d6⟩)) (λ_ s6 a3=>?_) λ_ _ z=>z.elim
   obtain⟨B6,H6,I6,q6,a0⟩:=a3;subst q6;refine wpAny_tests_nil ?_;rw[if_pos rfl];refine wpAny_mono (he s3 H2 fp pn s6 B6 H6 (λv N=>∃ o,Kp H6 N/\zAE X.K N (T++b++P++o) r.2/\DenW X.K N (T++b++P++o) r.1 v) I6 ⟨T++b++P,h.O,h.G,r,a0,er,λv N o k8 c8 d8=>⟨o,k8,c8,d8⟩⟩) (λuv s8 q=>?_) λ_ _ z=>z.elim
   obtain⟨v,N,I8,a8,o,k8,c8,d8⟩:=q;have F:T++b++P++o=T++b++(P++o):=by simp
   have U:=a0.next k8 c8;have Y:=K.mono k8 o;rw[F] at U d8 Y;exact⟨v,B6,N,I8,a8,b,P++o,⟨h.O,r.2⟩,a++[r.1],⟨l,hJ⟩,U,Q.trans k8,DenWL.append Y (.cons d8 .nil),b5,d⟩
 .obtain ⟨H2,j,w,⟨b,P,l,Q,dc,K⟩,H2D,HD,rfl⟩:=ll;have s9:Same j (upd j D (.lst w)):=zAe HD _;refine b1 D C s1 _ m h1 h2 h3 h4 h5 h6 h7 h8 ⟨b++P++[(D,CK.lst)],l.trans (Q.trans (zBO s9)),?_⟩;rw[show T++(b++P++[(D,CK.lst)])=T++b++P++[(D,CK.lst)] by simp];exact⟨dc.new s9 HD zAd (K.mono (zBO s9) [(D,CK.lst)]),zHQ dc⟩
def zKt (a:X.calm=true)(n:GIM X tg iter f)(K:∀ x,foldedSetIterable iter X.env x=pure x)(cs:zCT X.env.scope scope)
  (j:∀ (i:Nat) x,X.N[i]?=some x->ownB scope x=true->i∈ms)
  (E:∀ s H fp,GGM (zAW X (mask (noN X.N) ms X.N++xs) scope s H fp) tg t)
  (p:∀ s H fp,GM (zAW X (mask (noN X.N) ms X.N++xs) scope s H fp) elt e) :
  GM X (.ListComp elt [⟨tg,iter,[],0⟩] scope pos) (zHo ms xs.length f t e):=by
 intro h s B H Q I ⟨T,O,G,r,g,o,J⟩;obtain⟨z,y,P,A,q,d,rfl⟩:=zGq o;refine wpAny_comprehension_free rfl K (zBa (zEi I cs)) cs.kind (zCv cs) ?_;refine zFG a n cs j E p I g A d q λD C N b m l F _ _ _ _ _ _ c=>?_
 obtain⟨M,k,v,u⟩:=c;exact⟨m,l,λh' w=>⟨.ref D,b,F h' w,rfl,J _ b M k v u⟩⟩
end
end DL
end
section
namespace DL
open PySem Spec PyProof.Rows L2
section
variable {X:Cx}
def zM2 (c:X.calm=true)(R:GIM X tg iter f)(V:∀ x,foldedSetIterable iter X.env x=pure x)(cs:zCT X.env.scope scope)
  (hm:∀ (i:Nat) x,X.N[i]?=some x->ownB scope x=true->i∈ms)
  (hg:∀ s H fp,GGM (zAW X (mask (noN X.N) ms X.N++xs) scope s H fp) tg t)
  (he:∀ s H fp,GM (zAW X (mask (noN X.N) ms X.N++xs) scope s H fp) elt e)
  (hN:X.N.Nodup) (P:X.N[i]?=some y) (S:Loc X.env.scope y) (U:X.fn y=true\/X.env.scope.names.lookup y=some .local) :
  GSM X (.Assign [.Name y py] (.ListComp elt [⟨tg,iter,[],0⟩] scope pos) spos) (setM i (zHo ms xs.length f t e)):=by
 have G:GM X (.ListComp elt [⟨tg,iter,[],0⟩] scope pos) (zHo ms xs.length f t e):=zKt c R V cs hm hg he;have h:∃ b,swapsWith (.ListComp elt [⟨tg,iter,[],0⟩] scope pos) (some (.Name y py)) spos.line X.env=pure b:=⟨_,rfl⟩;obtain⟨b,h⟩:=h;cases b with
 | false=>exact zKp hN P S G h U
 | true =>
  intro H0 α0 a s B H E I ⟨M,st,o,j,kp,F,p⟩;obtain⟨r,er,F⟩:=bind_some F;cases F;obtain⟨z,yy,NN,ez,ey,O,rfl⟩:=zGq er;rw[exec_Assign_Name_used _ _ _ _ h];refine qX (wpAny_standAt (qX ?_));show wpAny _ X.A (do let _<-comprehension (.ListComp elt [⟨tg,iter,[],0⟩] scope pos) scope X.env _ (newList []) false (eval iter X.env) (some (assign (.Name y py) X.env))) _ _ s;refine qX (wpAny_mono (wpAny_comprehension_free (use:=some (assign (.Name y py) X.env)) (Q:=λ_ u=>SP X a E .next u) rfl V (zBa (zEi I cs)) cs.kind (zCv cs) ?_) (λ_ u hq=>xq (xq hq)) λ_ _ e=>e);refine zFG (RR:=λacc C=>compPost (model X.prog X.w) X.A X.xe (some (assign (.Name y py) X.env)) (λ_ u=>SP X a E .next u) acc C) c R cs hm hg he I j ez O ey λD C k d m ns hI n l N w A K J=>?_
  have Z:Inv X a B d k:=hI k.heap (Heap.SameBut.refl ..);obtain⟨v,es,ep,ho,W,w3⟩:=id ns;have I2:Inv X (a++[(C,v)]) B d k:=Z.pins_of λq hq=>(mem_append.mp hq).elim (λz=>Z.pin q (xy _ z)) λz=>by
   have e:q=(C,v):=by simpa using z
   subst e;exact⟨ho,n,l,N,λv z=>by rw[W] at z;cases z⟩
  show wpAny (model X.prog X.w) X.A (assign (.Name y py) X.env (.ref D)) _ X.xe k;refine thn (zFh hN P S U _ k B d (.ref D) (.ref D) (λB6 L=>L=d/\B6=B.set i (some (.ref D))) I2 rfl ⟨rfl,rfl⟩) λ_ s6 g=>?_
  obtain⟨B6,L,Y,q1,q2⟩:=g;subst q1 q2;have pc:=Y.pin (C,v) (xy _ (xy _ (by simp)));refine⟨m,⟨v,es,ep,pc.1,W,w3⟩,λh' sb=>?_⟩;refine⟨_,L,Y.unpinned.turned (it:=C) (t':=s6.toks) (λb o h q=>sb.extBut b o h q) n (Ne.symm (Ne.symm l)) (.inr w) A K,?_⟩;obtain⟨O4,k2,c2,d2⟩:=J;have T:=(j.next k2 c2).set (i:=i) d2;rw[q8] at T;exact p (M++O4) _ _ T (kp.trans k2)
end
inductive SK where
 | mth (c m:Str) | mk (c kw:Str)
 deriving DecidableEq
noncomputable def spec:List (Str×SK):=[("Fill.films",.mth "Fill" "films"),("Rub.films",.mth "Rub" "films"),("Masked.films",.mth "Masked" "films"),("Join.films",.mth "Join" "films"),("Group.films",.mth "Group" "films"),("Picture.add",.mth "Picture" "add"),("Picture.drop",.mth "Picture" "drop"),("Picture.change",.mth "Picture" "change"),("Picture.lift",.mth "Picture" "lift"),("Picture.numbers",.mth "Picture" "numbers"),("Picture.layer_by",.mth "Picture" "layer_by"),("Picture.renew",.mth "Picture" "renew"),("Picture.cells",.mth "Picture" "cells"),("Picture.check_lies",.mth "Picture" "check_lies"),("Picture.lay",.mth "Picture" "lay"),("Picture.mark",.mth "Picture" "mark"),("Picture.ground_at",.mth "Picture" "ground_at"),("Fill()",.mk "Fill" "strength"),("Rub()",.mk "Rub" "strength"),("Masked()",.mk "Masked" ""),("Join()",.mk "Join" "strength"),("Group()",.mk "Group" "strength"),("Picture()",.mk "Picture" "watcher")]
abbrev Dm:=List (Str×MF)
def spI (K:W.Frag)(C:Addr)(F:MF):Sp:=λvs H Q _=>∃ x dx H1 us T G ws r,vs=.ref x::us/\H1 x=none/\H1 dx=none/\dx≠x/\H=upd (upd H1 dx (.own x)) x (.ins C dx [])/\zAE K H1 T G/\DenWL K H1 T ws us/\F ws G=some r /\
 ∀ H' M,Kp H1 H'->zAE K H' (T++M) r.2->DenW K H' (T++M) r.1 (.ref x)->Q .non H'
def KB (K:W.Frag)(fd:FuncData)(ps:List Str)(kw:Str):Prop:=∀ (s:Shared) (us:List Value) (u:Value),K.In s.heap->(us++[u]).length=ps.length->BindsTo s fd ⟨us,[(kw,u)]⟩ (ps.zip (us++[u]))
def zL1 (P:Program)(w:World)(K:W.Frag)(mg:Str->Option Value)(base:Heap)(k:Nat)(x:Str)(F:MF):Option SK->Prop
 | none=>∃ f fd ps,FnOk P w K mg base CX0 k f fd ps (spM K F)/\mg x=some (.ref f)/\W.keepIn K (.ref f)=true/\zBJ K fd ps []
 | some (.mth c m)=>∃ C f fd ps,zBl K c C/\Cls K C/\Meth K C m f/\FnOk P w K mg base CX0 k f fd ps (spM K F)/\zBJ K fd ps []
 | some (.mk c kw)=>∃ j C f fd ps,j < k/\mg c=some (.ref C)/\Mk K C f/\FnOk P w K mg base CX0 j f fd ps (spI K C F)/\zBJ K fd ps []/\(kw ≠ ""->zBJ K fd ps [.none]/\KB K fd ps kw)
def zL1.mono {K:W.Frag}(h:zL1 P w K mg base j x F o)(e:j<=k):zL1 P w K mg base k x F o:=by
 match o,h with
 | none,⟨f,b,a,h1,h2⟩=>exact⟨f,b,a,h1.mono e,h2⟩
 | some (.mth c m),⟨C,f,b,a,h1,h2,h3,h4,h5⟩=>exact⟨C,f,b,a,h1,h2,h3,h4.mono e,h5⟩
 | some (.mk c d),⟨i,C,f,b,a,h1,h2⟩=>exact⟨i,C,f,b,a,xX h1 e,h2⟩
def DmOk (P:Program)(w:World)(K:W.Frag)(mg:Str->Option Value)(base:Heap)(k:Nat)(U:Dm):Prop :=
 ∀ x F,(x,F)∈U->zL1 P w K mg base k x F (spec.lookup x)
def zHp {K:W.Frag}(h1:zBl K c A)(h2:zBl K c B):A=B:=by
 rw[zBl] at h1 h2;grind
def zLX (h:zEd gs=true)(n:zFm.contains m=false):gs.lookup m=none:=by
 cases e:gs.lookup m with
 | none=>rfl
 | some v =>
  unfold zEd zLY at h;rw[x9,all_eq_true] at h;have:=h.2 m (mem_map.mpr ⟨_,PySem.mem_of_lookup e,rfl⟩);grind
section
variable {X:Cx}{k:Nat}{U:Dm}
noncomputable def fldM (ob:List (Str×Str×Option Bool))(f:Str)(g:Mst->Option MR):Mst->Option MR:=λs=>(g s).bind λx=>match x.1 with
 | .obj c ns l=>if (c,f,none)∈ob then ((ns.zip l).lookup f).map λw=>(w,x.2) else none
 | .ob c ns n=>if (c,f,none)∈ob then (x.2[n]?).bind λws=>((ns.zip ws).lookup f).map λw=>(w,x.2) else none
 | _=>none
theorem zKG {K:W.Frag}{H:Hp}{T:List CA}{f:Str}{w:W}:∀ {gs:List (Str×V)} {l:List W},DenWL K H T l (gs.map (·.2))->((gs.map (·.1)).zip l).lookup f=some w->∃ v,gs.lookup f=some v/\DenW K H T w v
 | [],_,_,e=>by simp at e
 | (n,u)::gs,[],_,e=>by simp at e
 | (n,u)::gs,x::l,t,e=>by
  rw[map_cons,DenWL] at t;obtain⟨v,us,e1,t1,t2⟩:=t;cases e1;rw[map_cons,List.zip_cons_cons,lookup_cons] at e;rw[lookup_cons];dsimp only at e ⊢;by_cases q:(f==n)=true
  .rw [q] at e ⊢;cases e;exact⟨u,rfl,t1⟩
  .rw [Bool.not_eq_true] at q;rw[q] at e ⊢;exact zKG t2 e
theorem zIH {K:W.Frag}{gs:List (Str×V)}:∀ {ns:List Str} {vs:List V} {l:List W},(ns.map λn=>gs.lookup n)=vs.map some->DenWL K H T l vs->(ns.zip l).lookup f=some d->∃ v,gs.lookup f=some v/\DenW K H T d v
 | [],_,_,_,_,e=>by simp at e
 | n::ns,vs,[],_,_,e=>by simp at e
 | n::ns,vs,x::l,h,t,e=>by
  rw[DenWL] at t;obtain⟨v,us,rfl,t1,t2⟩:=t;simp only[map_cons,List.cons.injEq] at h;rw[List.zip_cons_cons,lookup_cons] at e;by_cases q:(f==n)=true
  .rw [q] at e;cases e;exact⟨v,by rw[eq_of_beq q];exact h.1,t1⟩
  .rw [Bool.not_eq_true] at q;rw[q] at e;exact zIH h.2 t2 e
def zSu (j:GM X e g)(K:attributeBase e fl X.env (eval e X.env)=eval e X.env)(F:∀ c,(c,fl,none)∈ob->∀ C,zBl X.K c C->Cls X.K C/\zBT X.K C fl):GM X (.Attribute e fl pos) (fldM ob fl g):=by
 refine(zN9 j K).imp λB H Q b=>?_
 obtain⟨T,O,G,r,I,q,E⟩:=b;obtain⟨x,D,q⟩:=bind_some q;split at q
 .rename_i c J l o;by_cases m:(c,fl,none)∈ob
  .rw [if_pos m] at q;obtain⟨w,z,y⟩:=yq.mp q;cases y;refine⟨T,O,G,x,I,D,λv k M i h f=>?_⟩;have d:=f;rw[o,DenW] at d;obtain⟨a,P,rfl,⟨C,A,t,h1,h2,h3,h4⟩,h5⟩:=d;obtain⟨u,v,s⟩:=zIH h4 h5 z;obtain⟨B,p⟩:=F c m C h3;exact⟨a,C,A,t,u,rfl,zBX _ _ h1,B,p,v,E u k M i h s⟩
  .rw [if_neg m] at q;cases q
 .rename_i c J n o;by_cases m:(c,fl,none)∈ob
  .rw [if_pos m] at q;obtain⟨N,L,q⟩:=bind_some q;obtain⟨w,z,y⟩:=yq.mp q;cases y;refine⟨T,O,G,x,I,D,λv k M i h f=>?_⟩;rw[o,DenW] at f;obtain⟨a,j,rfl⟩:=f;obtain⟨C,A,t,h1,h2,h3,h4,h5⟩:=h.cell' j L;subst h4;obtain⟨u,v,s⟩:=zKG h5 z;obtain⟨B,p⟩:=F c m C h3;exact⟨a,C,A,t,u,rfl,h1,B,p,v,E u k M i h s⟩
  .rw [if_neg m] at q;cases q
 .cases q
noncomputable def clsW (m:Str):W->Option Str
 | .obj c _ _=>if zFm.contains m=true then none else some c
 | .ob c ns _=>if ns.contains m=true then none else some c
 | _=>none
def zOd {K:W.Frag}(g:zAE K H T G)(h:clsW m w=some c)(d:DenW K H T w v):∃ a C dx gs,v=.ref a/\H a=some (.ins C dx gs)/\zBl K c C/\gs.lookup m=none:=by
 unfold clsW at h;split at h
 .by_cases q:zFm.contains m=true
  .rw [if_pos q] at h;cases h
  rw[if_neg q] at h;cases h;obtain⟨a,k,rfl,⟨C,dx,gs,h1,h2,h3,h4⟩,h5⟩:=d;exact⟨a,C,dx,gs,rfl,zBX _ _ h1,h3,zLX h2 (by simpa using q)⟩
 .rename_i l f n;by_cases q:f.contains m=true
  .rw [if_pos q] at h;cases h
  rw[if_neg q] at h;cases h;rw[DenW] at d;obtain⟨a,b,rfl⟩:=d;obtain⟨i,j,C,dx,gs,h1,h2,h3,h4,h5⟩:=g.cell b;refine⟨a,C,dx,gs,rfl,h1,h3,?_⟩;cases e:gs.lookup m with
  | none=>rfl
  | some v =>
   refine absurd ?_ q;rw[<- h4,List.contains_iff_mem];exact mem_map.mpr ⟨_,PySem.mem_of_lookup e,rfl⟩
 .cases h
theorem zGb (hbase:attributeBase o m env (eval o env)=eval o env)(hfew:methodCallForm (args.length+([]:List Keyword).length) (backTo pos (starEach args env)) (backToKw pos (keywordEach [] env))=true)(hline:(apos.endLine==pos.line)=true) :
  eval (.Call (.Attribute o m apos) args [] pos) env=(do
   let ov<-eval o env
   standAt apos.atName
   let (f,first)<-holding [ov] (getMethod ov m (do return (<- importBound o env).getD true))
   callWith pos f first (backTo pos (starEach args env)) (backToKw pos (keywordEach [] env))):=by
 rw[arm_eval_Call,hbase];unfold methodCall calleeOf methodCallPos;simp only[hfew,hline,if_true,Bool.not_true,Bool.or_true,pure_bind]
noncomputable def mthM (U:Dm)(ix:List (Str×Nat))(m:Str)(f:Mst->Option MR)(g:Mst->Option MA):Mst->Option MR:=λs=>(f s).bind λx=>(clsW m x.1).bind λc=>(ix.lookup c).bind λn=>(U[n]?).bind λe=>if spec.lookup e.1=some (.mth c m) then (g ⟨s.O,x.2⟩).bind λws=>e.2 (x.1::ws.1) ws.2 else none
def zSr {m:Str}{o:Expr}{h pos:Pos}{e:Expr}{es:List Expr}{ix:List (Str×Nat)}{f:Mst->Option MR}{g:Mst->Option MA}(Y:GM X o f)(ha:GAM X (e::es) g)(d:DmOk X.prog X.w X.K X.mg X.base k U)(S:Room k X.A)
  (y:starEach (e::es) X.env=(false,eval e X.env)::starEach es X.env) (w:(backTo pos (starEach es X.env)).any (·.1)=false) (j:attributeBase o m X.env (eval o X.env)=eval o X.env) (l:methodCallForm ((e::es).length+([]:List Keyword).length) (backTo pos (starEach (e::es) X.env)) (backToKw pos (keywordEach [] X.env))=true) (i:(h.endLine==pos.line)=true):GM X (.Call (.Attribute o m h) (e::es) [] pos) (mthM U ix m f g):=by
 intro p s B H Q I ⟨T,O,G,r,K,q,N⟩;obtain⟨x,ex,q⟩:=bind_some q;obtain⟨c,V,q⟩:=bind_some q;obtain⟨n,en,q⟩:=bind_some q;obtain⟨b,ee,q⟩:=bind_some q;by_cases hk:spec.lookup b.1=some (.mth c m)
 .rw [if_pos hk] at q;obtain⟨z,ew,q⟩:=bind_some q;have D:=d b.1 b.2 (mem_of_getElem? ee);rw[hk] at D;obtain⟨C,fa,fd,ps,W,d2,E,d4,d5⟩:=D;refine zO6 (C:=C) Y d2 E d4 S d5 .nil zHH ha y w (zGb j l i) p s B H Q I ?_;refine⟨T,O,G,x,K,ex,λv H1 M F L A=>?_⟩;obtain⟨a,C',P,gs,rfl,h1,h2,h3⟩:=zOd L V A;obtain rfl:=zHp W h2;refine⟨a,P,gs,rfl,h1,h3,T++M,O,x.2,z,K.next F L,ew,λus H2 u J Z t=>?_⟩;show spM X.K b.2 (.ref a::(us++[])) H2 Q E0;rw[append_nil];exact⟨T++M++u,z.2,x.1::z.1,r,Z,.cons (A.mono J u) t,q,λv H3 R k3 c3 E=>N v H3 (M++(u++R)) (F.trans (J.trans k3)) (by simp_all) (by simp_all)⟩
 .rw [if_neg hk] at q;cases q
def zQC (J:GM X o f)(d:DmOk X.prog X.w X.K X.mg X.base k U)(S:Room k X.A)(b:attributeBase o m X.env (eval o X.env)=eval o X.env)(e:(apos.endLine==pos.line)=true):GM X (.Call (.Attribute o m apos) [] [] pos) (mthM U ix m f nilM):=by
 intro h s B H Q I ⟨T,O,G,r,P,q,N⟩;obtain⟨x,K,q⟩:=bind_some q;obtain⟨c,E,q⟩:=bind_some q;obtain⟨n,en,q⟩:=bind_some q;obtain⟨g,A,q⟩:=bind_some q;by_cases hk:spec.lookup g.1=some (.mth c m)
 .rw [if_pos hk] at q;obtain⟨ws,L,q⟩:=bind_some q;cases L;have D:=d g.1 g.2 (mem_of_getElem? A);rw[hk] at D;obtain⟨C,fa,Z,ps,W,w,i,u,z⟩:=D;refine zMS (C:=C) J w i u S z .nil zHH (zGb b rfl e) h s B H Q I ?_;refine⟨T,O,G,x,P,K,λv H1 M V l j=>?_⟩;obtain⟨a,C',F,R,rfl,h1,h2,h3⟩:=zOd l E j;obtain rfl:=zHp W h2;refine⟨a,F,R,rfl,h1,h3,T++M,x.2,[x.1],r,l,.cons j .nil,q,λv y t p Y i=>N v y (M++t) (V.trans p) (by rw[<- q8];exact Y) (by rw[<- q8];exact i)⟩
 .rw [if_neg hk] at q;cases q
def zRX {b:List (Addr×Obj)}{B:St}{H:Hp}{s:Shared}{Q:VK}{us fus:List Value}{kw:List (Str×Value)}{vs:List V}{C f:Addr}{fd:FuncData}{ps:List Str}{d:Sp}(M:Mk X.K C f)(F:FnOk X.prog X.w X.K X.mg X.base CX0 k f fd ps d)(g:Room (k+1) X.A)
  (p:∀ (s':Shared) (x:Addr),X.K.In s'.heap->(Value.ref x::fus).length=ps.length->BindsTo s' fd ⟨.ref x::us,kw⟩ (ps.zip (.ref x::fus))) (I:Inv X b B H s) (r:Vals vs fus)
  (h:∀ x dx,H x=none->H dx=none->dx≠x->d (.ref x::vs) (upd (upd H dx (.own x)) x (.ins C dx [])) (λv H2=>v=.non/\Q (.ref x) H2) E0) :
  wpAny (model X.prog X.w) X.A (call (.ref C) us kw) (EP X b B Q) X.xe s:=by
 have hq:=h (s.heap.objs.size+1) s.heap.objs.size (I.hok.fresh (Nat.le_succ _)) (I.hok.fresh (le_refl _)) (ne_of_lt (Nat.lt_succ_self _));have c:=Inv.made (C:=C) I;have r2:Vals (V.ref (s.heap.objs.size+1)::vs) _:=.cons rfl r;have m:(Value.ref (s.heap.objs.size+1)::fus).length=ps.length:=by
  have e:=r2.length;rw[F.len _ _ _ _ hq] at e;exact e.symm
 refine wpAny_call (zMf (f:=f) I.kIn M.makes M.init (beq_iff_eq.mp M.fn) (codeAny_mono (F.run _ X.stack _ _ _ (Value.ref (s.heap.objs.size+1)::fus) _ _ E0 (g.make C us kw)
  (c.env0.make C us kw) (p _ _ c.kIn m) r2 hq) λr s' a=>?_))
 cases r with
 | error e=>exact a.elim
 | ok n =>
  cases n with
  | ret u =>
   obtain⟨v,q,l,j,i,o⟩:=c.after a;subst i;exact⟨j,⟨V.ref (s.heap.objs.size+1),q,l,rfl,o⟩⟩
  | next=>exact False.elim a
  | brk=>exact False.elim a
  | cont=>exact False.elim a
noncomputable def zPS (d:Bool):List W:=if d=true then [.dat .non] else []
noncomputable def mkM (U:Dm)(n:Nat)(c kw:Str)(d:Bool)(g:Mst->Option MA):Mst->Option MR:=λs=>(U[n]?).bind λe=>if spec.lookup e.1=some (.mk c kw) then (g s).bind λws=>e.2 (ws.1++zPS d) ws.2 else none
def zUl {n:Nat}{c kw:Str}{b:Bool}{p pos:Pos}{e:Expr}{es:List Expr}{g:Mst->Option MA}(R:GAM X (e::es) g)(d:DmOk X.prog X.w X.K X.mg X.base k U)(hr:Room k X.A)(hg:Gl X c)(y:(c==("__debug__":Str))=false)
  (o:starEach (e::es) X.env=(false,eval e X.env)::starEach es X.env) (t:(backTo pos (starEach es X.env)).any (·.1)=false) (z:b=true->kw ≠ ""):GM X (.Call (.Name c p) (e::es) [] pos) (mkM U n c kw b g):=by
 intro h s B H Q I ⟨T,O,G,r,ms,q,Z⟩;obtain⟨a,ee,q⟩:=bind_some q;by_cases hk:spec.lookup a.1=some (.mk c kw)
 .rw [if_pos hk] at q;obtain⟨i,ew,q⟩:=bind_some q;have D:=d a.1 a.2 (mem_of_getElem? ee);rw[hk] at D;obtain⟨j,C,fa,fd,ps,jk,N,F,d3,d4,d5⟩:=D;refine wpAny_Call_Name_kw (zET I hg N ?_ y);refine W.callWith_K (h₀:=X.base) I.ok.mod.kin F.kp (thn (R pos h s B H (λvs f=>∃ M,Kp H f/\zAE X.K f (T++M) i.2/\DenWL X.K f (T++M) i.1 vs) I ⟨T,O,G,i,ms,ew,λvs f M l m w=>⟨M,l,m,w⟩⟩) λus s1 ⟨vs,f,A,Y,M,l,m,w⟩=>⟨A.kIn,?_⟩) o t;have rn:Vals (if b=true then [V.non] else []) (if b=true then [Value.none] else []):=by
   cases b with
   | true=>exact .cons rfl .nil
   | false=>exact .nil
  refine zRX (fus:=us++if b=true then [Value.none] else []) F d3 (hr.mono jk) (λs' x E J=>?_) A (Y.append rn) λx dx K L n3=>?_
  .cases b with
   | true=>exact(d5 (z rfl)).1 s' (.ref x::us) E J
   | false =>
    have v:((Value.ref x::us)++[]).length=ps.length:=J;exact d4 s' (.ref x::us) E v
  .refine ⟨x,dx,f,_,T++M,i.2,i.1++zPS b,r,rfl,K,L,n3,rfl,m,w.append ?_,q,λH' M' P c2 u=>⟨rfl,Z (.ref x) H' (M++M') (l.trans P) (by rw[<- q8];exact c2) (by rw[<- q8];exact u)⟩⟩;cases b with
   | true=>exact .cons (by rw[DenW,Den]) .nil
   | false=>exact .nil
 .rw [if_neg hk] at q;cases q
end
section
variable {K:W.Frag}{H:Hp}{T:List CA}{G:Mem}{B:St}{O:List (Option W)}
def MS.chgG (b:MS K H T G B O){n:Nat}{a:Addr}{k:CK}{o:HO}{ws:List W}(d:T[n]?=some (a,k))(h2:fz1 o=none)(t:Kp H (upd H a o)->zBi K (upd H a o) T a ws k):MS K (upd H a o) T (G.set n ws) B O/\Kp H (upd H a o):=by
 have f:n < G.length:=by rw[<- b.cells.len];exact(zzg d).1
 obtain⟨c,e⟩:=b.cells.chgG f d h2 t;have m:=b.next (M:=[]) e (by rw[append_nil];exact c);rw[append_nil] at m;exact⟨m,e⟩
def DenWL.take:∀ {ws:List W} {vs:List V} (j:Nat),DenWL K H T ws vs->DenWL K H T (ws.take j) (vs.take j)
 | [],_,_,h=>by rw[DenWL] at h;subst h;rw[List.take_nil,List.take_nil];exact .nil
 | _::_,_,0,h=>.nil
 | _::ws,_,j+1,h=>by
  rw[DenWL] at h;obtain⟨v,us,rfl,h2,h3⟩:=h;exact .cons h2 (DenWL.take j h3)
def DenWL.drop:∀ {ws:List W} {vs:List V} (j:Nat),DenWL K H T ws vs->DenWL K H T (ws.drop j) (vs.drop j)
 | [],_,_,h=>by rw[DenWL] at h;subst h;rw[List.drop_nil,List.drop_nil];exact .nil
 | _::_,_,0,h=>h
 | _::ws,_,j+1,h=>by
  rw[DenWL] at h;obtain⟨v,us,rfl,h2,h3⟩:=h;exact DenWL.drop j h3
def DenWL.rev:∀ {ws:List W} {vs:List V},DenWL K H T ws vs->DenWL K H T ws.reverse vs.reverse
 | [],_,h=>by rw[DenWL] at h;subst h;exact .nil
 | _::ws,_,h=>by
  rw[DenWL] at h;obtain⟨v,us,rfl,h2,h3⟩:=h;rw[reverse_cons,reverse_cons];exact(DenWL.rev h3).append (.cons h2 .nil)
end
noncomputable def zTd (k:List Int):List W->Option W
 | []=>none
 | .tup [d,u]::ws=>if kI d=some k then some u else zTd k ws
 | _::_=>none
section
variable {K:W.Frag}{H:Hp}{T:List CA}
noncomputable def lenK (t:Bool):Nat:=if t=true then 2 else 1
end
section
variable {X:Cx}
noncomputable def nidW (x y:W)(G:Mem):Option MR:=match y with
 | .di b n=>(kI x).bind λks=>if ks.length=lenK b then (G[n]?).bind λws=>some (.dat (.bl (!(zTd ks ws).isSome)),G) else none
 | _=>none
noncomputable def lcpM (f:Mst->Option MR):Mst->Option MR:=λs=>(f s).bind λx=>match x.1 with
 | .loc n=>(x.2[n]?).bind λws=>some (.loc x.2.length,x.2++[ws])
 | _=>none
def zSt (v:Gl X "list")(s:X.mg "list"=none)(h:GM X e f)(j:starEach [e] X.env=[(false,eval e X.env)]):GM X (.Call (.Name "list" p) [e] [] pos) (lcpM f):=(zGU zDz v s boot_list (zAX h zBE j) (by decide) (by decide) j rfl).imp λB H Q b=>by
 obtain⟨T,O,G,r,B,e,c⟩:=b;obtain⟨x,C,e⟩:=bind_some e;split at e
 .rename_i n u;obtain⟨D,A,e⟩:=bind_some e;cases e;refine⟨T,O,G,x,B,C,λv k q z g i=>?_⟩;rw[u,DenW] at i;obtain⟨a,w,rfl⟩:=i;obtain⟨o,t,y⟩:=g.loc' w A;refine⟨a,o,rfl,.inl (SqL.of t),λl m=>?_⟩;have d:Same k (upd k l (.lst o)):=zAe m _;exact c _ _ (q++[(l,.lst)]) (z.trans (zBO d)) (by rw[<- q8];exact g.new d m zAd (y.mono (zBO d) _)) (by rw[<- q8];exact zHQ g)
 .cases e
end
end DL
end
section
namespace DL
open PySem Spec PyProof.Rows L2
set_option genSizeOf false in
set_option genInjectivity false in
inductive ME where
 | pur (e:E) | var (i:Nat) | call (n:Nat) (f:Str) (es:ME) | lst (es:ME) | ix (a b:ME) | cmp (op:CmpOp) (a b:ME) 
 | comp (n:Nat) (ms:List Nat) (x:Str) (src el:ME) | rng (a:ME) | rng2 (a b:E) | it (a:ME) | not (a:ME) | orl (es:ME) | nil | cons (e es:ME) | fld (a:ME) (f:Str) | mth (ix:List (Str×Nat)) (m:Str) (a es:ME) | mk (n:Nat) (c kw:Str) (d:Bool) (es:ME) | lcp (a:ME) | nid (a b:ME)
set_option genSizeOf false in
set_option genInjectivity false in
inductive MT where
 | nil | cons (a b:MT) | set (i:Nat) (e:ME) | setC (i:Nat) (e:ME) | app (t e:ME) | ife (c:ME) (a b:MT) | for1 (i:Nat) (src:ME) (b:MT) 
 | ret (e:ME) | never 
noncomputable def fnM (U:Dm)(n:Nat)(x:Str)(g:Mst->Option MA):Mst->Option MR:=λs=>match U[n]? with
 | some (y,F)=>if y=x then zLm F g s else none
 | none=>none
mutual
def evM (J:Gm)(U:Dm):ME->Mst->Option MR
 | .pur e=>zMn (evE J e)
 | .var i=>varM i
 | .call n f es=>fnM U n f (evMs J U es)
 | .lst es=>lstM (evMs J U es)
 | .ix a b=>twoM (evM J U a) (evM J U b) ixW
 | .cmp op a b=>twoM (evM J U a) (evM J U b) (opM (cmpD op))
 | .fld a f=>fldM J.ob f (evM J U a)
 | .mth ix m a es=>mthM U ix m (evM J U a) (evMs J U es)
 | .mk n c kw d es=>mkM U n c kw d (evMs J U es)
 | .lcp a=>lcpM (evM J U a)
 | .comp n ms _ src el=>zHo ms 1 (evSrc J U src) (tgM n) (evM J U el)
 | _=>λ_=>none
def evMs (J:Gm)(U:Dm):ME->Mst->Option MA
 | .nil=>nilM
 | .cons e es=>zNa (evM J U e) (evMs J U es)
 | _=>λ_=>none
def evSrc (J:Gm)(U:Dm):ME->Mst->Option (Src×Mem)
 | .rng a=>zMH (evM J U a)
 | .rng2 a b=>zUC (evE J a) (evE J b)
 | .it a=>srcM (evM J U a)
 | _=>λ_=>none
end
mutual
noncomputable def evT (J:Gm)(U:Dm):ME->Mst->Option MB
 | .pur e=>zMo (asB (evE J e))
 | .cmp op a b=>asBM (evM J U (.cmp op a b))
 | .call n f es=>asBM (evM J U (.call n f es))
 | .nid a b=>asBM (twoM (evM J U a) (evM J U b) nidW)
 | .not a=>notB (evT J U a)
 | .orl es=>evOrT J U es
 | _=>λ_=>none
noncomputable def zGl (J:Gm)(U:Dm):ME->Mst->Option MB
 | .cons e es=>(match es with
  | .nil=>evT J U e
  | es=>andB (evT J U e) (zGl J U es))
 | _=>λ_=>none
noncomputable def evOrT (J:Gm)(U:Dm):ME->Mst->Option MB
 | .cons e es=>(match es with
  | .nil=>evT J U e
  | es=>orB (evT J U e) (evOrT J U es))
 | _=>λ_=>none
end
mutual
def evS' (J:Gm)(U:Dm):MT->Mst->Option OutM
 | .set i e=>setM i (evM J U e)
 | .setC i e=>setM i (evM J U e)
 | .app t e=>appM (evM J U t) (evM J U e)
 | .ife c a b=>ifM (evT J U c) (evSs' J U a) (evSs' J U b)
 | .for1 i src b=>λs=>(evSrc J U src s).bind λr=>zF1 (tgM i) (evSs' J U b) r.1 0 ⟨s.O,r.2⟩
 | .ret e=>retM (evM J U e)
 | .nil=>λ_=>none
 | .cons _ _=>λ_=>none
 | .never=>λ_=>none
def evSs' (J:Gm)(U:Dm):MT->Mst->Option OutM
 | .nil=>λs=>some (.nx s)
 | .cons a b=>seqM (evS' J U a) (evSs' J U b)
 | _=>λ_=>none
end
noncomputable def zNk:Expr->Bool
 | .Name _ _=>true
 | .Subscript _ _ _=>true
 | .Attribute _ _ _=>true
 | .Call _ (_::_) _ _=>true
 | _=>false
mutual
noncomputable def cM:ME->Scope->List Str->List Str->Expr->Bool
 | .pur e,sc,N,bs=>λx=>cE e sc N bs x
 | .var i,sc,N,bs=>λx=>cE (.var i) sc N bs x
 | .call _ f es,sc,N,bs=>λe=>onC e λy z2=>zH4 z2 λx xs=>(decide (f=y)&&glB sc f&&okN f&&(spec.lookup f).isNone&&cMs es sc N bs (x::xs))
 | .lst es,sc,N,bs=>λe=>zJ9 e λl _=>cMs es sc N bs l
 | .ix a b,sc,N,bs=>λe=>zB6 e λl r _=>zHK r&&cM a sc N bs l&&cM b sc N bs r
 | .cmp op a b,sc,N,bs=>λ_=>false
 | .fld a f,sc,N,bs=>λe=>zA2 e λl m _=>decide (m=f)&&zNk l&&cM a sc N bs l
 | .mth _ m a es,sc,N,bs=>λe=>zCQ e λz1 z2 z3 cpos=>zA2 z1 λl m' apos=>on0 z3<|(decide (m'=m)&&zNk l&&(apos.endLine==cpos.line)&&decide (z2.length < 30)&&cM a sc N bs l&&cMs es sc N bs z2)
 | .mk _ c kw d es,sc,N,bs=>λe=>onC e λy z2=>zH4 z2 λx xs=>(decide (c=y)&&glB sc c&&okN c&&decide (d=true->kw ≠ "")&&cMs es sc N bs (x::xs))
 | .lcp a,sc,N,bs=>λe=>onC e λy z2=>on1 z2 λl=>(decide (y = "list")&&bltB sc bs "list"&&zAY l&&cM a sc N bs l)
 | .comp n ms x src el,sc,N,bs=>λe=>zDc e λv z1 scope _=>on1 z1 λz2=>zPN z2 λz3 t z4 a=>zA0 z3 λy _=>on0 z4<|(decide (x=y)&&decide (a=0)&&decide (n=N.length)&&cscB sc scope&&zMe scope N ms&&decide ((mask (noN N) ms N++[x]).Nodup)&&locB (relS sc scope) x&&ownB scope x&&cSrc src sc N bs t&&cM el (relS sc scope) (mask (noN N) ms N++[x]) bs v)
 | _,_,_,_=>λ_=>false
noncomputable def cMs:ME->Scope->List Str->List Str->List Expr->Bool
 | .nil,sc,N,bs=>λl=>l.isEmpty
 | .cons e es,sc,N,bs=>λl=>match l with
  | x::xs=>zAY x&&cM e sc N bs x&&cMs es sc N bs xs
  | []=>false
 | _,_,_,_=>λ_=>false
noncomputable def cSrc:ME->Scope->List Str->List Str->Expr->Bool
 | .rng a,sc,N,bs=>λx=>onC x λy z2=>on1 z2 λl=>(decide (y = "range")&&bltB sc bs "range"&&zAY l&&cM a sc N bs l)
 | .rng2 a b,sc,N,bs=>λ_=>false
 | .it a,sc,N,bs=>λx=>zKI x&&cM a sc N bs x
 | _,_,_,_=>λ_=>false
end
mutual
noncomputable def cT:ME->Scope->List Str->List Str->Expr->Bool
 | .pur e,sc,N,bs=>λx=>cE e sc N bs x
 | .cmp op a b,sc,N,bs=>λx=>cM (.cmp op a b) sc N bs x
 | .call n f es,sc,N,bs=>λx=>cM (.call n f es) sc N bs x
 | .nid a b,sc,N,bs=>λ_=>false
 | .not a,sc,N,bs=>λe=>zDL e λz1 l _=>onEq z1 .Not<|(cT a sc N bs l)
 | .orl es,sc,N,bs=>λe=>zD8 e λz1 l _=>onEq z1 .Or<|(cTs es sc N bs l)
 | _,_,_,_=>λ_=>false
noncomputable def cTs:ME->Scope->List Str->List Str->List Expr->Bool
 | .cons e es,sc,N,bs=>λl=>match es with
  | .nil=>(match l with
   | [x]=>cT e sc N bs x
   | _=>false)
  | es=>(match l with
   | x::y::xs=>cT e sc N bs x&&cTs es sc N bs (y::xs)
   | _=>false)
 | _,_,_,_=>λ_=>false
end
noncomputable def zPu:ME->Bool
 | .comp _ _ _ _ _=>true
 | _=>false
mutual
noncomputable def cS' (sc:Scope)(N bs:List Str):MT->Stmt->Bool
 | .set i e=>λs=>zCo s λz1 v _=>on1 z1 λz2=>zA0 z2 λy _=>varB sc N i y&&zH6 v&&cM e sc N bs v
 | .setC i e=>λs=>zCo s λz1 v _=>on1 z1 λz2=>zA0 z2 λy _=>zPu e&&varB sc N i y&&cM e sc N bs v
 | .app t e=>λs=>zFk s λz1 _=>zCQ z1 λz2 z3 z4 cpos=>zA2 z2 λb m apos=>on1 z3 λv=>on0 z4<|(decide (m = "append")&&zNk b&&(apos.endLine==cpos.line)&&zAY v&&cM t sc N bs b&&cM e sc N bs v)
 | .ife c a b=>λs=>onIf s λt l r _=>cT c sc N bs t&&cSs' sc N bs a l&&cSs' sc N bs b r
 | .for1 i it b=>λs=>zPO s λz1 t l z2 _=>zA0 z1 λy _=>on0 z2<|(varB sc N i y&&cSrc it sc N bs t&&cSs' sc N bs b l)
 | .ret e=>λs=>zD7 s λz1 _=>zGW z1 λv=>cM e sc N bs v
 | .never=>λ_=>true
 | .nil=>λ_=>false
 | .cons _ _=>λ_=>false
noncomputable def cSs' (sc:Scope)(N bs:List Str):MT->List Stmt->Bool
 | .nil=>λl=>l.isEmpty
 | .cons a b=>λl=>match l with
  | s::r=>cS' sc N bs a s&&cSs' sc N bs b r
  | []=>false
 | _=>λ_=>false
end
end DL
end
section
namespace DL
open PySem Spec PyProof.Rows L2
structure XOkM (X:Cx)(k:Nat)(J:Gm)(U:Dm)(bs:List Str):Prop where
 x:XOk X k J bs
 d:DmOk X.prog X.w X.K X.mg X.base k U
def XOkM.comp (o:XOkM X k J U bs)(nd:N.Nodup):XOkM (zAW X N scope s H fp) k J U bs:=⟨o.x.comp nd,o.d⟩
section
variable {X:Cx}{k:Nat}{J:Gm}{U:Dm}{bs:List Str}
def zKs (h:∀ s,f s=none):GM X e f:=λpins s B H Q I a=>by
 obtain⟨T,O,G,r,b,q,c⟩:=a;rw[h] at q;cases q
def zUn (o:XOkM X k J U bs)(i:Gl X f)(j:(f==("__debug__":Str))=false)(d:GAM X (x::xs) g)(b:∀ e∈x::xs,zAY e=true)(c:spec.lookup f=none):GM X (.Call (.Name f p) (x::xs) [] pos) (fnM U n f g):=by
 cases q:U[n]? with
 | none=>exact zKs λs=>by unfold fnM;rw[q]
 | some l =>
  obtain⟨y,F⟩:=l;by_cases e:y=f
  .subst e;have h:fnM U n y g=zLm F g:=by
    funext s;unfold fnM
    simp_all
   rw[h];have D:=o.d y F (mem_of_getElem? q);rw[c] at D;obtain⟨a,r,m,h1,h2,h3,h4⟩:=D;exact zQE h1 o.x.room i h2 h3 h4 d j (zAC (b x q9)) (zBN λe z=>b e (qJ _ z))
  .exact zKs λs=>by
    unfold fnM;rw[q];exact if_neg e
def zEB {c}(h:zNk b=true):attributeBase b m env c=c:=by
 cases b with
 | Call f a _ _=>cases a<;>first | (cases f<;>rfl) | cases h
 | _=>first | rfl | cases h
def zEl :∀ {es:List Expr},cMs a sc N bs es=true->∀ e∈es,zAY e=true:=by
 induction a with
 | nil =>
  intro es h;cases es with
  | nil=>intro e z;exact absurd z (by simp)
  | cons x d=>exact nomatch show false=true from h
 | cons a b _ c =>
  intro es h;cases es with
  | nil=>intro e z;exact absurd z (by simp)
  | cons x d =>
   simp only[cMs,x9] at h;intro e z;rcases mem_cons.mp z with rfl | z
   .simp_all
   .exact c h.2 e z
 | _=>intro es h;exact zzf h
def zTL (h:∀ e∈es,zAY e=true)(a:es.length < 30)(pos:Pos):methodCallForm (es.length+([]:List Keyword).length) (backTo pos (starEach es X.env)) (backToKw pos (keywordEach [] X.env))=true:=by
 unfold methodCallForm;have q:=zBN (X:=X) h pos;rw[x9,x9];refine⟨⟨?_,rfl⟩,decide_eq_true (by assumption)⟩
 simp_all
structure zU5 (X:Cx)(J:Gm)(U:Dm)(bs:List Str)(a:ME):Prop where
 e:∀ e,cM a X.env.scope X.N bs e=true->GM X e (evM J U a):=by exact nh
 es:∀ es,cMs a X.env.scope X.N bs es=true->GAM X es (evMs J U a):=by exact nh
 s:∀ it,cSrc a X.env.scope X.N bs it=true->(∀ tg,GIM X tg it (evSrc J U a))/\∀ x,foldedSetIterable it X.env x=pure x:=by exact nh
 t:∀ e,cT a X.env.scope X.N bs e=true->GTM X e (evT J U a):=by exact nh
 ts:∀ l,cTs a X.env.scope X.N bs l=true->∀ pos,GWM X (.BoolOp .And l pos) (zGl J U a)/\GWM X (.BoolOp .Or l pos) (evOrT J U a):=by exact nh
def zCV (o:XOkM X k J U bs)(a:ME):zU5 X J U bs a:=by
 induction a generalizing X with
 | pur e =>
  refine { e:=λx h=>zQD (((zDF o.x e).e _ h).1),t:=λx h=>zMz (((zDF o.x e).e _ h).2) }
 | var i =>
  refine { e:=λx h=>?_ };replace h:cE (.var i) X.env.scope X.N bs x=true:=h;obtain⟨_,_,rfl,g⟩:=zAN h;replace h:=g;simp only[x9,qj] at h;obtain⟨⟨h2,h3⟩,h4⟩:=h;obtain⟨n1,n2⟩:=zCR h4;exact zSq h2 (zED h3) n1 n2
 | call n f es P =>
  have R:∀ e,cM (.call n f es) X.env.scope X.N bs e=true->GM X e (evM J U (.call n f es))/\GTM X e (asBM (evM J U (.call n f es))):=λe h=>by
   obtain⟨_,_,_,_,rfl,g⟩:=zBe h;obtain⟨_,_,rfl,u⟩:=zEJ g;replace h:=u;simp only[x9,qj,Option.isNone_iff_eq_none] at h;obtain⟨⟨⟨⟨rfl,h2⟩,h3⟩,h5⟩,h4⟩:=h;have k:=λp pos=>zUn (n:=n) (p:=p) (pos:=pos) o (zFA h2) (zCR h3).1 ((P o).es _ h4) (zEl h4) h5
   exact⟨k _ _,zP2 (k _ _) λ_=>rfl⟩
  exact { e:=λe h=>(R e h).1,t:=λe h=>(R e h).2 }
 | lst es P =>
  refine { e:=λx h=>?_ };obtain⟨_,_,rfl,g⟩:=zGX h;replace h:=g;have h:=(P o).es _ h;refine(zN8 h).imp λB H Q S=>?_
  obtain⟨T,O,G,r,V,q,c⟩:=S;obtain⟨ws,e1,q⟩:=bind_some q;by_cases hl:ws.1.length<=10000
  .rw [if_pos hl] at q;cases q;refine⟨T,O,G,ws,V,e1,λvs H1 M k1 c1 d1=>⟨by rw[<- d1.length];exact zDr hl,λp n=>?_⟩⟩;have s2:Same H1 (upd H1 p (.lst vs)):=zAe n _;refine c _ _ (M++[(p,.lst)]) (k1.trans (zBO s2)) ?_ ?_
   .rw [<- q8];exact c1.new s2 n zAd (d1.mono (zBO s2) [(p,.lst)])
   .rw [<- q8];exact zHQ c1
  .rw [if_neg hl] at q;cases q
 | ix a b j F =>
  refine { e:=λx h=>?_ };obtain⟨_,_,_,rfl,g⟩:=zBs h;replace h:=g;simp only[x9] at h;obtain⟨⟨h0,h1⟩,h2⟩:=h;exact zUm ((j o).e _ h1) ((F o).e _ h2) (zE5 h0)
 | cmp op a b j F =>
  exact {}
 | fld a f j =>
  refine { e:=λx h=>?_ };obtain⟨_,_,_,rfl,g⟩:=zAm h;replace h:=g;simp only[x9,qj] at h;obtain⟨⟨rfl,h2⟩,h3⟩:=h;exact zSu ((j o).e _ h3) (zEB h2) λc m C q=>o.x.g.ob _ m C q
 | mth ix m a es j w =>
  refine { e:=λx h=>?_ };obtain⟨z1,z2,z3,_,rfl,g⟩:=zA7 h;obtain⟨_,_,_,rfl,u⟩:=zAm g;obtain⟨rfl,K⟩:=zBg u;replace h:=K;simp only[x9,qj] at h;obtain⟨⟨⟨⟨⟨rfl,h2⟩,h3⟩,h4⟩,h5⟩,h6⟩:=h;cases z2 with
  | nil =>
   cases es with
   | nil=>exact zQC ((j o).e _ h5) o.d o.x.room (zEB h2) h3
   | _=>exact(zzf h6)
  | cons x Y =>
  have N:=zEl h6;exact zSr ((j o).e _ h5) ((w o).es _ h6) o.d o.x.room (zAC (N _ q9)) (zBN (λe z=>N e (qJ _ z)) _) (zEB h2) (zTL N h4 _) h3
 | mk n c kw d es w =>
  refine { e:=λx h=>?_ };obtain⟨_,_,_,_,rfl,g⟩:=zBe h;obtain⟨_,_,rfl,u⟩:=zEJ g;replace h:=u;simp only[x9,qj] at h;obtain⟨⟨⟨⟨rfl,h2⟩,h3⟩,h6⟩,h4⟩:=h;have N:=zEl h4;exact zUl ((w o).es _ h4) o.d o.x.room (zFA h2) (zCR h3).1 (zAC (N _ q9)) (zBN (λe z=>N e (qJ _ z)) _) h6
 | lcp a j =>
  refine { e:=λx h=>?_ };obtain⟨_,_,_,_,rfl,g⟩:=zBe h;obtain⟨_,rfl,u⟩:=zA1 g;replace h:=u;simp only[x9,qj] at h;obtain⟨⟨⟨rfl,h2⟩,h3⟩,h4⟩:=h;obtain⟨g1,Z⟩:=zA5 o.x h2;exact zSt g1 Z ((j o).e _ h4) (zAC h3)
 | nid a b j F =>
  exact {}
 | comp n V x b5 el w A =>
  refine { e:=λe h=>?_ };obtain⟨v,z1,E,pos,rfl,g⟩:=zB7 h;obtain⟨z2,rfl,u⟩:=zA1 g;obtain⟨z3,t,z4,a,rfl,W⟩:=zFl u;obtain⟨y,py,rfl,K⟩:=zAN W;obtain⟨rfl,a0⟩:=zBg K;replace h:=a0;simp only[x9,qj] at h;obtain⟨⟨⟨⟨⟨⟨⟨⟨⟨rfl,rfl⟩,rfl⟩,h4⟩,h5⟩,h6⟩,h7⟩,h8⟩,h9⟩,h11⟩:=h;have cx:∀ s H L,XOkM (zAW X (mask (noN X.N) V X.N++[x]) E s H L) k J U bs:=λs H L=>o.comp h6
  exact zKt o.x.calm (((w o).s _ h9).1 _) ((w o).s _ h9).2 (zHm h4) (zFo h5) (λs H L=>zFz (X:=zAW X (mask (noN X.N) V X.N++[x]) E s H L) h6 (zLA (k:=0) rfl) (zER h7) (.inl h8)) λs H L=>(A (cx s H L)).e _ h11
 | rng a j =>
  refine { s:=λx h=>?_ };obtain⟨_,_,_,_,rfl,g⟩:=zBe h;obtain⟨_,rfl,u⟩:=zA1 g;replace h:=u;simp only[x9,qj] at h;obtain⟨⟨⟨rfl,h2⟩,h3⟩,h4⟩:=h;obtain⟨g1,Z⟩:=zA5 o.x h2;exact⟨λtg=>zI8 g1 Z ((j o).e _ h4) (zAC h3),λ_=>rfl⟩
 | rng2 a b =>
  exact {}
 | it a j =>
  refine { s:=λx h=>?_ };replace h:(zKI x&&cM a X.env.scope X.N bs x)=true:=h;simp only[x9] at h;exact⟨λtg=>zQF ((j o).e _ h.2),zE6 h.1⟩
 | not a j =>
  refine { t:=λe h=>?_ };obtain⟨z1,_,_,rfl,g⟩:=zCX h;obtain⟨rfl,u⟩:=zC5 g;replace h:=u;exact zP3 ((j o).t _ h)
 | orl es P =>
  refine { t:=λe h=>?_ };obtain⟨z1,_,_,rfl,g⟩:=zC6 h;obtain⟨rfl,u⟩:=zC5 g;replace h:=u;exact (λpins s B H Q I q=>(((P o).ts _ h _).2) _ pins s B H Q I q)
 | nil =>
  refine { es:=λes h=>?_ };cases es with
  | nil=>exact zQN
  | cons x Y=>exact nof h
 | cons e es A w =>
  refine { es:=λl h=>?_,ts:=λl h pos=>?_ }
  .cases l with
   | nil=>exact nof h
   | cons x Y =>
    replace h:(zAY x&&cM e X.env.scope X.N bs x&&cMs es X.env.scope X.N bs Y)=true:=h;simp only[x9] at h;exact zNB ((A o).e _ h.1.2) ((w o).es _ h.2) (zAC h.1.1)
  .simp only [cTs] at h;split at h
   .split at h
    .exact ⟨(zJu ((A o).t _ h)),(zN1 ((A o).t _ h))⟩
    .cases h
   .rename_i hn;split at h
    .rw [x9] at h;have q:=(w o).ts _ h.2 pos;have ea:zGl J U (.cons e es)=andB (evT J U e) (zGl J U es):=by
      rw[zGl];exact hn
     have eo:evOrT J U (.cons e es)=orB (evT J U e) (evOrT J U es):=by
      rw[evOrT];exact hn
     rw[ea,eo];exact⟨zP1 ((A o).t _ h.1) q.1,zSd ((A o).t _ h.1) q.2⟩
    .cases h
end
section
variable {X:Cx}{k:Nat}{J:Gm}{U:Dm}{bs:List Str}
def zJb (o:XOkM X k J U bs)(u:∀ x,X.fn x=true)(a:MT):(∀ st,cS' X.env.scope X.N bs a st=true->GSM X st (evS' J U a))/\∀ sts,cSs' X.env.scope X.N bs a sts=true->GSsM X sts (evSs' J U a):=by
 have K:=o.x.nd
 induction a with
 | nil =>
  refine⟨nh,λl h=>?_⟩;cases l with
  | nil=>exact zM0
  | cons x R=>exact nof h
 | cons a b q j =>
  refine⟨nh,λl h=>?_⟩;cases l with
  | nil=>exact nof h
  | cons x R =>
   replace h:(cS' X.env.scope X.N bs a x&&cSs' X.env.scope X.N bs b R)=true:=h;simp only[x9] at h;exact zKo (q.1 _ h.1) (j.2 _ h.2)
 | set i e =>
  refine⟨λst h=>?_,nh⟩;obtain⟨A,_,_,rfl,d⟩:=zBf h;obtain⟨C,rfl,f⟩:=zA1 d;obtain⟨_,_,rfl,g⟩:=zAN f;replace h:=g;simp only[x9] at h;obtain⟨⟨h2,h3⟩,h4⟩:=h;obtain⟨F,O,_⟩:=zBr h2;exact zKp K F O ((zCV o e).e _ h4) (zEM h3) (.inl (u _))
 | setC i e =>
  refine⟨λst h=>?_,nh⟩;obtain⟨A,_,_,rfl,d⟩:=zBf h;obtain⟨C,rfl,f⟩:=zA1 d;obtain⟨_,_,rfl,g⟩:=zAN f;replace h:=g;simp only[x9] at h;obtain⟨⟨h2,h3⟩,h4⟩:=h;obtain⟨S,W,_⟩:=zBr h3;cases e with
  | comp n Q x z Z =>
   obtain⟨v,A,m,a2,rfl,I⟩:=zB7 h4;obtain⟨C,rfl,G⟩:=zA1 I;obtain⟨z3,t,Y,a,rfl,L⟩:=zFl G;obtain⟨y,py,rfl,N⟩:=zAN L;obtain⟨rfl,E⟩:=zBg N;replace h4:=E
   .simp only [x9,qj] at h4;obtain⟨⟨⟨⟨⟨⟨⟨⟨⟨rfl,rfl⟩,rfl⟩,h4⟩,h5⟩,h6⟩,h7⟩,h8⟩,h9⟩,h11⟩:=h4;have T:∀ s H w,XOkM (zAW X (mask (noN X.N) Q X.N++[x]) m s H w) k J U bs:=λs H w=>o.comp h6
    exact zM2 o.x.calm (((zCV o z).s _ h9).1 _) ((zCV o z).s _ h9).2 (zHm h4) (zFo h5) (λs H w=>zFz (X:=zAW X (mask (noN X.N) Q X.N++[x]) m s H w) h6 (zLA (k:=0) rfl) (zER h7) (.inl h8)) (λs H w=>(zCV (T s H w) Z).e _ h11) K S W (.inl (u _))
  | _=>cases h2
 | app t e =>
  refine⟨λst h=>?_,nh⟩;obtain⟨A,_,rfl,d⟩:=zDb h;obtain⟨C,z3,Y,_,rfl,f⟩:=zA7 d;obtain⟨_,_,_,rfl,g⟩:=zAm f;obtain⟨_,rfl,D⟩:=zA1 g;obtain⟨rfl,P⟩:=zBg D;replace h:=P;simp only[x9,qj] at h;obtain⟨⟨⟨⟨⟨rfl,h2⟩,h3⟩,h4⟩,h5⟩,h6⟩:=h;exact zP8 ((zCV o t).e _ h5) ((zCV o e).e _ h6) (zAC h4) (zEB h2) h3
 | ife c a b q j =>
  refine⟨λst h=>?_,nh⟩;obtain⟨_,_,_,_,rfl,d⟩:=zKA h;replace h:=d;simp only[x9] at h;obtain⟨⟨h1,h2⟩,h3⟩:=h;exact zSk ((zCV o c).t _ h1) (q.2 _ h2) (j.2 _ h3)
 | for1 i it b j =>
  refine⟨λst h=>?_,nh⟩;obtain⟨A,_,_,C,_,rfl,d⟩:=zH3 h;obtain⟨_,_,rfl,f⟩:=zAN d;obtain⟨rfl,g⟩:=zBg f;replace h:=g;simp only[x9] at h;obtain⟨⟨h2,h3⟩,h4⟩:=h;obtain⟨F,O,_⟩:=zBr h2;obtain⟨V,s2⟩:=(zCV o it).s _ h3;exact zP7 o.x.own o.x.calm (V _) (zFz K F O (.inl (u _))) (j.2 _ h4) s2
 | ret e =>
  refine⟨λst h=>?_,nh⟩;obtain⟨A,_,rfl,d⟩:=zC4 h;obtain⟨_,rfl,f⟩:=zEI d;replace h:=f;exact zP6 ((zCV o e).e _ h)
 | never=>exact⟨λst h=>(λH0 α0=>(zFf (X:=X) (st:=st)).imp λE B H r=>by obtain⟨M,s,o,Q,k,e,p⟩:=r;cases e),nh⟩
end
section
variable {P:Program}{w:World}{K:W.Frag}{mg:Str->Option Value}{base:Heap}{k:Nat}{J:Gm}{U:Dm}{bs:List Str}
def zHl {st:Stmt}(F:Fun K x qual st f fd)(sc:zAa N ps (zAA st))(e:cSs' (zAA st) N bs b (zAG st)=true)(g:GOk P w K mg base k J bs)(d:DmOk P w K mg base k U) :
  FnOk P w K mg base CX0 (k+1) f fd ps (spM K (zAi ps.length N.length (evSs' J U b))) :=
 zQR F sc λcdv A a s H E c =>
  (zJb ⟨⟨g,c,rfl,sc.nd,PassesOwn.never⟩,d⟩ (λ_=>rfl) b).2 _ e
def DmOk.mono (d:DmOk P w K mg base k U)(h:k<=j):DmOk P w K mg base j U:=λx F m=>(d x F m).mono h
noncomputable def Dm.add (U:Dm)(x:Str)(F:MF):Dm:=U++[(x,F)]
def DmOk.one (d:DmOk P w K mg base k U)(h:k<=j)(e:zL1 P w K mg base j x F (spec.lookup x)):DmOk P w K mg base j (U.add x F):=λy G z=>by
 rcases mem_append.mp z with z | z
 .exact (d y G z).mono h
 .grind
def DmOk.add {st:Stmt}(d:DmOk P w K mg base k U)(g:GOk P w K mg base k J bs)(F:Fun K x x st f fd)(sc:zAa N ps (zAA st))(a:cSs' (zAA st) N bs b (zAG st)=true)(m:mg x=some (.ref f))(c:zBJ K fd ps [])(e:spec.lookup x=none:=by decide +kernel) :
  DmOk P w K mg base (k+1) (U.add x (zAi ps.length N.length (evSs' J U b))):=d.one (Nat.le_succ k) (by rw[e];exact⟨f,fd,ps,zHl F sc a g d,m,F.kp,c⟩)
def DmOk.addM {st:Stmt}(d:DmOk P w K mg base k U)(g:GOk P w K mg base k J bs)(F:Fun K nm qual st f fd)(sc:zAa N ps (zAA st))(l:cSs' (zAA st) N bs b (zAG st)=true)(h:zBJ K fd ps [])(i:zBl K c C)(e:Cls K C)(j:Meth K C m f)(a:spec.lookup x=some (.mth c m)) :
  DmOk P w K mg base (k+1) (U.add x (zAi ps.length N.length (evSs' J U b))):=d.one (Nat.le_succ k) (by rw[a];exact⟨C,f,fd,ps,i,e,j,zHl F sc l g d,h⟩)
def DmOk.lift1 (d:DmOk P w K mg base k U)(g:GOk P w K mg base k J bs)(m:(x,F)∈J.fns)(h:spec.lookup x=none:=by decide +kernel):DmOk P w K mg base k (U.add x (zKb F)):=by
 obtain⟨f,e,b,c,i,j,a⟩:=g.fn x F m;exact d.one (le_refl _) (by rw[h];exact⟨f,e,b,DL.FnOk.lift c,i,j,a⟩)
def GOk.mono (g:GOk P w K mg base k J bs)(h:k<=j):GOk P w K mg base j J bs :=
 ⟨λx F m=>let ⟨f,fd,ps,h1,h2⟩:=g.fn x F m;⟨f,fd,ps,h1.mono h,h2⟩,g.cs,g.bt,trivial,trivial,trivial,λj L F e=>(g.lm j L F e).mono h,g.ob⟩
end
def zRC (d:H x=some (.ins C dx fs))(nd:zEd fs=false):zCf (fzH H) (fzH (upd H x o)):=λb u q n=>by
 obtain⟨c,a⟩:=zCa.mp q;by_cases e:b=x
 .grind
 .exact zCa.mpr ⟨by rw[zAS e];exact c,a⟩
def zAE.updI {K:W.Frag}(c:zAE K H T G)(f:H x=some (.ins C dx fs))(nd:zEd fs=false)(nm:mutF fs=false):zAE K (upd H x o) T G :=
 ⟨c.len,c.nd,λn a q=>let ⟨p,h1,h2⟩:=c.at_ n a q;⟨p,h1,by
  have b:p.1≠x:=λz=>by
   obtain⟨u,e,d⟩:=h2.some
   simp_all
   cases e;rw[show fz1 _=if mutF fs=true then none else some _ from rfl] at d;grind
  have:=h2.monoF (zRC (o:=o) f nd) (zAS b) [];rwa [append_nil] at this⟩⟩
noncomputable def zD2:List (Str×(Mst->Option MR))->Mst->Option (List W×Mem)
 | [],s=>some ([],s.G)
 | p::r,s=>(p.2 s).bind λw=>(zD2 r ⟨s.O,w.2⟩).map λz=>(w.1::z.1,z.2)
noncomputable def mkR (c:Str)(ns:List Str)(z:List W×Mem):MR:=if mutK ns=true then (.ob c ns z.2.length,z.2++[z.1]) else (.obj c ns z.1,z.2)
noncomputable def zFv (c:Str)(n:Nat)(L:List (Str×(Mst->Option MR))):MF:=λws G=>if ws.length=n then (zD2 L ⟨none::ws.map some,G⟩).map (mkR c (L.map (·.1))) else none
def iT (K:W.Frag)(C dx x:Addr)(H1:Hp)(α0:List CA)(σ0:St)(O:List (Option W))(full:List Str)(L:List (Str×(Mst->Option MR))):TS:=λE B H =>
 ∃ M G fs vs acc z,B=σ0/\H x=some (.ins C dx fs)/\x∉(α0++M).map (·.1)/\Kp H1 H/\zAE K H (α0++M) G/\fs.map (·.1)++L.map (·.1)=full/\((fs.map (·.1)).map λn=>fs.lookup n)=vs.map some/\DenWL K H (α0++M) acc vs/\zD2 L ⟨O,G⟩=some z /\
  ∀ M' H' fs' vs',x∉(α0++M').map (·.1)->Kp H1 H'->zAE K H' (α0++M') z.2->H' x=some (.ins C dx fs')->fs'.map (·.1)=full->(full.map λn=>fs'.lookup n)=vs'.map some->DenWL K H' (α0++M') (acc++z.1) vs'->E.nx σ0 H'
noncomputable def zO2 (full:List Str):Bool:=(List.range full.length).all λi=>!(zLY (full.take i))&&!(mutK (full.take i))
inductive zEp (X:Cx) (y:Str):List Stmt->List (Str×(Mst->Option MR))->Prop where
 | nil:zEp X y [] []
 | cons {f:Str} {e:Expr} {g:Mst->Option MR} {p p2 pos:Pos} {rest:List Stmt} {L:List (Str×(Mst->Option MR))} (h:GM X e g) (t:zEp X y rest L):zEp X y (.Assign [.Attribute (.Name y p) f p2] e pos::rest) ((f,g)::L)
theorem zFd {f:Str}{v:V}:∀ {fs:List (Str×V)},f∉fs.map (·.1)->putF f v fs=fs++[(f,v)]
 | [],_=>rfl
 | (g,u)::r,h=>by
  rw[map_cons,mem_cons,not_or] at h;unfold putF;rw[if_neg (λz=>h.1 z.symm),zFd h.2]
  rfl
def zMt {α0:List CA}{σ0:St}(cl:Cls X.K C)(na:∀ n∈full,zBT X.K C n)(nd:full.Nodup)(hp:zO2 full=true)(hl:full.length<=100)(n1:H1 x=none)
  (hy:X.N[0]?=some y) (vy:Vis X.env.scope y) (oy:okN y=true) (Z5:σ0[0]?=some (some (.ref x))) (r:σ0.length=O.length) (I:∀ (i:Nat) w,O[i]?=some (some w)->∃ v,σ0[i]?=some (some v)/\DenW X.K H1 α0 w v) :
  ∀ {j:List Stmt} {L:List (Str×(Mst->Option MR))},zEp X y j L->PSs X j (iT X.K C dx x H1 α0 σ0 O full L):=by
 intro j L h
 induction h with
 | nil =>
  refine zHE.imp λE B H k=>?_
  obtain⟨M,G,fs,T,A,z,u,Z,nx,J,Q,c,P,U,E,d⟩:=k;cases E;subst u;simp only[map_nil,append_nil] at c;exact d M H fs T nx J Q Z c (by rw[<- c];exact P) (by rw[append_nil];exact U)
 | @cons f e g p p2 pos rest L hg t ih =>
  refine(zFe (zRi (zDK hy vy (zCR oy).1 (zCR oy).2) hg (by cases e<;>rfl)) ih).imp λE B H l=>?_
  obtain⟨M,G,fs,T,A,z,u,Z,nx,J,Q,c,P,U,E,d⟩:=l;subst u;obtain⟨w,ew,E⟩:=bind_some E;obtain⟨z',ez,e3⟩:=yq.mp E;cases e3;have ms:MS X.K H (α0++M) G B O:=⟨Q,r,λi w q=>let ⟨v,q1,N⟩:=I i w q;⟨v,q1,N.mono J M⟩⟩;refine⟨α0++M,O,G,w,ms,ew,λv s F R c2 dv=>⟨.ref x,Z5,x,C,dx,fs,rfl,?_⟩⟩;have mf:f∈full:=by rw[<- c];simp
  have lf:fs.length < full.length:=by
   have:=congrArg List.length c;simp only[qQ,qy,xJ] at this;omega
  have tk:full.take fs.length=fs.map (·.1):=by
   rw[<- c,List.take_append_of_le_length (by rw[qy];exact le_refl _),List.take_of_length_le (by rw[qy];exact le_refl _)]
  have K:zEd fs=false/\mutF fs=false:=by
   unfold zO2 at hp;have:=all_eq_true.mp hp fs.length (mem_range.mpr lf);rw[tk,x9,Bool.not_eq_true',Bool.not_eq_true'] at this;exact this
  have D:=K.1;have a:s x=some (.ins C dx fs):=zBX _ _ (R _ _ (zIF Z K.2));have a8:x∉(α0++(M++F)).map (·.1):=by
   rw[<- q8];exact c2.out a (zCa.mp (zIF a K.2)).2
  have S:f∉fs.map (·.1):=by
   rw[<- c] at nd;have:=(List.nodup_append.mp nd).2.2;exact λm=>this f m f (by simp) rfl
  refine⟨a,cl,na f mf,by omega,?_⟩;have up:zCf (fzH s) (fzH (upd s x (.ins C dx (putF f v fs)))):=zRC a D;have tr:∀ {ws:List W} {us:List V},DenWL X.K s (α0++M++F) ws us->DenWL X.K (upd s x (.ins C dx (putF f v fs))) (α0++(M++F)) ws us:=λ{ws us} q=>by
   have:=q.monoF up [];rw[append_nil,q8] at this;exact this
  refine⟨M++F,w.2,putF f v fs,T++[v],A++[w.1],z',rfl,zAd,a8,λb o q=>?_,?_,?_,?_,?_,ez,λM' H' Y a9 a0 a1 a2 a3 a4 a5 a6=>d M' H' Y a9 a0 a1 a2 a3 a4 a5 (by simpa using a6)⟩
  .have N:=R _ _ (J _ _ q);have ne:b≠x:=λz=>by
    rw[z] at q;have:=zBX _ _ q;rw[n1] at this;cases this
   obtain⟨g1,g2⟩:=zCa.mp N;exact zCa.mpr ⟨by rw[zAS ne];exact g1,g2⟩
  .rw [<- q8];exact c2.updI a D K.2
  .rw [zFd S,x8,q8];exact c
  .have u:(putF f v fs).map (·.1)=fs.map (·.1)++[f]:=by rw[zFd S,x8];rfl
   rw[u,x8,x8,<- P];congr 1
   .refine map_congr_left λn hn=>?_
    rw[zB9,if_neg (λz=>S (by rw[<- z];exact hn))]
   .show [(putF f v fs).lookup f]=[some v];rw[zB9,if_pos rfl]
  .exact tr ((U.mono R F).append (.cons dv .nil))
noncomputable def zGv (sc:Scope)(N bs:List Str)(y:Str):List (Str×ME)->List Stmt->Bool
 | [],[]=>true
 | (f,m)::L,s::r=>(zCo s λz1 v _=>on1 z1 λz2=>zA2 z2 λo f' _=>zA0 o λy' _=>decide (y'=y)&&decide (f'=f)&&cM m sc N bs v)&&zGv sc N bs y L r
 | _,_=>false
section
variable {P:Program}{w:World}{K:W.Frag}{mg:Str->Option Value}{base:Heap}{k:Nat}{J:Gm}{U:Dm}{bs:List Str}
theorem zIZ (o:XOkM X k J U bs):∀ {L:List (Str×ME)} {sts:List Stmt},zGv X.env.scope X.N bs y L sts=true->zEp X y sts (L.map λp=>(p.1,evM J U p.2))
 | [],[],_=>.nil
 | [],_::_,h=>(zzf h)
 | _::_,[],h=>(zzf h)
 | (f,m)::L,s::r,h=>by
  unfold zGv at h;rw[x9] at h;obtain⟨h,h2⟩:=h;obtain⟨z1,_,_,rfl,hq1⟩:=zBf h;obtain⟨z2,rfl,hq2⟩:=zA1 hq1;obtain⟨_,_,_,rfl,hq3⟩:=zAm hq2;obtain⟨_,_,rfl,hq4⟩:=zAN hq3;simp only[x9,qj] at hq4;obtain⟨⟨rfl,rfl⟩,h4⟩:=hq4;exact .cons ((zCV o m).e _ h4) (zIZ o h2)
def zJO:∀ {fs:List (Str×V)},(fs.map (·.1)).Nodup->((fs.map (·.1)).map λn=>fs.lookup n)=(fs.map (·.2)).map some
 | [],_=>rfl
 | (n,v)::r,h=>by
  rw[map_cons,nodup_cons] at h;rw[map_cons,map_cons,map_cons,map_cons,<- zJO h.2];congr 1
  .show (match n==n with | true=>some v | false=>r.lookup n)=_;rw[beq_self_eq_true]
  .refine map_congr_left λm hm=>?_
   rw[lookup_cons];have:(m==n)=false:=beq_eq_false_iff_ne.mpr λz=>h.1 (z▸hm)
   rw[this]
def zFt {f C:Addr}{a c y:Str}{st:Stmt}{dV kV Y pm m ct oc:Value}{an od:Option Addr}{b1:Array (Option Value)}{ys:List Str}{L:List (Str×ME)}(lk:K.lookup f=some ⟨oc,od,.func (W.fnOf "__init__" a (zAb st) (zAG st) (zAA st) dV kV Y pm an m ct),b1⟩)
  (b4:W.codeIn K m a=true) (S:zAa (y::ys) (y::ys) (zAA st)) (vy:visB (zAA st) y=true) (oy:okN y=true) (ck:zGv (zAA st) (y::ys) bs y L (zAG st)=true) (g:GOk P w K mg base k J bs) (d:DmOk P w K mg base k U)
  (cn:zBl K c C) (cl:Cls K C) (na:∀ n∈L.map (·.1),zBT K C n) (nd:(L.map (·.1)).Nodup) (hp:zO2 (L.map (·.1))=true) (F:zLY (L.map (·.1))=true\/mutK (L.map (·.1))=true) (hl:(L.map (·.1)).length<=100) :
  FnOk P w K mg base CX0 (k+1) f (W.fnOf "__init__" a (zAb st) (zAG st) (zAA st) dV kV Y pm an m ct) (y::ys) (spI K C (zFv c ys.length (L.map λp=>(p.1,evM J U p.2)))):=by
 have l:(L.map λp=>(p.1,evM J U p.2)).map (·.1)=L.map (·.1):=by rw[map_map];rfl
 refine zTI lk b4 S (λvs H Q E h=>?_) λA B s H vs Q E hr h=>?_
 .obtain ⟨x,dx,H1,us,T,G,X,r,rfl,_,_,_,_,_,N,t,_⟩:=h;unfold zFv at t;by_cases q:X.length=ys.length
  .rw [xJ,<- N.length,q];rfl
  .rw [if_neg q] at t;cases t
 obtain⟨x,dx,H1,us,T,G,X,r,rfl,n1,n2,n3,rfl,cc,N,t,j⟩:=h;unfold zFv at t;have q:X.length=ys.length:=Classical.byContradiction λz=>by rw[if_neg z] at t;cases t
 rw[if_pos q] at t;obtain⟨z,ez,e3⟩:=yq.mp t;subst e3;have o:XOkM (cxOf CX0 P w K mg base (y::ys) a (zAA st) f m A B s (upd (upd H1 dx (.own x)) x (.ins C dx [])) E).nox k J U bs:=⟨⟨g,hr,rfl,S.nd,PassesOwn.never⟩,d⟩;have D:L2.zBy (y::ys) (.ref x::us)=some (.ref x)::us.map some:=by
  unfold L2.zBy;have:(y::ys).length - (V.ref x::us).length=0:=by rw[xJ,xJ,<- N.length,q];omega
  rw[this];simp
 refine⟨_,PSs.nox (zMt (σ0:=L2.zBy (y::ys) (.ref x::us)) (O:=none::X.map some) (α0:=T) (H1:=H1) (x:=x) (dx:=dx) cl na nd hp hl n1 rfl (zED vy) oy (by rw[D];rfl) (by rw[D,xJ,xJ,qy,qy,N.length]) (λi w e=>?_) (zIZ o ck)),?_⟩
 .cases i with
  | zero=>cases e
  | succ i =>
   have e':(X.map some)[i]?=some (some w):=e;rw[getElem?_map] at e';obtain⟨w',e1,e2⟩:=yq.mp e';cases e2;obtain⟨v,q1,q2⟩:=N.get e1;refine⟨v,?_,q2⟩;rw[D];show (us.map some)[i]?=_;rw[getElem?_map,q1];rfl
 .have sm:Same H1 (upd (upd H1 dx (.own x)) x (.ins C dx [])):=(zAe n2 _).trans (zAe (by rw[zAS (Ne.symm n3)];exact n1) _);refine⟨[],G,[],[],[],z,rfl,zAd,by rw[append_nil];exact cc.outN n1,zBO sm,by rw[append_nil];exact cc.same sm,l,rfl,.nil,ez,λM' Z b M a0 a1 a2 a3 R a5 a6=>?_⟩;rw[l] at j;by_cases mu:mutK (L.map (·.1))=true
  .have er:mkR c (L.map (·.1)) z=(.ob c (L.map (·.1)) z.2.length,z.2++[z.1]):=if_pos mu;rw[er] at j;have ev:M=b.map (·.2):=by
    rw[<- R,zJO (by rw[R];exact nd)] at a5;exact(List.map_inj_right (λ_ _ z=>xQ z)).mp a5.symm
   rw[ev] at a6;have em:mutF b=true:=by unfold mutF;rw[R];exact mu
   have a7:DenWL K Z (T++M'++[(x,.ins c (L.map (·.1)))]) z.1 (b.map (·.2)):=a6.mono (Kp.refl Z) _;refine j Z (M'++[(x,.ins c (L.map (·.1)))]) a1 ?_ ?_
   .rw [<- q8];exact a2.more a0 ⟨C,dx,b,a3,em,cn,R,a7⟩
   .rw [DenW,<- q8];exact⟨x,by rw[getElem?_append_right (by rw[a2.len];omega),a2.len,sub_self];rfl,rfl⟩
  .have er:mkR c (L.map (·.1)) z=(.obj c (L.map (·.1)) z.1,z.2):=if_neg mu;rw[er] at j;have F:=F.resolve_right mu;have hd:zEd b=true:=by unfold zEd;rw[R];exact F
   refine j Z M' a1 a2 ?_;rw[DenW];exact⟨x,M,rfl,⟨C,dx,b,zIF a3 (zIP hd),hd,cn,a5⟩,a6⟩
def zEe (d:fd.defaults=.ref T)(b:K.lookup T=some ⟨oc,od,.seq #[.none] n,sl⟩)(c:K.In s.heap)
  (a:bindArgs fd args=seqItems? fd.defaults>>=kk) (e:kk (some #[.none])=pure binds):BindsTo s fd args binds:=.of_defaults d (c _ _ b) rfl a e
def DmOk.addC (d:DmOk P w K mg base k U)(b:j < k)(e:spec.lookup x=some (.mk c kw))(m:mg c=some (.ref C))(M:Mk K C f)(a:FnOk P w K mg base CX0 j f fd ps (spI K C F))(b1:zBJ K fd ps [])(b2:kw ≠ ""->zBJ K fd ps [.none]/\KB K fd ps kw) :
  DmOk P w K mg base k (U.add x F):=d.one (le_refl k) (by rw[e];exact⟨j,C,f,fd,ps,b,m,M,a,b1,b2⟩)
end
theorem zEh :∀ (names:List (Str×NameKind)) (acc:List (Str×Addr)),(∀ p∈names,p.2=.free->∃ c,cs.lookup p.1=some c) ->
  ∃ cl,clos names cs acc=some cl/\cl.map (·.1)=((names.filter λp=>p.2==.free).map (·.1)).reverse++acc.map (·.1)/\∀ p∈cl,p∈acc\/cs.lookup p.1=some p.2
 | [],acc,_=>⟨acc,rfl,by simp,λp hp=>.inl hp⟩
 | (x,k)::names,acc,h=>by
  unfold clos;by_cases e:(k==NameKind.free)=true
  .obtain ⟨c,ec⟩:=h (x,k) q9 (eq_of_beq e);obtain⟨cl,h1,h2,h3⟩:=zEh names ((x,c)::acc) λp hp=>h p (qJ _ hp)
   dsimp only at ec;rw[if_pos e,ec];refine⟨cl,h1,?_,λp hp=>?_⟩
   .rw [h2,filter_cons];simp[e]
   .rcases h3 p hp with z | z
    .rcases mem_cons.mp z with z | z
     .right;rw[z];exact ec
     .exact .inl z
    .exact .inr z
  .obtain ⟨cl,h1,h2,h3⟩:=zEh names acc λp hp=>h p (qJ _ hp)
   rw[if_neg e];refine⟨cl,h1,?_,h3⟩;rw[h2,filter_cons];simp[e]
def zGK {cs:List (Str×Addr)}(inj:∀ x y c,cs.lookup x=some c->cs.lookup y=some c->x=y):∀ {cl:List (Str×Addr)},(∀ p∈cl,cs.lookup p.1=some p.2)->(cl.map (·.1)).Nodup->(cl.map (·.2)).Nodup
 | [],_,_=>by simp
 | p::cl,h,nd=>by
  rw[map_cons,nodup_cons] at nd ⊢;refine⟨λz=>?_,zGK inj (λq hq=>h q (qJ _ hq)) nd.2⟩;obtain⟨q,hq,e⟩:=mem_map.mp z;have h1:=h p q9;have h2:=h q (qJ _ hq);rw[e] at h2;exact nd.1 (mem_map.mpr ⟨q,hq,inj _ _ _ h2 h1⟩)
noncomputable def capD:List Nat->List (Option W)->Option (List D)
 | [],_=>some []
 | i::ix,O=>(match O[i]? with
  | some (some (.dat d))=>some d
  | some (some (.obj c ns l))=>some (dobj c ns l)
  | _=>none).bind λd=>(capD ix O).bind λds=>some (d::ds)
noncomputable def lamE (Fg:MF)(j:Nat)(L:LamI)(ix:List Nat)(ge:Mst->Option MR):Mst->Option MR:=λs=>(ge s).bind λw=>(capD ix s.O).bind λds=>if noLs ds=true then Fg [w.1,.dat (.lam j L ds)] w.2 else none
noncomputable def lamM (Fg:MF)(j:Nat)(L:LamI)(ix:List Nat)(np nN:Nat)(gp:Mst->Option OutM)(ge:Mst->Option MR):MF:=zAi np nN λs=>(gp s).bind λo=>match o with
 | .nx s'=>retM (lamE Fg j L ix ge) s'
 | _=>none
theorem zOe {K:W.Frag}(ms:MS K H T G B O):∀ {ix:List Nat} {ds:List D},capD ix O=some ds->∃ us,DenL K (fzH H) ds us/\us.length=ix.length/\∀ (k i:Nat),ix[k]?=some i->∃ v,us[k]?=some v/\B[i]?=some (some v)
 | [],ds,e=>by
  cases e;exact⟨[],.nil,rfl,λk i z=>by simp at z⟩
 | i::ix,ds,e=>by
  unfold capD at e;obtain⟨d,e0,e⟩:=bind_some e;obtain⟨ds',e1,e⟩:=bind_some e;cases e;obtain⟨us,h1,h2,h3⟩:=zOe ms e1;have hv:∃ v,B[i]?=some (some v)/\Den K (fzH H) d v:=by
   split at e0
   .rename_i d' q;cases e0;obtain⟨v,g1,g2⟩:=ms.get i _ q;rw[DenW] at g2;exact⟨v,g1,g2⟩
   .rename_i c ns l q;cases e0;obtain⟨v,g1,g2⟩:=ms.get i _ q;exact⟨v,g1,zIR g2⟩
   .cases e0
  obtain⟨v,g1,g2⟩:=hv;refine⟨v::us,.cons g2 h1,by rw[xJ,xJ,h2],λk i' z=>?_⟩;cases k with
  | zero =>
   have:i=i':=by simpa using z
   subst this;exact⟨v,rfl,g1⟩
  | succ k=>exact h3 k i' (by simpa using z)
theorem zGV {T M:Type}{R:T->M->Prop}:∀ {l:List T} {m:List M},l.length=m.length->(∀ (k:Nat) a b,l[k]?=some a->m[k]?=some b->R a b)->Paired R l m
 | [],[],_,_=>.nil
 | [],_::_,e,_=>by simp at e
 | _::_,[],e,_=>by simp at e
 | a::l,b::m,e,h=>.cons (h 0 a b (by simp) (by simp)) (zGV (by simpa using e) λk a' b' q1 q2=>h (k+1) a' b' (by simpa using q1) (by simpa using q2))
noncomputable def zFg (H:Hp)(h:Heap)(S:List Addr):Hp:=λb=>if b∈S then (h.get? b).map (λo=>.frz o anyU) else H b
section
variable {X:Cx}{pins:List (Addr×Obj)}{B:St}{H:Hp}{s:Shared}
def zNV (I:Inv X pins B H s){S:List Addr}(g:∀ b∈S,∃ y,X.env.cells.lookup y=some b)(j:∀ y,X.fn y=true) :
  Same H (zFg H s.heap S)/\(∀ b∈S,∃ o v,zFg H s.heap S b=some (.frz o anyU)/\s.heap.get? b=some o/\o.data=.cell v)/\(∀ b,b∉S->zFg H s.heap S b=H b)/\(∀ b∈S,X.O6.heap.objs.size<=b)/\Env0 X.prog X.w X.K X.mg X.base X.A X.stack s (zFg H s.heap S):=by
 have out:∀ {b:Addr},b∉S->zFg H s.heap S b=H b:=λz=>if_neg z
 have free:=λ{b} z=>let ⟨y,e⟩:=g b z;I.freeC y b e
 have l:∀ {b:Addr} {u:HO},H b=some u->b∉S:=λ{b u} e z=>by rw[free z] at e;cases e
 have f:Same H (zFg H s.heap S):=λb u e=>by rw[out (l e)];exact e
 have d:∀ b∈S,∃ o v,zFg H s.heap S b=some (.frz o anyU)/\s.heap.get? b=some o/\o.data=.cell v:=λb z=>by
  obtain⟨y,e⟩:=g b z;obtain⟨v,o,i,k⟩:=I.cell y b e;refine⟨o,v,?_,i,k⟩;unfold zFg
  simp_all
 have big:=λb z=>let ⟨y,e⟩:=g b z;I.ok.cab y b (j y) e
 have a:=I.env0;refine⟨f,d,λb z=>out z,big,⟨a.frames,a.mod,λb o e=>⟨(a.bs b o e).1,?_⟩,a.bsz,a.funs,λb z=>?_,λb u e=>?_,a.bare,a.tree,λx n c P e=>f _ _ (a.tabs x n c P e)⟩⟩
 .have h:b∉S:=λz=>absurd (lt_size e) (Nat.not_lt.mpr (le_trans I.ok.bsz (big b z)))
  rw[out h];exact(a.bs b o e).2
 .have h:b∉S:=λz2=>by
   rcases mem_cons.mp (I.stkSub b z) with q | q
   .obtain ⟨y,e⟩:=g b z2;exact I.cne y b e q
   .obtain ⟨_,o,i,_⟩:=I.ok.funs.mem q;exact absurd (lt_size i) (Nat.not_lt.mpr (big b z2))
  rw[out h];exact a.frf b z
 .by_cases z:b∈S
  .obtain ⟨o,v,m,r,_⟩:=d b z;rw[m] at e;cases e;exact zEY r
  .rw [out z] at e;exact(I.hok b u e).stay (λ_ _ _ q=>q) (λ_ q=>f _ _ q) (λ_ _ q=>f _ _ q) λ_ _ _ q _=>f _ _ q
end
def zOk {S:List Addr}(c:Un fs [] H H1 h h1)(big:∀ b∈S,h.objs.size<=b)(t:h.objs.size<=L)(i:Same H1 H2)(out:∀ b,b∉S->H2 b=H1 b)(d:Un (L::fs) [] H2 H' h1 h'):Un fs [] H H' h h':=by
 have r:∀ {b:Addr} {o:Obj},h.get? b=some o->b∉S:=λ{b o} e z=>absurd (lt_size e) (Nat.not_lt.mpr (big b z))
 have s:∀ {b:Addr} {o:Obj},h.get? b=some o->b≠L:=λ{b o} e z=>absurd (lt_size e) (Nat.not_lt.mpr (by simp_all))
 have k:∀ {b:Addr} {o:Obj},h.get? b=some o->H b=none->H2 b=none:=λ{b o} e n=>by rw[out b (r e)];exact c.free b o e n (by simp)
 refine⟨λb o e n f a=>d.keep b o (c.keep b o e n f a) (k e n) (λz=>(mem_cons.mp z).elim (s e) f) a,λb o e n f a=>?_,λb o e n a=>?_,λb o e a=>?_,λb m e=>d.tups b m (i _ _ (c.tups b m e)),λb o u e=>d.frzs b o u (i _ _ (c.frzs b o u e)),λb q e=>d.tbls b q (i _ _ (c.tbls b q e))⟩
 .obtain ⟨sl,g⟩:=c.slot b o e n f a;obtain⟨j,p⟩:=d.slot b _ g (k e n) (qJ _ f) a;exact⟨j,p⟩
 .obtain ⟨l,g⟩:=c.there b o e a;exact d.free b l g (k e n) a
 .obtain ⟨l,g⟩:=c.there b o e a;exact d.there b l g a
structure zEo (K:W.Frag)(x:Str)(st:Stmt)(f:Addr)(N:List Str)(pre:List Stmt)(e:Expr)(g:Str)(L:LamI)(ix:List Nat):Prop where
 body:∃ q1 lp cp rp,zAG st=pre++[.Return (some (.Call (.Name g q1) [e,.Lambda L.params L.body L.scope lp] [] cp)) rp]
 star:zAY e=true
 qual:L.qual=x ++ ".<locals>." ++ "<lambda>"
 lam:x∈zBt
 fnq:zF2 K x=some f
 tab:∃ c P,tabQ K x=some (c,P)
 gl:glB (zAA st) g=true
 okg:okN g=true
 dflt:∀ env,defaultsOf L.params env=([],[])
 nd:(frN L).Nodup
 len:ix.length=(frN L).length
 cap:∀ (k:Nat) y,(frN L)[k]?=some y->∃ i,ix[k]?=some i/\N[i]?=some y/\(zAA st).names.lookup y=some .cell
 free:∀ p∈L.scope.names,p.2=.free->p.1∈frN L
def PS.nox {st:Stmt}(h:PS X.nox st t):PS X st t:=λpins s B H D I b =>
 wpAny_mono (h pins s B H D (I.wish _) b) (λ_ _ q=>q.unwish) λ_ _ z=>False.elim z
def zPn {K:W.Frag}{st:Stmt}(F:Fun K nm x st f fd)(sc:zAa N ps (zAA st))(B:zEo K x st f N pre e g L ix)
  (b9:(pre=[]/\gp=λs=>some (.nx s))\/∃ s1,pre=[s1]/\∀ cdv A outer s H E,Room k (A.deeper (envOfC x (zAA st) s.heap.objs.size f cdv))->GSM (cxOf CX0 P w K mg base N x (zAA st) f cdv A outer s H E).nox s1 gp)
  (he:∀ cdv A outer s H E,Room k (A.deeper (envOfC x (zAA st) s.heap.objs.size f cdv))->GM (cxOf CX0 P w K mg base N x (zAA st) f cdv A outer s H E).nox e ge)
  (gg:FnOk P w K mg base CX0 k fg fdg psg (spM K Fg)) (g7:mg g=some (.ref fg)) (kg:W.keepIn K (.ref fg)=true) (bg:zBJ K fdg psg []):FnOk P w K mg base CX0 (k+1) f fd ps (spM K (lamM Fg j L ix ps.length N.length gp ge)):=by
 obtain⟨oc,od,kV,n3,pm,an,cdv,ct,n6,rfl,lk,i0⟩:=F.ex;have a4:∀ vs H Q E,spM K (lamM Fg j L ix ps.length N.length gp ge) vs H Q E->vs.length=ps.length:=λvs H Q E h=>by
  obtain⟨T,G,ws,r,c,d,V,n⟩:=h;unfold lamM zAi at V;by_cases q:ws.length=ps.length/\ps.length<=N.length
  .rw [<- d.length];exact q.1
  .rw [if_neg q] at V;cases V
 refine⟨a4,λA outer s H i7 us vs Q E hr e0 hb r d0=>?_⟩;have hl:=a4 _ _ _ _ d0;have KX:K.In s.heap:=e0.mod.kin.keeps λb o e=>(e0.bs b o e).1
 have g5:s.heap.NoLimit:=e0.mod.nolimit.keeps λb o e=>(e0.bs b o e).1
 have a9:∀ y∈ps.zip us,(zAA st).names.lookup y.1=some .local\/((zAA st).names.lookup y.1=some .cell/\((cellsFrom (s.heap.objs.size+1) (zAA st).names []).lookup y.1).isSome=true):=λzz107 hy=>by
  obtain⟨n,v⟩:=zz107;rcases sc.par n (of_mem_zip hy).1 with q | q
  .exact .inl q
  .exact .inr ⟨q,W.cellsFrom_some _ _ _ (.inl q)⟩
 refine codeAny_call_function hr.depth (KX _ _ lk) rfl sc.co sc.gen rfl (W.codeRec_of KX i0) (hb _ _ _ _ ?_);refine wpAny_newFunctionEnv_cells sc.kind a9 λenv f8 s1 xx=>?_
 subst f8;refine⟨g5.keeps xx.toInCall.keep,codeAny_func ?_⟩;have I:Inv (cxOf CX0 P w K mg base N x (zAA st) f cdv A outer s H E) [] (zBy N vs) H s1:=zGg sc hr.hd (by have:=hr.dp;show A.depth+1+100 < _;omega) e0 hl r xx;have a8:Room k (cxOf CX0 P w K mg base N x (zAA st) f cdv A outer s H E).A:=hr.deeper _;obtain⟨q1,lp,cp,rp,eb⟩:=B.body;obtain⟨T,G,ws,rr,cc,dw,V,i1⟩:=d0;unfold lamM zAi at V;have hq:ws.length=ps.length/\ps.length<=N.length:=Classical.byContradiction λz=>by rw[if_neg z] at V;cases V
 rw[if_pos hq] at V;obtain⟨o,eo,V⟩:=bind_some V;obtain⟨o1,b7,S⟩:=bind_some (show ((gp _).bind _)=some o from eo);have e3:MS K H T G (zBy N vs) (ws.map some++List.replicate (N.length - ps.length) none):=by
  have:=zH9 (N:=N) cc dw (by rw[hq.1];exact hq.2);rwa [hq.1] at this
 obtain⟨c0,P0,U⟩:=B.tab;have b0:cdv=.ref c0:=zJT U B.fnq lk;have f5:∀ (a:Mst) (s1:Shared) (B1:St) (t:Hp) (O3:List CA),Inv (cxOf CX0 P w K mg base N x (zAA st) f cdv A outer s H E) [] B1 t s1->MS K t (T++O3) a.G B1 a.O->Kp H t->lamE Fg j L ix ge a=some rr ->
   wpAny (model P w) (cxOf CX0 P w K mg base N x (zAA st) f cdv A outer s H E).A (eval (.Call (.Name g q1) [e,.Lambda L.params L.body L.scope lp] [] cp) (cxOf CX0 P w K mg base N x (zAA st) f cdv A outer s H E).env) (λu Z=>CE outer P w H s Q u Z) (cxOf CX0 P w K mg base N x (zAA st) f cdv A outer s H E).xe s1:=by
  intro a s1 B1 t O3 I ms a7 J;obtain⟨wv,ew,J⟩:=bind_some J;obtain⟨ds,d9,J⟩:=bind_some J;have c1:noLs ds=true:=Classical.byContradiction λz=>by rw[if_neg z] at J;cases J
  rw[if_pos c1] at J;obtain⟨a1,b8,c5,c8⟩:=zOe ms d9;refine wpAny_Call_Name_kw (zET I (zFA B.gl) g7 ?_ (zCR B.okg).1);refine W.callWith_K (h₀:=base) I.ok.mod.kin kg ?_ (zAC B.star) rfl;rw[zAC B.star];show wpAny _ _ (spliced ((false,eval e _)::backTo cp (starEach [.Lambda L.params L.body L.scope lp] _))) _ _ s1;refine Calls.spliced_cons (thn (PE.nox (he cdv A outer s H E a8) [] s1 B1 t (λy H2=>∃ O4,Kp t H2/\zAE K H2 (T++O3++O4) wv.2/\DenW K H2 (T++O3++O4) wv.1 y) I ⟨T++O3,a.O,a.G,wv,ms,ew,λv H2 O4 k2 c2 d2=>⟨O4,k2,c2,d2⟩⟩) λu0 s2 a5=>?_);obtain⟨y,H2,I1,r1,O4,d5,c2,dy⟩:=a5;have kc:∀ {y:Str},y∈frN L->(zAA st).names.lookup y=some .cell:=λ{y} my=>by
   obtain⟨kk,hk,e⟩:=List.getElem_of_mem my;obtain⟨_,_,_,q⟩:=B.cap kk y (by rw[getElem?_eq_getElem hk,e]);exact q
  obtain⟨cl,g0,i2,g3⟩:=zEh (cs:=(cxOf CX0 P w K mg base N x (zAA st) f cdv A outer s H E).env.cells) L.scope.names [] λp hp hf=>I1.ok.has p.1 (.inl (kc (B.free p hp hf)))
  have C:cl.map (·.1)=frN L:=by rw[i2];unfold frN;simp
  have O:∀ p∈cl,(cxOf CX0 P w K mg base N x (zAA st) f cdv A outer s H E).env.cells.lookup p.1=some p.2:=λp hp=>(g3 p hp).elim (λz=>absurd z (by simp)) id
  have e4:(cl.map (·.2)).Nodup:=zGK I1.ok.inj O (by rw[C];exact B.nd);show wpAny _ _ (spliced ((false,eval (.Lambda L.params L.body L.scope lp) _)::backTo cp (starEach [] _))) _ _ s2;refine Calls.spliced_cons (zMq I1 (B.dflt _) g0 b0 (e0.mod.codes x B.lam c0 P0 U) (I1.tabs x B.lam c0 P0 U) λf' c' g9 h1 g6 u1 H3 s3 sm nf hf f6 co I2=>?_);refine Calls.spliced_nil ⟨I2.kIn,?_⟩;have hS:∀ b∈cl.map (·.2),∃ y,(cxOf CX0 P w K mg base N x (zAA st) f cdv A outer s H E).env.cells.lookup y=some b:=λb z=>by
   obtain⟨p,hp,rfl⟩:=mem_map.mp z;exact⟨p.1,O p hp⟩
  obtain⟨R,d8,out,big,e2⟩:=zNV I2 hS λ_=>rfl
  obtain⟨Y,h0⟩:∃ Y:Hp,Y=zFg H3 s3.heap (cl.map (·.2)):=⟨_,rfl⟩;rw[<- h0] at R d8 out e2;have X:Same H2 Y:=sm.trans R;have b1:zBV Y cl a1:=by
   have lc:cl.length=a1.length:=by
    have:=congrArg List.length C;rw[qy] at this;rw[c5,B.len,this]
   refine zGV lc λkk p v' g1 g2=>?_
   have gy:(frN L)[kk]?=some p.1:=by rw[<- C,getElem?_map,g1];rfl
   obtain⟨i,ei,f4,c9⟩:=B.cap kk p.1 gy;obtain⟨v2,gv,h9⟩:=c8 kk i ei;rw[g2] at gv;cases gv;obtain⟨mm,hn,d1⟩:=I2.loc;obtain⟨uu,ru,lo⟩:=d1 i p.1 v' f4 h9 (.inr (.inl c9));obtain⟨o,m6,k1,k2,k3⟩:=d8 p.2 (mem_map.mpr ⟨p,mem_of_getElem? g1,rfl⟩);rcases lo with ⟨q,_⟩ | ⟨_,c2,e1,o2,ho2,hd2⟩
   .have q':(zAA st).names.lookup p.1=some .local:=q;rw[c9] at q';cases q'
   .rw [O p (mem_of_getElem? g1)] at e1;cases e1;rw[k2] at ho2;cases ho2;exact⟨o,uu,k1,hd2,ru⟩
  have la:zD6 Y L f' a1:=⟨cl,h1,c',g9,g6,u1,by rw[B.qual];exact R _ _ hf,R _ _ f6,by rw[B.qual];exact co,C,e4,b1⟩;have dl:DenW K Y (T++O3++O4) (.dat (.lam j L ds)) (.ref f'):=by
   rw[DenW];refine Den.fz (by rw[noL];exact c1) ?_;rw[Den];exact⟨f',a1,rfl,la,b8.mono (Same.trans d5 (zBX.trans X))⟩
  have c7:Vals [y,.ref f'] [u0,.ref f']:=.cons r1 (.cons rfl .nil);have h7:DenWL K Y (T++O3++O4) [wv.1,.dat (.lam j L ds)] [y,.ref f']:=.cons (dy.keep (zBO X)) (.cons dl .nil);have c6:spM K Fg [y,.ref f'] Y Q E:=⟨T++O3++O4,wv.2,_,rr,c2.same X,h7,J,λv H' M k3 c3 d3=>i1 v H' (O3++(O4++M)) (Same.trans a7 (Same.trans d5 (Same.trans (zBO X) k3))) (by rw[<- q8,<- q8];exact c3) (by rw[<- q8,<- q8];exact d3)⟩;have h8:([u0,.ref f']:List Value).length=psg.length:=by rw[<- c7.length];exact gg.len _ _ _ _ c6
  have bt:=bg s3 [u0,.ref f'] I2.kIn (by simpa using h8);refine wpAny_call (codeAny_mono (gg.run _ _ s3 Y _ _ _ Q E a8 e2 bt (by simpa using c7) c6) λr' Z hq=>?_);cases r' with
  | error e=>exact hq.elim
  | ok fl =>
   cases fl with
   | ret u =>
    obtain⟨v,H',os,d4,un,d7,rv,q⟩:=hq;exact⟨v,H',os.trans I2.os,d4,zOk I2.base big (le_refl _) R out un,d7,rv,q⟩
   | next=>exact False.elim hq
   | brk=>exact False.elim hq
   | cont=>exact False.elim hq
 have a2:∀ (a:Mst) (s1:Shared) (B1:St) (t:Hp) (O3:List CA),Inv (cxOf CX0 P w K mg base N x (zAA st) f cdv A outer s H E) [] B1 t s1->MS K t (T++O3) a.G B1 a.O->Kp H t->retM (lamE Fg j L ix ge) a=some o ->
   wpAny (model P w) (cxOf CX0 P w K mg base N x (zAA st) f cdv A outer s H E).A (execs [.Return (some (.Call (.Name g q1) [e,.Lambda L.params L.body L.scope lp] [] cp)) rp] (cxOf CX0 P w K mg base N x (zAA st) f cdv A outer s H E).env) (λfl Z=>∃ u,fl=.ret u/\CE outer P w H s Q u Z) (cxOf CX0 P w K mg base N x (zAA st) f cdv A outer s H E).xe s1:=by
  intro a s1 B1 t O3 I ms a7 J;obtain⟨r1,er,J⟩:=bind_some J;cases J;cases V;refine wpAny_execs_cons (wpAny_Return_some (thn (f5 a s1 B1 t O3 I ms a7 er) λu Z h=>?_));exact⟨u,rfl,h⟩
 have h2:wpAny (model P w) (cxOf CX0 P w K mg base N x (zAA st) f cdv A outer s H E).A (execs (zAG st) (cxOf CX0 P w K mg base N x (zAA st) f cdv A outer s H E).env) (λfl Z=>∃ u,fl=.ret u/\CE outer P w H s Q u Z) (cxOf CX0 P w K mg base N x (zAA st) f cdv A outer s H E).xe s1:=by
  rw[eb];rcases b9 with ⟨rfl,rfl⟩ | ⟨st1,rfl,hs1⟩
  .cases b7;exact a2 _ s1 _ H [] I (by rw[append_nil];exact e3) (Kp.refl H) S
  .show wpAny _ _ (execs (st1::[_]) _) _ _ s1;have g4:=PS.nox (hs1 cdv A outer s H E a8 H T) [] s1 (zBy N vs) H { nx:=λB1 t=>∃ a O3,MS K t (T++O3) a.G B1 a.O/\Kp H t/\retM (lamE Fg j L ix ge) a=some o,rt:=λ_ _=>False } I ⟨[],⟨_,G⟩,o1,by rw[append_nil];exact e3,Kp.refl H,b7,by
    cases o1 with
    | nx a=>exact λO3 B1 t m k=>⟨a,O3,m,k,S⟩
    | rt r1=>cases S
    | bk _=>cases S
    | ct _=>cases S⟩
   refine wpAny_execs_cons (thn g4 λfl s2 q=>?_);cases fl with
   | next =>
    obtain⟨B1,t,I1,a,O3,m,k,e⟩:=q;exact a2 a s2 B1 t O3 I1 m k e
   | brk=>obtain⟨_,_,_,q⟩:=q;exact q.elim
   | cont=>obtain⟨_,_,_,q⟩:=q;exact q.elim
   | ret u=>obtain⟨_,_,_,_,_,q⟩:=q;exact q.elim
 refine wpAny_mono h2 (λfl Z a6=>?_) λe Z hs=>hs
 obtain⟨u,e,h⟩:=a6;subst e;exact h
noncomputable def zUU (x:Str)(s:Stmt):LamI:=match s with
 | .Return (some (.Call _ [_,.Lambda a b c _] _ _)) _=>⟨x ++ ".<locals>." ++ "<lambda>",a,b,c⟩
 | s=>⟨x,zAb s,.Name x ⟨0,0,0,0⟩,zAA s⟩
noncomputable def zPo (x:Str)(st:Stmt):LamI:=zUU x ((zAG st).getLast?.getD (.Pass ⟨0,0,0,0⟩))
noncomputable def zEU (st:Stmt):Expr:=match (zAG st).getLast?.getD (.Pass ⟨0,0,0,0⟩) with
 | .Return (some (.Call _ [e,_] _ _)) _=>e
 | _=>.Name "" ⟨0,0,0,0⟩
noncomputable def lamB (x:Str)(ys:List Str)(L:LamI):Bool:=(L.scope.kind==.function)&&!L.scope.isCoroutine&&!L.scope.isGenerator&&decide (x::ys).Nodup&&(L.scope.names.lookup x==some .local)&&ys.all (λy=>L.scope.names.lookup y==some .free)&&L.scope.names.all (λp=>!(p.2==.free)||ys.contains p.1)&&L.scope.names.all (λp=>!(p.2==.cell))&&decide (frN L=ys)
def zFq (h:lamB x ys L=true)(a:∀ cl pm c ctv u,bindArgs (W.kla_fn "<lambda>" L.qual L.params L.body L.scope cl pm c ctv) ⟨[u],[]⟩=pure [(x,u)]):zG4 x ys L/\frN L=ys:=by
 unfold lamB at h;simp only[x9,Bool.not_eq_true',qj,all_eq_true,Bool.or_eq_true,beq_iff_eq,List.contains_iff_mem,beq_eq_false_iff_ne] at h;obtain⟨⟨⟨⟨⟨⟨⟨⟨h1,h2⟩,h3⟩,h4⟩,h5⟩,h6⟩,h7⟩,h8⟩,h9⟩:=h;refine⟨⟨h1,h2,h3,h4,h5,h6,λy e=>?_,h8,a⟩,h9⟩;rcases h7 _ (PySem.mem_of_lookup e) with z | z
 .simp_all
 .omega
def zF0 (L:LamI):∀ p∈L.scope.names,p.2=.free->p.1∈frN L:=λp b a=>by
 unfold frN;rw[List.mem_reverse];exact mem_map.mpr ⟨p,mem_filter.mpr ⟨b,by rw[a];rfl⟩,rfl⟩
noncomputable def capB (sc:Scope)(ps ys:List Str)(ix:List Nat):Bool:=decide (ix.length=ys.length)&&(List.range ys.length).all λk=>match ys[k]?,ix[k]? with
 | some y,some i=>decide (ps[i]?=some y)&&(sc.names.lookup y==some .cell)
 | _,_=>false
def zLj (h:capB sc ps ys ix=true):ix.length=ys.length/\∀ (k:Nat) y,ys[k]?=some y->∃ i,ix[k]?=some i/\ps[i]?=some y/\sc.names.lookup y=some .cell:=by
 unfold capB at h;rw[x9,qj,all_eq_true] at h;refine⟨h.1,λk y e=>?_⟩;have a:=(zzg e).1;have z:=h.2 k (mem_range.mpr a);have c:k < ix.length:=by rw[h.1];exact a
 have b:=getElem?_eq_getElem c;rw[e,b] at z;rw[x9,qj,beq_iff_eq] at z;exact⟨_,b,z.1,z.2⟩
noncomputable def cPre (sc:Scope)(N bs:List Str):MT->List Stmt->Bool
 | .nil,[]=>true
 | .cons a .nil,[s]=>cS' sc N bs a s
 | _,_=>false
def zF4 (J:Gm)(U:Dm):MT->Mst->Option OutM
 | .cons a _=>evS' J U a
 | _=>λs=>some (.nx s)
section
variable {P:Program}{w:World}{K:W.Frag}{mg:Str->Option Value}{base:Heap}{k:Nat}{J:Gm}{U:Dm}{bs:List Str}
def zOG {st:Stmt}(d:DmOk P w K mg base k U)(p:GOk P w K mg base k J bs)(F:Fun K nm x st f fd)(sc:zAa N ps (zAA st))(i:zEo K x st f N pre e g L ix)
  (h:cPre (zAA st) N bs mp pre=true) (u:cM me (zAA st) N bs e=true) (mem:(g,Fg)∈U) (r:spec.lookup g=none):FnOk P w K mg base CX0 (k+1) f fd ps (spM K (lamM Fg j L ix ps.length N.length (zF4 J U mp) (evM J U me))):=by
 have D:=d g Fg mem;rw[r] at D;obtain⟨y,t,q,l,v,m,n⟩:=D;have o:∀ cdv A a s H E,Room k _->XOkM (cxOf CX0 P w K mg base N x (zAA st) f cdv A a s H E).nox k J U bs:=λcdv A a s H E c=>⟨⟨p,c,rfl,sc.nd,PassesOwn.never⟩,d⟩
 refine zPn F sc i ?_ (λcdv A a s H E c=>(zCV (o cdv A a s H E c) me).e _ u) l v m n;unfold cPre at h;split at h
 .exact .inl ⟨rfl,rfl⟩
 .exact .inr ⟨_,rfl,λcdv A a s H E c=>(zJb (o cdv A a s H E c) (λ_=>rfl) _).1 _ h⟩
 .cases h
def DmOk.addF {st:Stmt}(d:DmOk P w K mg base k U)(l:GOk P w K mg base k J bs)(F:Fun K x x st f fd)(sc:zAa N ps (zAA st))(i:zEo K x st f N pre e g L ix)
  (n:cPre (zAA st) N bs mp pre=true) (b:cM me (zAA st) N bs e=true) (m:mg x=some (.ref f)) (h:zBJ K fd ps []) (mem:(g,Fg)∈U) (c:spec.lookup g=none:=by decide +kernel) (a:spec.lookup x=none:=by decide +kernel) :
  DmOk P w K mg base (k+1) (U.add x (lamM Fg j L ix ps.length N.length (zF4 J U mp) (evM J U me))):=d.one (Nat.le_succ k) (by rw[a];exact⟨f,fd,ps,zOG d l F sc i n b mem c,m,F.kp,h⟩)
def DmOk.addFM {st:Stmt}(d:DmOk P w K mg base k U)(i:GOk P w K mg base k J bs)(F:Fun K nm x st f fd)(sc:zAa N ps (zAA st))(n:zEo K x st f N pre e g L ix)
  (b:cPre (zAA st) N bs mp pre=true) (a:cM me (zAA st) N bs e=true) (p:zBJ K fd ps []) (mem:(g,Fg)∈U) (o:zBl K c C) (r:Cls K C) (q:Meth K C m f) (l:spec.lookup x=some (.mth c m)) (h:spec.lookup g=none:=by decide +kernel) :
  DmOk P w K mg base (k+1) (U.add x (lamM Fg j L ix ps.length N.length (zF4 J U mp) (evM J U me))):=d.one (Nat.le_succ k) (by rw[l];exact⟨C,f,fd,ps,o,r,q,zOG d i F sc n b a mem h,p⟩)
end
def tabs_of {K:W.Frag}{a:List (Str×Addr×Addr)}(h1:tabQ K "thinned_covers"=a.lookup ("thinned_covers":Str))(h2:tabQ K "Fill.films"=a.lookup ("Fill.films":Str))(h3:tabQ K "Join.films"=a.lookup ("Join.films":Str))(h4:tabQ K "Group.films"=a.lookup ("Group.films":Str)):∀ x∈zBt,tabQ K x=a.lookup x:=by
 intro x b;simp only[zBt,mem_cons,not_mem_nil,or_false] at b;rcases b with rfl | rfl | rfl | rfl
 .omega
 .omega
 .omega
 .omega
def zKd (h1:ds.length=n+1)(h2:noFs ds=true)(h:EvP (G (ds.map λd=>some (d,false))) Q):EvP (lamD n G ds) Q:=by
 obtain⟨r,e,q⟩:=h;exact⟨r,by unfold lamD;rw[if_pos ⟨h1,h2⟩];exact e,q⟩
noncomputable def scB (N P:List Str)(sc:Scope):Bool:=(sc.kind==.function)&&!sc.isCoroutine&&!sc.isGenerator&&decide N.Nodup&&decide (N.take P.length=P)&&P.all (λx=>sc.names.lookup x==some .local||sc.names.lookup x==some .cell)&&sc.names.all λy=>!(y.2==.free)
def zJl (h:scB N P sc=true):zAa N P sc:=by
 unfold scB at h;simp only[x9,Bool.not_eq_true',qj,all_eq_true,Bool.or_eq_true,beq_iff_eq,beq_eq_false_iff_ne] at h;obtain⟨⟨⟨⟨⟨⟨h1,h2⟩,h3⟩,h4⟩,h5⟩,h6⟩,h7⟩:=h;exact⟨h1,h2,h3,h4,h5,h6,h7⟩
noncomputable def dB (st:Stmt)(n:Nat)(N bs:List Str)(b:S):Bool:=scB N (N.take n) (zAA st)&&cSs (zAA st) N bs b (zAG st)
noncomputable def dM (st:Stmt)(n:Nat)(N bs:List Str)(b:MT):Bool:=scB N (N.take n) (zAA st)&&cSs' (zAA st) N bs b (zAG st)
structure FT (K:W.Frag)(x:Str)(st:Stmt)(f:Addr):Prop where
 a:W.nsIn K mainGlobals x=some (some (.ref f))
 F:∃ fd,Fun K x x st f fd
def ft {K:W.Frag}{st:Stmt}{kV:Value}(a:W.nsIn K mainGlobals x=some (some (.ref f)))(l:K.lookup f=some ⟨oc,od,.func (W.fnOf x x (zAb st) (zAG st) (zAA st) .none kV dc pm an cd ct),sl⟩)(c:W.codeIn K cd x=true)(k:W.keepIn K (.ref f)=true):FT K x st f:=⟨a,_,zK1 l c k⟩
def bO (x q:Str)(st:Stmt)(ps:List Str):Prop:=∀ (kV doc pm:Value) (an:Option Addr) (cdv ct:Value) (us:List Value),us.length=ps.length->bindArgs (W.fnOf x q (zAb st) (zAG st) (zAA st) .none kV doc pm an cdv ct) ⟨us,[]⟩=pure (ps.zip us)
def bz0 {st:Stmt}(a:ps.length=0)(h:∀ {kV doc pm:Value} {an:Option Addr} {cdv ct:Value},bindArgs (W.fnOf x q (zAb st) (zAG st) (zAA st) .none kV doc pm an cdv ct) ⟨[],[]⟩=pure (ps.zip [])):bO x q st ps:=λ_ _ _ _ _ _ us b=>by cases List.eq_nil_of_length_eq_zero (b.trans a);exact h
def bz1 {st:Stmt}(b:ps.length=1)(h:∀ {kV doc pm:Value} {an:Option Addr} {cdv ct a:Value},bindArgs (W.fnOf x q (zAb st) (zAG st) (zAA st) .none kV doc pm an cdv ct) ⟨[a],[]⟩=pure (ps.zip [a])):bO x q st ps:=λ_ _ _ _ _ _ us c=>by replace c:=c.trans b;(iterate 1 rcases us with _|⟨_,us⟩;cases c;replace c:=Nat.succ.inj c);cases List.eq_nil_of_length_eq_zero c;exact h
def bz2 {st:Stmt}(d:ps.length=2)(h:∀ {kV doc pm:Value} {an:Option Addr} {cdv ct a b:Value},bindArgs (W.fnOf x q (zAb st) (zAG st) (zAA st) .none kV doc pm an cdv ct) ⟨[a,b],[]⟩=pure (ps.zip [a,b])):bO x q st ps:=λ_ _ _ _ _ _ us c=>by replace c:=c.trans d;(iterate 2 rcases us with _|⟨_,us⟩;cases c;replace c:=Nat.succ.inj c);cases List.eq_nil_of_length_eq_zero c;exact h
def bz3 {st:Stmt}(e:ps.length=3)(h:∀ {kV doc pm:Value} {an:Option Addr} {cdv ct a b c:Value},bindArgs (W.fnOf x q (zAb st) (zAG st) (zAA st) .none kV doc pm an cdv ct) ⟨[a,b,c],[]⟩=pure (ps.zip [a,b,c])):bO x q st ps:=λ_ _ _ _ _ _ us d=>by replace d:=d.trans e;(iterate 3 rcases us with _|⟨_,us⟩;cases d;replace d:=Nat.succ.inj d);cases List.eq_nil_of_length_eq_zero d;exact h
def bz4 {st:Stmt}(f:ps.length=4)(h:∀ {kV doc pm:Value} {an:Option Addr} {cdv ct a b c d:Value},bindArgs (W.fnOf x q (zAb st) (zAG st) (zAA st) .none kV doc pm an cdv ct) ⟨[a,b,c,d],[]⟩=pure (ps.zip [a,b,c,d])):bO x q st ps:=λ_ _ _ _ _ _ us e=>by replace e:=e.trans f;(iterate 4 rcases us with _|⟨_,us⟩;cases e;replace e:=Nat.succ.inj e);cases List.eq_nil_of_length_eq_zero e;exact h
def bz5 {st:Stmt}(g:ps.length=5)(h:∀ {kV doc pm:Value} {an:Option Addr} {cdv ct a b c d e:Value},bindArgs (W.fnOf x q (zAb st) (zAG st) (zAA st) .none kV doc pm an cdv ct) ⟨[a,b,c,d,e],[]⟩=pure (ps.zip [a,b,c,d,e])):bO x q st ps:=λ_ _ _ _ _ _ us f=>by replace f:=f.trans g;(iterate 5 rcases us with _|⟨_,us⟩;cases f;replace f:=Nat.succ.inj f);cases List.eq_nil_of_length_eq_zero f;exact h
section
variable {P:Program}{w:World}{K:W.Frag}{mg:Str->Option Value}{base h:Heap}{k:Nat}{J:Gm}{U:Dm}{bs:List Str}{x:Str}{st:Stmt}{f:Addr}{N ps:List Str}{n:Nat}
def GOk.addT (g:GOk P w K mg base k J bs)(X:K.In h)(G:h.Ns mainGlobals mg)(t:FT K x st f)(a:dB st n N bs b=true)(c:bO x x st (N.take n)):GOk P w K mg base (k+1) (J.add x (dFun (N.take n).length N.length (evSs J b))) bs :=
 let ⟨_,E⟩:=t.F;g.add E (zJl (Bool.and_eq_true_iff.mp a).1) (Bool.and_eq_true_iff.mp a).2 (W.mg_of X G t.a) (E.binds c)
def DmOk.addT (d:DmOk P w K mg base k U)(g:GOk P w K mg base k J bs)(X:K.In h)(G:h.Ns mainGlobals mg)(t:FT K x st f)(a:dM st n N bs b=true)(c:bO x x st (N.take n))(e:spec.lookup x=none:=by decide +kernel):DmOk P w K mg base (k+1) (U.add x (zAi (N.take n).length N.length (evSs' J U b))) :=
 let ⟨_,E⟩:=t.F;d.add g E (zJl (Bool.and_eq_true_iff.mp a).1) (Bool.and_eq_true_iff.mp a).2 (W.mg_of X G t.a) (E.binds c) e
def GOk.aT (n:Nat)(N:List Str)(g:GOk P w K mg base k J bs)(X:K.In h)(G:h.Ns mainGlobals mg)(t:FT K x st f)(a:dB st n N bs b=true:=by decide +kernel)(c:bO x x st (N.take n):=by walk_at "b"):GOk P w K mg base (k+1) (J.add x (dFun (N.take n).length N.length (evSs J b))) bs:=g.addT X G t a c
def GOk.aU (N:List Str)(g:GOk P w K mg base k J bs)(X:K.In h)(G:h.Ns mainGlobals mg)(t:FT K x st f)(a:bO x x st N:=by walk_at "b"):GOk P w K mg base k (J.add x (λ_=>none)) bs :=
 let ⟨_,E⟩:=t.F;g.addN E (W.mg_of X G t.a) (E.binds a)
def DmOk.aT {b:MT}{j:Nat}(n:Nat)(N:List Str)(d:DmOk P w K mg base k U)(g:GOk P w K mg base j J bs)(X:K.In h)(G:h.Ns mainGlobals mg)(t:FT K x st f)(c:j<=k:=by decide)(i:dM st n N bs b=true:=by decide +kernel)(a:bO x x st (N.take n):=by walk_at "b")(e:spec.lookup x=none:=by decide +kernel):DmOk P w K mg base (k+1) (U.add x (zAi (N.take n).length N.length (evSs' J U b))):=d.addT (g.mono c) X G t i a e
end
section
variable {P:Program}{w:World}{K:W.Frag}{mg:Str->Option Value}{base:Heap}{k:Nat}{J:Gm}{U:Dm}{bs:List Str}{m q c:Str}{st:Stmt}{C f:Addr}{N:List Str}{n:Nat}
structure FQ (K:W.Frag)(C f:Addr)(m q:Str)(st:Stmt):Prop where
 M:Meth K C m f
 F:∃ fd,Fun K m q st f fd
def fq {kV:Value}(a:W.findIn K (.ref C) m=some (some (.ref f)))(i:W.isFn K (.ref f)=true)(l:K.lookup f=some ⟨oc,od,.func (W.fnOf m q (zAb st) (zAG st) (zAA st) .none kV dc pm an cd ct),sl⟩)(c:W.codeIn K cd q=true)(k:W.keepIn K (.ref f)=true):FQ K C f m q st:=⟨⟨a,i,k⟩,_,zK1 l c k⟩
def DmOk.addQ (d:DmOk P w K mg base k U)(g:GOk P w K mg base k J bs)(t:FQ K C f m q st)(i:zBl K c C)(j:Cls K C)(a:dM st n N bs b=true)(h:bO m q st (N.take n))(e:spec.lookup q=some (.mth c m)):DmOk P w K mg base (k+1) (U.add q (zAi (N.take n).length N.length (evSs' J U b))) :=
 let ⟨_,E⟩:=t.F;d.addM g E (zJl (Bool.and_eq_true_iff.mp a).1) (Bool.and_eq_true_iff.mp a).2 (E.binds h) i j t.M e
def DmOk.aQ {b:MT}{j:Nat}(n:Nat)(N:List Str)(d:DmOk P w K mg base k U)(g:GOk P w K mg base j J bs)(t:FQ K C f m q st)(l:zBl K c C)(a:Cls K C)(e:j<=k:=by decide)(o:dM st n N bs b=true:=by decide +kernel)(i:bO m q st (N.take n):=by walk_at "b")(h:spec.lookup q=some (.mth c m):=by decide +kernel):DmOk P w K mg base (k+1) (U.add q (zAi (N.take n).length N.length (evSs' J U b))):=d.addQ (g.mono e) t l a o i h
structure UC (K:W.Frag)(c:Str)(C:Addr)(ns:List Str):Prop where
 a:zBl K c C
 c:Cls K C
 k:W.makesIn K C=true
 kc:W.keepIn K (.ref C)=true
 n:∀ n∈ns,zBT K C n
def nf0:∀ n∈([]:List Str),zBT K C n:=by simp
def nfc (h:W.findIn K (.ref C) x=some none)(t:∀ n∈ns,zBT K C n):∀ n∈x::ns,zBT K C n:=λn a=>by
 cases a with
 | head=>exact h
 | tail _ a=>exact t n a
def uc (a:W.nsIn K mainGlobals c=some (some (.ref C)))(e:W.plainGet K C Str.empty=true)(f:W.hasDictIn K C=true)(g:W.plainOver K C=true)(b:W.findIn K (.ref C) "__setattr__"=some (some (.builtin "object.__setattr__")))(mk:W.makesIn K C=true)(d:W.keepIn K (.ref C)=true)(n:∀ n∈ns,zBT K C n):UC K c C ns:=⟨a,⟨e,f,g,b⟩,mk,d,n⟩
def UC.o (u:UC K c C ns)(h:x∈ns):∀ C',zBl K c C'->Cls K C'/\zBT K C' x:=λ_ q=>by
 obtain rfl:=zHp u.a q;exact⟨u.c,u.n x h⟩
end
def zQi :evM J U (.pur e)=zMn (evE J e):=rfl
def zQh :evM J U (.var i)=varM i:=rfl
def zNQ :evM J U (.call n f es)=fnM U n f (evMs J U es):=rfl
def zNO  :evMs J U .nil=nilM:=rfl
def zLN :evMs J U (.cons e es)=zNa (evM J U e) (evMs J U es):=rfl
def zQj :evM J U (.lst es)=lstM (evMs J U es):=rfl
def zTU :evM J U (.ix a b)=twoM (evM J U a) (evM J U b) ixW:=rfl
def zQb :evT J U (.pur e)=zMo (asB (evE J e)):=rfl
def zLJ  :evSs' J U .nil=(λs=>some (.nx s)):=rfl
def zCu :evSs' J U (.cons a b)=seqM (evS' J U a) (evSs' J U b):=rfl
def zNJ :evS' J U (.set i e)=setM i (evM J U e):=rfl
def zLL :evS' J U (.setC i e)=setM i (evM J U e):=rfl
def zNK :evS' J U (.ret e)=retM (evM J U e):=rfl
def zIM :evS' J U (.ife c a b)=ifM (evT J U c) (evSs' J U a) (evSs' J U b):=rfl
def zNL :evS' J U (.app t e)=appM (evM J U t) (evM J U e):=rfl
def zNP :evM J U (.comp n ms u2 src el)=zHo ms 1 (evSrc J U src) (tgM n) (evM J U el):=rfl
def zNI :evSrc J U (.it a)=srcM (evM J U a):=rfl
section
variable {J:Gm}{U:Dm}{O:List (Option W)}{G:Mem}{s:Mst}
def zBC (a:drS G O=O1)(h:EvP (evE J e O1) λr=>EvP (zD5 r G) Q):EvP (evM J U (.pur e) ⟨O,G⟩) Q:=by
 obtain⟨r,b,z,c,q⟩:=h;exact⟨z,by rw[zQi];unfold zMn;rw[a,b,qx,c],q⟩
def zBb (n:noL d=true)(h:Q (.dat d,G)):EvP (zD5 (d,.cl) G) Q:=⟨_,by cases d<;>exact if_pos (e:=none) n,h⟩
def zG1 (n:noLs ds=true)(h:Q (.loc G.length,G++[ds.map .dat])):EvP (zD5 (.lst ds,.fr) G) Q:=⟨_,if_pos n,h⟩
def zAP (e:O[i]?=some (some w))(h:Q (w,G)):EvP (evM J U (.var i) ⟨O,G⟩) Q:=by
 refine⟨_,?_,h⟩;rw[zQh];unfold varM;rw[e]
def zBK (e:U[n]?=some (f,F))(h:EvP (evMs J U es s) λws=>EvP (F ws.1 ws.2) Q):EvP (evM J U (.call n f es) s) Q:=by
 obtain⟨ws,a,r,b,q⟩:=h;refine⟨r,?_,q⟩;rw[zNQ];unfold fnM;unfold zLm
 simp_all
def zA4 (h:Q ([],G)):EvP (evMs J U .nil ⟨O,G⟩) Q:=⟨_,by rw[zNO];rfl,h⟩
def zAK (h:EvP (evM J U e s) λw=>EvP (evMs J U es ⟨s.O,w.2⟩) λws=>Q (w.1::ws.1,ws.2)):EvP (evMs J U (.cons e es) s) Q:=by
 obtain⟨w,b,ws,a,q⟩:=h;exact⟨_,by rw[zLN];unfold zNa;rw[b,qx,a,qx],q⟩
def zKT (h:EvP (evMs J U es s) λr=>r.1.length<=10000/\Q (.loc r.2.length,r.2++[r.1])):EvP (evM J U (.lst es) s) Q:=by
 obtain⟨r,a,l,q⟩:=h;exact⟨_,by rw[zQj];unfold lstM;rw[a,qx,if_pos l],q⟩
def m_ix (h:EvP (evM J U a s) λx=>EvP (evM J U b ⟨s.O,x.2⟩) λy=>EvP (ixW x.1 y.1 y.2) Q):EvP (evM J U (.ix a b) s) Q:=by
 obtain⟨x,d,y,e,r,c,q⟩:=h;exact⟨_,by rw[zTU];unfold twoM;rw[d,qx,e,qx,c],q⟩
def zAr (e:G[n]?=some ws)(a:atI ws i=some w)(h:Q (w,G)):EvP (ixW (.loc n) (.dat (.int i)) G) Q:=by
 refine⟨_,?_,h⟩;show (G[n]?.bind λws=>(atI ws i).map λw=>_)=_
 simp_all
def zRH (f:drS G O=O1)(h:EvP (evE J e O1) λr=>∃ b,r.1=.bl b/\Q (b,G)):EvP (evT J U (.pur e) ⟨O,G⟩) Q:=by
 obtain⟨r,c,b,a,q⟩:=h;refine⟨_,?_,q⟩;rw[zQb];unfold zMo;have:asB (evE J e) O1=some b:=by
  unfold asB;obtain⟨d,k⟩:=r
  simp_all
 simp_all
def KM (J:Gm)(U:Dm)(b:MT)(Q:OutM->Prop):OutM->Prop
 | .nx s=>EvP (evSs' J U b s) Q
 | o=>Q o
def zA6 (h:Q (.nx s)):EvP (evSs' J U .nil s) Q:=⟨_,by rw[zLJ],h⟩
def zAI (h:EvP (evS' J U a s) (KM J U b Q)):EvP (evSs' J U (.cons a b) s) Q:=by
 obtain⟨o,c,q⟩:=h;cases o with
 | nx e =>
  obtain⟨r,d,q⟩:=q;exact⟨r,by rw[zCu];unfold seqM;rw[c];exact d,q⟩
 | rt r=>exact⟨_,by rw[zCu];unfold seqM;rw[c,qx],q⟩
 | bk r=>exact⟨_,by rw[zCu];unfold seqM;rw[c,qx],q⟩
 | ct r=>exact⟨_,by rw[zCu];unfold seqM;rw[c,qx],q⟩
def zAn (h:EvP (evSs' J U b s) Q):KM J U b Q (.nx s):=h
def zDh (h:Q (.rt r)):KM J U b Q (.rt r):=h
def zCw (h:EvP (evM J U e s) λr=>Q (.nx ⟨s.O.set i (some r.1),r.2⟩)):EvP (evS' J U (.set i e) s) Q:=by
 obtain⟨r,a,q⟩:=h;exact⟨_,by rw[zNJ];unfold setM;rw[a];rfl,q⟩
def zEE (h:EvP (evM J U e s) λr=>Q (.nx ⟨s.O.set i (some r.1),r.2⟩)):EvP (evS' J U (.setC i e) s) Q:=by
 obtain⟨r,a,q⟩:=h;exact⟨_,by rw[zLL];unfold setM;rw[a];rfl,q⟩
def zBz (h:EvP (evM J U e s) λr=>Q (.rt r)):EvP (evS' J U (.ret e) s) Q:=by
 obtain⟨r,a,q⟩:=h;exact⟨_,by rw[zNK];unfold retM;rw[a];rfl,q⟩
def zEF (h:EvP (evT J U c s) λr=>(r.1=true->EvP (evSs' J U a ⟨s.O,r.2⟩) Q)/\(r.1=false->EvP (evSs' J U b ⟨s.O,r.2⟩) Q)):EvP (evS' J U (.ife c a b) s) Q:=by
 obtain⟨⟨r,m⟩,e1,q1,q2⟩:=h;cases r with
 | true =>
  obtain⟨o,d,q⟩:=q1 rfl;exact⟨o,by rw[zIM];unfold ifM;rw[e1,qx];exact(if_pos rfl).trans d,q⟩
 | false =>
  obtain⟨o,d,q⟩:=q2 rfl;exact⟨o,by rw[zIM];unfold ifM;rw[e1,qx];exact(if_neg qY).trans d,q⟩
def zDG (h:EvP (evM J U t s) λx=>EvP (evM J U e ⟨s.O,x.2⟩) λr=>∃ n ws,x.1=.loc n/\r.2[n]?=some ws/\ws.length<=10000/\Q (.nx ⟨s.O,r.2.set n (ws++[r.1])⟩)):EvP (evS' J U (.app t e) s) Q:=by
 obtain⟨_,a,r,b,n,ws,d,c,l,q⟩:=h;refine⟨_,?_,q⟩;rw[zNL];unfold appM;rw[a,qx]
 simp_all
def KFM (Q:MR->Prop):OutM->Prop
 | .rt r=>Q r
 | .nx s=>Q (.dat .non,s.G)
 | _=>False
def zBu (h1:ws.length=np)(h2:np<=nN)(h:EvP (g ⟨ws.map some++List.replicate (nN - np) none,G⟩) (KFM Q)):EvP (zAi np nN g ws G) Q:=by
 obtain⟨o,a,q⟩:=h;cases o with
 | rt r=>exact⟨_,by unfold zAi;rw[if_pos ⟨h1,h2⟩,a];rfl,q⟩
 | nx s=>exact⟨_,by unfold zAi;rw[if_pos ⟨h1,h2⟩,a];rfl,q⟩
 | bk _=>exact q.elim
 | ct _=>exact q.elim
theorem zHC :∀ ds:List D,sbL f (ds.map .dat)=some ds
 | []=>by rw[map_nil,sbL]
 | d::ds=>by rw[map_cons,sbL,sbW,qx,zHC ds];rfl
def zGm (e:G[n]?=some ws)(h:sbL (drN G k) ws=some ds):drN G (k+1) n=some (.lst ds):=by
 rw[drN,e,qx,h];rfl
def zLU (e:G[n]?=some (ds.map .dat)):drN G (k+1) n=some (.lst ds):=zGm e (zHC ds)
def zLW :drS G (some (.dat d)::O)=some (d,false)::drS G O:=rfl
def zLV (h:drN G 6 n=some d):drS G (some (.loc n)::O)=some (d,false)::drS G O:=by
 show ((drW G _).map λd=>_)::drS G O=_;unfold drW;rw[sbW,h]
 rfl
def zCe (h:drS G O=O1):drS G (some (.dat d)::O)=some (d,false)::O1:=by rw[<- h];exact zLW
def zAg (h:drS G O=O1):drS G (o::O)=(o.bind λw=>(drW G w).map λd=>(d,false))::O1:=by rw[<- h];rfl
def zEQ (h:EvP (evSrc J U src s) λz=>∃ y N,zBj (tgM n) (evM J U el) z.1 N 0 ⟨mask none ms s.O++[none],z.2⟩ []=some y/\y.1.length<=10000/\Q (.loc y.2.length,y.2++[y.1])):EvP (evM J U (.comp n ms x src el) s) Q:=by
 obtain⟨z,b,y,N,a,l,q⟩:=h;refine⟨_,?_,q⟩;rw[zNP];unfold zHo;rw[b];simp;rw[zLf a,qx,if_pos l]
def zRP (e:evM J U a s=some (.loc n,m))(h:Q (.live n,m)):EvP (evSrc J U (.it a) s) Q:=by
 refine⟨_,?_,h⟩;rw[zNI];unfold srcM;rw[e]
 rfl
end
end DL
end
local macro_rules | `(tactic| walk_at "b")=>`(tactic| first | exact DL.bz2 rfl rfl | exact DL.bz1 rfl rfl | exact DL.bz3 rfl rfl | exact DL.bz4 rfl rfl | exact DL.bz0 rfl rfl | exact DL.bz5 rfl rfl)
section
namespace DL
open PySem L2
end DL
end
section
namespace DL
open PySem Spec PyProof.Rows L2
def zLM :evS' J U (.for1 i src b)=(λs=>(evSrc J U src s).bind λr=>zF1 (tgM i) (evSs' J U b) r.1 0 ⟨s.O,r.2⟩):=rfl
def zLK :evSrc J U (.rng a)=zMH (evM J U a):=rfl
section
variable {J:Gm}{U:Dm}{O:List (Option W)}{G:Mem}{s:Mst}
def KLM (P:Mst->Prop)(Q:OutM->Prop):OutM->Prop
 | .nx s=>P s
 | .ct s=>P s
 | .bk s=>Q (.nx s)
 | .rt r=>Q (.rt r)
def zCc (ws:List W)(P:Nat->Mst->Prop)(it:∀ j s,P j s->itm s.G src=some ws)
  (step:∀ j w s,ws[j]?=some w->P j s->∃ s1,t w s=some s1/\EvP (b s1) (KLM (P (j+1)) Q)) (i:∀ s,P ws.length s->Q (.nx s)) (h:P 0 s):EvP (zF1 t b src 0 s) Q:=by
 have m:∀ (k j:Nat) (s:Mst),j+k=ws.length->P j s->∃ o,forN t b src (k+1) j s=some o/\Q o:=by
  intro k
  induction k with
  | zero =>
   intro j s e p;have v:j=ws.length:=by omega
   subst v;refine⟨_,?_,i s p⟩;rw[forN,it _ s p,qx,getElem?_eq_none (le_refl _)]
  | succ k u =>
   intro j s e p;have a:ws[j]?=some ws[j]:=getElem?_eq_getElem (by omega);obtain⟨s1,f,o,d,q⟩:=step j _ s a p;cases o with
   | nx c =>
    obtain⟨g,l,n⟩:=u (j+1) c (by omega) q;exact⟨g,by rw[forN,it j s p,qx,a];dsimp only;rw[f,qx,d,qx];exact l,n⟩
   | ct c =>
    obtain⟨g,l,n⟩:=u (j+1) c (by omega) q;exact⟨g,by rw[forN,it j s p,qx,a];dsimp only;rw[f,qx,d,qx];exact l,n⟩
   | bk c=>exact⟨_,by rw[forN,it j s p,qx,a];dsimp only;rw[f,qx,d,qx],q⟩
   | rt r=>exact⟨_,by rw[forN,it j s p,qx,a];dsimp only;rw[f,qx,d,qx],q⟩
 obtain⟨o,e,q⟩:=m ws.length 0 s (by omega) h;exact⟨o,zNE e,q⟩
def zDV (h:EvP (evSrc J U src s) λr=>EvP (zF1 (tgM i) (evSs' J U b) r.1 0 ⟨s.O,r.2⟩) Q):EvP (evS' J U (.for1 i src b) s) Q:=by
 obtain⟨r,a,o,c,q⟩:=h;exact⟨o,by rw[zLM];dsimp only;rw[a];exact c,q⟩
def zAz (h:EvP (evM J U a s) λx=>∃ n,x.1=.loc n/\Q (.live n,x.2)):EvP (evSrc J U (.it a) s) Q:=by
 obtain⟨⟨x,m⟩,e,n,e2,q⟩:=h;cases e2;exact zRP e q
def zCU (h:EvP (evM J U a s) λx=>∃ j,x.1=.dat (.int j)/\(-(2^62)<=j/\j < 2^62)/\Q (.items ((rngL 0 j.toNat).map .dat),x.2)):EvP (evSrc J U (.rng a) s) Q:=by
 obtain⟨⟨x,m⟩,e,j,e2,l,q⟩:=h;cases e2;refine⟨_,?_,q⟩;rw[zLK];unfold zMH;rw[e];exact if_pos l
end
end DL
namespace DL
open PySem L2
end DL
end
section
namespace DL
open PySem L2
noncomputable def news (m k:Nat):List W:=(List.range k).map λj=>.loc (m+j)
def zDN (m i:Nat):news m (i+1)=news m i++[.loc (m+i)]:=by unfold news;rw[range_succ,x8];rfl
def zB8 (m i:Nat):(news m i).length=i:=by unfold news;rw[qy,length_range]
def zPT (h:i < k):(news m k)[i]?=some (.loc (m+i)):=by unfold news;rw[getElem?_map,getElem?_range h];rfl
def zEg (ws:List W)(P:Nat->Mst->List W->Prop)(it:∀ j s d,P j s d->itm s.G src=some ws)
  (step:∀ j w s d,ws[j]?=some w->P j s d->d.length<=10000/\∃ s1 r,t w s=some s1/\e s1=some r/\P (j+1) ⟨s1.O,r.2⟩ (d++[r.1])) (h:P 0 s []):∃ y s' N,zBj t e src N 0 s []=some y/\P ws.length s' y.1/\s'.G=y.2:=by
 have a:∀ (k j:Nat) (s:Mst) (d:List W),j+k=ws.length->P j s d->∃ y s',zBj t e src (k+1) j s d=some y/\P ws.length s' y.1/\s'.G=y.2:=by
  intro k
  induction k with
  | zero =>
   intro j s d b p;have b:j=ws.length:=by omega
   subst b;refine⟨(d,s.G),s,?_,p,rfl⟩;rw[zBj,it _ s d p,qx,getElem?_eq_none (le_refl _)]
  | succ k i =>
   intro j s d b p;have g:j < ws.length:=by omega
   have c:ws[j]?=some ws[j]:=getElem?_eq_getElem g;obtain⟨l,s1,r,o,m,q⟩:=step j _ s d c p;obtain⟨y,s',n,f⟩:=i (j+1) ⟨s1.O,r.2⟩ _ (by omega) q;refine⟨y,s',?_,f⟩;rw[zBj,it j s d p,qx,c]
   simp_all
 obtain⟨y,s',e,q⟩:=a ws.length 0 s [] (by omega) h;exact⟨y,s',_,e,q⟩
mutual
theorem zHw {f g:Nat->Option D}(hf:∀ n d,f n=some d->g n=some d):∀ {w:W} {d:D},sbW f w=some d->sbW g w=some d
 | .dat x,d,e=>by rw[sbW] at e ⊢;exact e
 | .loc n,d,e=>by rw[sbW] at e ⊢;exact hf n d e
 | .tup ws,d,e=>by
  rw[sbW] at e ⊢;obtain⟨ds,e1,rfl⟩:=yq.mp e;rw[sbL_mono hf e1]
  rfl
 | .obj c ns ws,d,e=>by rw[sbW] at e ⊢;exact e
theorem sbL_mono {f g:Nat->Option D}(hf:∀ n d,f n=some d->g n=some d):∀ {ws:List W} {ds:List D},sbL f ws=some ds->sbL g ws=some ds
 | [],ds,e=>by rw[sbL] at e ⊢;exact e
 | w::ws,ds,e=>by
  rw[sbL] at e ⊢;obtain⟨d,e1,e⟩:=bind_some e;obtain⟨ds',e2,rfl⟩:=yq.mp e;rw[zHw hf e1,qx,sbL_mono hf e2]
  rfl
end
theorem zIO (hm:∀ (n:Nat) (ws:List W),G[n]?=some ws->G'[n]?=some ws):∀ (k n:Nat) (d:D),drN G k n=some d->drN G' k n=some d
 | 0,_,_,e=>by cases e
 | k+1,n,d,e=>by
  rw[drN] at e ⊢;obtain⟨ws,e1,e⟩:=bind_some e;obtain⟨ds,e2,rfl⟩:=yq.mp e;rw[hm n ws e1,qx,sbL_mono (λn d q=>zIO hm k n d q) e2]
  rfl
def zAT {P:Mem}{n:Nat}{ws:List W}(h:G[n]?=some ws):(G++P)[n]?=some ws:=by
 rw[getElem?_append_left (zzg h).1];exact h
theorem zFZ {g:Nat->Option D}{T:Type}(ad:T->Nat)(d:T->D):∀ l:List T,(∀ i∈l,g (ad i)=some (d i))->sbL g (l.map λi=>.loc (ad i))=some (l.map d)
 | [],_=>by rw[map_nil,sbL];rfl
 | i::l,h=>by
  rw[map_cons,sbL,sbW,h i q9,qx,zFZ ad d l λj hj=>h j (qJ _ hj)]
  rfl
noncomputable def zLT:MT:=.cons (.ret (.comp 1 [] "k" (.rng (.var 0)) (.lst .nil))) .nil
def zIe (F:MF):Prop:=∀ (k:Nat) (G:Mem) (Q:MR->Prop),k<=100->Q (.loc (G.length+k),G++List.replicate k []++[news G.length k])->EvP (F [.dat (.int k)] G) Q
def zNW :zIe (zAi 1 1 (evSs' J U zLT)):=λk G Q p h=>by
 refine zBu rfl (by decide) ?_;unfold zLT;refine zAI (zBz (zEQ (zCU (zAP (w:=.dat (.int k)) rfl ⟨(k:Int),rfl,by omega,?_⟩))));rw[toNat_natCast];obtain⟨y,m,N,e,⟨o,c,b,f⟩,p4⟩:=zEg (t:=tgM 1) (e:=evM J U (.lst .nil)) (src:=.items ((rngL 0 k).map .dat)) (s:=⟨mask none [] [some (.dat (.int k))]++[none],G⟩) ((rngL 0 k).map .dat)
  (λj s d=>∃ o:Option W,s=⟨[some (.dat (.int k)),o],G++List.replicate j []⟩/\d=news G.length j/\j<=k) (λj s d _=>rfl) (λj w s d g a=>by
   obtain⟨o,c,b,f⟩:=a;subst c b;have n:j < k:=by
    have:=(zzg g).1;rw[qy,zAc] at this;exact this
   refine⟨by rw[zB8];omega,⟨[some (.dat (.int k)),some w],G++List.replicate j []⟩,(.loc (G++List.replicate j []).length,G++List.replicate j []++[[]]),rfl,?_,some w,?_,?_,by omega⟩
   .exact (zKT (Q:=λr=>r=(W.loc (G++List.replicate j []).length,G++List.replicate j []++[[]])) (zA4 ⟨zero_le _,rfl⟩)).eq
   .rw [List.replicate_succ',q8]
   .rw [zDN,qQ,length_replicate]) ⟨none,by rw[List.replicate_zero,append_nil];rfl,rfl,zero_le _⟩
 have l:((rngL 0 k).map W.dat).length=k:=by rw[qy,zAc]
 rw[l] at c b;subst c;have i:y=(news G.length k,G++List.replicate k []):=Prod.ext b p4.symm;refine⟨y,N,e,by rw[b,zB8];omega,?_⟩;rw[i];show KFM Q (.rt (.loc (G++List.replicate k []).length,_));rw[qQ,length_replicate];exact h
structure zBk (G:Mem)(a w h:Nat)(f:Nat->Nat->List D):Prop where
 cell:∀ r c,r < h->c<=w->G[a+r*(w+2)+c]?=some ((f r c).map .dat)
 row:∀ r,r < h->G[a+r*(w+2)+(w+1)]?=some (news (a+r*(w+2)) (w+1))
 top:G[a+h*(w+2)]?=some ((List.range h).map λr=>.loc (a+r*(w+2)+(w+1)))
def zBk.keep (t:zBk G a w h f)(k:∀ (n:Nat) (ws:List W),a<=n->n<=a+h*(w+2)->G[n]?=some ws->G'[n]?=some ws):zBk G' a w h f:=by
 have lt:∀ r c,r < h->c<=w+1->r*(w+2)+c < h*(w+2):=λr c b d=>by
  have:=mul_le_mul_right (w+2) b;grind
 exact⟨λr c b d=>k _ _ (by omega) (by have:=lt r c b (by omega);omega) (t.cell r c b d),λr b=>k _ _ (by omega) (by have:=lt r (w+1) b (by omega);omega) (t.row r b),k _ _ (by omega) (le_refl _) t.top⟩
def zBk.app (t:zBk G a w h f)(P:Mem):zBk (G++P) a w h f:=t.keep λ_ _ _ _ e=>zAT e
def zOI (b:c<=w+1)(a:c'<=w+1)(e:r*(w+2)+c=r'*(w+2)+c'):r=r'/\c=c':=by
 have lt:∀ {r r' c c':Nat},c<=w+1->r < r'->r*(w+2)+c < r'*(w+2)+c':=λ{r r' c c'} b d=>by
  have:=mul_le_mul_right (w+2) d;grind
 rcases Nat.lt_trichotomy r r' with q | q | q
 .have:=lt (c':=c') b q;omega
 .grind
 .have:=lt (c':=c) a q;omega
noncomputable def more (f:Nat->Nat->List D)(r c:Nat)(q:D):Nat->Nat->List D:=λr' c'=>if r'=r/\c'=c then f r c++[q] else f r' c'
theorem zBk.more (t:zBk G a w h f)(hr:r < h)(hc:c<=w):zBk (G.set (a+r*(w+2)+c) (((f r c).map .dat)++[.dat q])) a w h (more f r c q):=by
 have hl:=(zzg (t.cell r c hr hc)).1;have hn:r*(w+2)+c < h*(w+2):=by
  have:=mul_le_mul_right (w+2) (show r+1<=h from hr);rw[Nat.succ_mul] at this;omega
 refine⟨λr' c' hr' hc'=>?_,λr' hr'=>?_,?_⟩
 .by_cases e:r'=r/\c'=c
  .obtain ⟨rfl,rfl⟩:=e;rw[getElem?_set_self hl];unfold DL.more;rw[if_pos ⟨rfl,rfl⟩,x8]
   rfl
  .unfold DL.more;rw[if_neg e,getElem?_set_ne]
   .exact t.cell r' c' hr' hc'
   .intro z;have:=zOI (w:=w) (r:=r) (c:=c) (r':=r') (c':=c') (by omega) (by omega) (by omega);exact e ⟨this.1.symm,this.2.symm⟩
 .rw [getElem?_set_ne]
  .exact t.row r' hr'
  .intro z;have:=zOI (w:=w) (r:=r) (c:=c) (r':=r') (c':=w+1) (by omega) (by omega) (by omega);omega
 .rw [getElem?_set_ne (by omega)];exact t.top
def zBk.other (t:zBk G a w h f)(c:n < a\/a+h*(w+2) < n):zBk (G.set n x) a w h f:=t.keep λm b h1 h2 e=>by
 rw[getElem?_set_ne (by omega)];exact e
def zNx (t:zBk G a w h f):drN G 6 (a+h*(w+2))=some (.lst ((List.range h).map λr=>D.lst ((List.range (w+1)).map λc=>.lst (f r c)))):=by
 refine zGm t.top (zFZ _ _ _ λr b=>?_)
 simp_all
 have q:drN G 5 (a+r*(w+2)+w+1)=some (.lst ((List.range (w+1)).map λc=>.lst (f r c))):=by
  refine zGm (t.row r b) (zFZ _ _ _ λc d=>?_)
  simp_all
  exact zGm (t.cell r c b (by omega)) (zHC _)
 omega
noncomputable def tabE (ne:Nat):ME:=.comp 7 [] "row" (.rng (.var 1)) (.call ne "empty_lists" (.cons (.pur (.bin .Add (.var 0) (.int 1))) .nil))
def zNw (z:U[ne]?=some (("empty_lists":Str),Fe))(v:zIe Fe)(F:w<=12)(E:h<=12)
  (A:∀ P:Mem,P.length=h*(w+2)+1->zBk (G++P) G.length w h (λ_ _=>[])->Q (.loc (G.length+h*(w+2)),G++P)) :
  EvP (evM J U (tabE ne) ⟨[some (.dat (.int w)),some (.dat (.int h)),x2,x3,x4,x5,x6],G⟩) Q:=by
 unfold tabE;refine zEQ (zCU (zAP (w:=.dat (.int h)) rfl ⟨(h:Int),rfl,by omega,?_⟩));rw[toNat_natCast];obtain⟨y,H,N,e,⟨o,P,n,i,g,u,l,k⟩,p7⟩:=zEg (t:=tgM 7) (e:=evM J U (.call ne "empty_lists" (.cons (.pur (.bin .Add (.var 0) (.int 1))) .nil))) (src:=.items ((rngL 0 h).map .dat)) (s:=⟨mask none [] [some (.dat (.int w)),some (.dat (.int h)),x2,x3,x4,x5,x6]++[none],G⟩) ((rngL 0 h).map .dat)
  (λj s d=>∃ (o:Option W) (P:Mem),s=⟨[some (.dat (.int w)),some (.dat (.int h)),x2,x3,x4,x5,x6,o],G++P⟩/\d=(List.range j).map (λr=>W.loc (G.length+r*(w+2)+(w+1)))/\P.length=j*(w+2)/\j<=h /\
   (∀ r c,r < j->c<=w->(G++P)[G.length+r*(w+2)+c]?=some [])/\∀ r,r < j->(G++P)[G.length+r*(w+2)+(w+1)]?=some (news (G.length+r*(w+2)) (w+1))) (λj s d _=>rfl) (λj x s d B f=>by
   obtain⟨o,P,n,i,g,u,l,k⟩:=f;subst n i;have D:j < h:=by
    have:=(zzg B).1;rw[qy,zAc] at this;exact this
   have a:(G++P).length=G.length+j*(w+2):=by rw[qQ,g]
   refine⟨by rw[qy,length_range];omega,⟨[some (.dat (.int w)),some (.dat (.int h)),x2,x3,x4,x5,x6,some x],G++P⟩,(.loc ((G++P).length+(w+1)),(G++P)++List.replicate (w+1) []++[news (G++P).length (w+1)]),rfl,?_,some x,P++List.replicate (w+1) []++[news (G++P).length (w+1)],?_,?_,?_,by omega,?_,?_⟩
   .refine (zBK (Q:=λr=>r=(W.loc ((G++P).length+(w+1)),(G++P)++List.replicate (w+1) []++[news (G++P).length (w+1)])) z (zAK (zBC zLW (zAl (zAJ rfl (zAk (zJH (zBb rfl (zA4 ?_))))))))).eq;exact v (w+1) (G++P) _ (by omega) rfl
   .simp only [q8]
   .rw [range_succ,x8,a];rfl
   .simp only [qQ,length_replicate,length_singleton,g];rw[Nat.succ_mul];omega
   .intro r c b m;by_cases q:r < j
    .rw [<- q8,<- q8];exact zAT (zAT (l r c q m))
    .have:r=j:=by omega
     subst this;rw[<- q8,<- q8,getElem?_append_left (by rw[qQ,length_replicate,a];omega),getElem?_append_right (by rw[a];omega),a,getElem?_replicate];rw[if_pos (by omega)]
   .intro r b;by_cases q:r < j
    .rw [<- q8,<- q8];exact zAT (zAT (k r q))
    .have:r=j:=by omega
     subst this;have ll:(G++P++List.replicate (w+1) []).length=G.length+r*(w+2)+(w+1):=by rw[qQ,length_replicate,a]
     rw[<- q8,<- q8,getElem?_append_right (by rw[ll];exact le_refl _),ll,sub_self];show some (news (G++P).length (w+1))=_;rw[a]) ⟨none,[],by rw[append_nil];rfl,rfl,by simp,zero_le _,λr c b=>absurd b (by omega),λr b=>absurd b (by omega)⟩
 have C:((rngL 0 h).map W.dat).length=h:=by rw[qy,zAc]
 rw[C] at i g l k;subst n;have p:y=((List.range h).map (λr=>W.loc (G.length+r*(w+2)+(w+1))),G++P):=Prod.ext i p7.symm;refine⟨y,N,e,by rw[i,qy,length_range];omega,?_⟩;rw[p];have a:(G++P).length=G.length+h*(w+2):=by rw[qQ,g]
 show Q (.loc (G++P).length,(G++P)++[_]);rw[a,q8];refine A _ (by rw[qQ,g];rfl) ⟨λr c b m=>?_,λr b=>?_,?_⟩
 .rw [<- q8];exact zAT (l r c b m)
 .rw [<- q8];exact zAT (k r b)
 .rw [<- q8,getElem?_append_right (by rw[a];exact le_refl _),a,sub_self]
  rfl
def zOJ (e:atI ds i=some d)(h:Q (.dat d,G)):EvP (ixW (.dat (.tup ds)) (.dat (.int i)) G) Q:=by
 refine⟨_,?_,h⟩;show (atI ds i).map _=_
 simp_all
def zQr (h:drW G x=some d):drS G (some x::O)=some (d,false)::drS G O:=by
 show _::drS G O=_
 simp_all
structure Pz where
 c:Int
 r:Int
 x:D
 y:D
 f:D
 g:D
abbrev Pz.d (z:Pz):D:=.tup [.int z.c,.int z.r,z.x,z.y]
structure PzB (w h:Nat)(z:Pz):Prop where
 r0:0<=z.r
 r1:z.r < h
 c0:-1<=z.c
 c1:z.c < w
 n:noL z.d=true
 f:noL z.f=true
 g:noL z.g=true
noncomputable def fc (p:Pz->D)(zs:List Pz)(r c:Nat):List D:=(zs.filter λz=>decide (z.r=(r:Int))&&decide (z.c+1=(c:Int))).map p
def zK9 (hz:PzB w h z):fc p (zs++[z])=more (fc p zs) z.r.toNat (z.c+1).toNat (p z):=by
 have a:=hz.r0;have c0:=hz.c0;unfold fc more;grind
noncomputable def zPk (nf nr:Nat):MT:=.cons (.set 6 (.pur (.bin .Add (.ix (.var 5) (.int 0)) (.int 1)))) (.cons (.app (.ix (.ix (.var 3) (.ix (.var 5) (.pur (.int 1)))) (.var 6)) (.pur (.call nf "fall" (.cons (.var 5) .nil)))) (.cons (.app (.ix (.ix (.var 4) (.ix (.var 5) (.pur (.int 1)))) (.var 6)) (.pur (.call nr "right" (.cons (.var 5) .nil)))) .nil))
def zKW {J:Gm}{U:Dm}{nf nr:Nat}{y v:List D->Option R}(B:J.fns[nf]?=some (("fall":Str),y))(V:J.fns[nr]?=some (("right":Str),v)){w h a b:Nat}{z:Pz}(M:y [z.d]=some (z.f,.cl))(H:v [z.d]=some (z.g,.cl)){f g:Nat->Nat->List D}{x0 x1 x2 Y:Option W}{G:Mem}{Q:OutM->Prop}
  (hz:PzB w h z) (u:zBk G a w h f) (A:zBk G b w h g) (ab:a+h*(w+2) < b) (I:∀ r c,(f r c).length<=10000) (X:∀ r c,(g r c).length<=10000)
  (F:∀ G':Mem,G'.length=G.length->(∀ m:Nat,m < a->G'[m]?=G[m]?)->(∀ m:Nat,b+h*(w+2) < m->G'[m]?=G[m]?)->zBk G' a w h (more f z.r.toNat (z.c+1).toNat z.f)->zBk G' b w h (more g z.r.toNat (z.c+1).toNat z.g)->Q (.nx ⟨[x0,x1,x2,some (.loc (a+h*(w+2))),some (.loc (b+h*(w+2))),some (.dat z.d),some (.dat (.int (z.c+1)))],G'⟩)) :
  EvP (evSs' J U (zPk nf nr) ⟨[x0,x1,x2,some (.loc (a+h*(w+2))),some (.loc (b+h*(w+2))),some (.dat z.d),Y],G⟩) Q:=by
 have r0:=hz.r0;have r1:=hz.r1;have c0:=hz.c0;have c1:=hz.c1;have N:z.r=((z.r.toNat:Nat):Int):=by omega
 have E:z.c+1=(((z.c+1).toNat:Nat):Int):=by omega
 have e:z.r.toNat < h:=by omega
 have t:(z.c+1).toNat<=w:=by omega
 have k:∀ (a:Nat),atI ((List.range h).map λr=>W.loc (a+r*(w+2)+(w+1))) z.r=some (.loc (a+z.r.toNat*(w+2)+(w+1))):=λa=>by
  have q:atI ((List.range h).map λr=>W.loc (a+r*(w+2)+(w+1))) ((z.r.toNat:Nat):Int)=some (.loc (a+z.r.toNat*(w+2)+(w+1))):=zAv (by rw[getElem?_map,getElem?_range e];rfl);rw[<- N] at q;exact q
 have l:∀ (a:Nat),atI (news (a+z.r.toNat*(w+2)) (w+1)) (z.c+1)=some (.loc (a+z.r.toNat*(w+2)+(z.c+1).toNat)):=λa=>by
  have q:atI (news (a+z.r.toNat*(w+2)) (w+1)) (((z.c+1).toNat:Nat):Int)=some (.loc (a+z.r.toNat*(w+2)+(z.c+1).toNat)):=zAv (zPT (by omega));rw[<- E] at q;exact q
 have o:atI [D.int z.c,.int z.r,z.x,z.y] 1=some (.int z.r):=rfl;have P:z.r.toNat*(w+2)+(z.c+1).toNat < h*(w+2):=by
  have:=mul_le_mul_right (w+2) (show z.r.toNat+1<=h from e);rw[Nat.succ_mul] at this;omega
 unfold zPk;refine zAI (zCw (zBC (zAg (zAg (zAg (zAg (zAg (zCe rfl)))))) ?_));refine zAl (zBh (zAJ rfl (zAk (zD3 (d:=.int z.c) rfl (zAk (zJH (zBb rfl (zAn ?_))))))));(walk_at "s");refine zAI (zDG (m_ix (m_ix (zAP rfl (m_ix (zAP rfl (zBC rfl (zAk (zBb rfl ?_)))))))));refine zOJ o (zAr u.top (k a) (zAP rfl (zAr (u.row _ e) (l a) ?_)));refine zBC (zAg (zAg (zAg (zAg (zAg (zCe rfl)))))) ?_;refine zAL B (zAH (zAJ rfl (n_cl (zAs ?_))));refine⟨_,M,?_⟩;refine n_cl (zBb hz.f ⟨_,_,rfl,u.cell _ _ e t,by rw[qy];exact I _ _,zAn ?_⟩);have i:=u.more (q:=z.f) e t;have tg2:=A.other (n:=a+z.r.toNat*(w+2)+(z.c+1).toNat) (x:=((f z.r.toNat (z.c+1).toNat).map .dat)++[.dat z.f]) (by omega);have O:(G.set (a+z.r.toNat*(w+2)+(z.c+1).toNat) (((f z.r.toNat (z.c+1).toNat).map .dat)++[.dat z.f])).length=G.length:=length_set;have Z:∀ m:Nat,m < a->(G.set (a+z.r.toNat*(w+2)+(z.c+1).toNat) (((f z.r.toNat (z.c+1).toNat).map .dat)++[.dat z.f]))[m]?=G[m]?:=λm p=>getElem?_set_ne (by omega)
 have T:∀ m:Nat,b+h*(w+2) < m->(G.set (a+z.r.toNat*(w+2)+(z.c+1).toNat) (((f z.r.toNat (z.c+1).toNat).map .dat)++[.dat z.f]))[m]?=G[m]?:=λm p=>getElem?_set_ne (by omega)
 have K:∀ j:Mem,j.length=G.length->(∀ m:Nat,m < a->j[m]?=G[m]?)->(∀ m:Nat,b+h*(w+2) < m->j[m]?=G[m]?)->zBk j a w h (more f z.r.toNat (z.c+1).toNat z.f)->zBk j b w h g ->
   EvP (evSs' J U (.cons (.app (.ix (.ix (.var 4) (.ix (.var 5) (.pur (.int 1)))) (.var 6)) (.pur (.call nr "right" (.cons (.var 5) .nil)))) .nil) ⟨[x0,x1,x2,some (.loc (a+h*(w+2))),some (.loc (b+h*(w+2))),some (.dat z.d),some (.dat (.int (z.c+1)))],j⟩) Q:=by
  intro j C S L i tg2;refine zAI (zDG (m_ix (m_ix (zAP rfl (m_ix (zAP rfl (zBC rfl (zAk (zBb rfl ?_)))))))));refine zOJ o (zAr tg2.top (k b) (zAP rfl (zAr (tg2.row _ e) (l b) ?_)));refine zBC (zAg (zAg (zAg (zAg (zAg (zCe rfl)))))) ?_;refine zAL V (zAH (zAJ rfl (n_cl (zAs ?_))));refine⟨_,H,?_⟩;refine n_cl (zBb hz.g ⟨_,_,rfl,tg2.cell _ _ e t,by rw[qy];exact X _ _,zAn (zA6 ?_)⟩);refine F _ (by rw[length_set];exact C) (λm p=>?_) (λm p=>?_) (i.other (by omega)) (tg2.more e t)
  .rw [getElem?_set_ne (by omega)];exact S m p
  .rw [getElem?_set_ne (by omega)];exact L m p
 exact K _ O Z T i tg2
noncomputable def zHB (na nf nr nw ne:Nat):MT:=.cons (.setC 3 (tabE ne)) (.cons (.setC 4 (tabE ne)) (.cons (.for1 5 (.it (.pur (.call na "all_pieces" (.cons (.var 0) (.cons (.var 1) (.cons (.var 2) .nil)))))) (zPk nf nr)) (.cons (.ret (.comp 7 [] "row" (.rng (.var 1)) (.pur (.call nw "row_of_shares" (.cons (.ix (.var 3) (.var 7)) (.cons (.ix (.var 4) (.var 7)) .nil)))))) .nil)))
noncomputable def zBc (rz:Nat->List D)(k:Nat):Mem:=(List.range k).map λr=>(rz r).map W.dat
theorem zHM:∀ {ds:List D},(∀ d∈ds,noL d=true)->noLs ds=true
 | [],_=>rfl
 | d::ds,h=>by rw[noLs,h d q9,zHM λd m=>h d (qJ _ m)];rfl
def zOP (a:List Pz)(r c:Nat):(fc p a r c).length<=a.length:=by unfold fc;rw[qy];exact List.length_filter_le _ _
structure ZOk (Fa Ff Fr Fw:List D->Option R)(w h:Nat)(sh:D)(zs:List Pz)(rz:Nat->List D):Prop where
 w2:w<=12
 h2:h<=12
 zl:zs.length<=5000
 all:Fa [.int w,.int h,sh]=some (.lst (zs.map Pz.d),.fr)
 b:∀ z∈zs,PzB w h z
 f:∀ z∈zs,Ff [z.d]=some (z.f,.cl)
 r:∀ z∈zs,Fr [z.d]=some (z.g,.cl)
 w:∀ r,r < h->Fw [.lst ((List.range (w+1)).map λc=>.lst (fc Pz.f zs r c)),.lst ((List.range (w+1)).map λc=>.lst (fc Pz.g zs r c))]=some (.lst (rz r),.fr)
 n:∀ r,r < h->noLs (rz r)=true
def zJg (ea:J.fns[na]?=some (("all_pieces":Str),Fa))(ef:J.fns[nf]?=some (("fall":Str),Ff))(er:J.fns[nr]?=some (("right":Str),Fr))(ew:J.fns[nw]?=some (("row_of_shares":Str),Fw))(ee:U[ne]?=some (("empty_lists":Str),Fe))
  (he:zIe Fe)        (ok:ZOk Fa Ff Fr Fw w h sh zs rz) (dx:drW G x=some sh)
  (hQ:∀ P:Mem,Q (.loc ((G++P).length+h),G++P++zBc rz h++[news (G++P).length h])):EvP (zAi 3 7 (evSs' J U (zHB na nf nr nw ne)) [.dat (.int w),.dat (.int h),x] G) Q:=by
 have B:=ok.b;have Z:=ok.w2;have h2:=ok.h2;have zl:=ok.zl;refine zBu rfl (by decide) ?_;unfold zHB;show EvP (evSs' J U _ ⟨[some (.dat (.int w)),some (.dat (.int h)),some x,none,none,none,none],G⟩) _;refine zAI (zEE (zNw ee he Z h2 λP1 g1 t1=>zAn ?_));(walk_at "s");refine zAI (zEE (zNw ee he Z h2 λP2 g2 Y=>zAn ?_));(walk_at "s");have ta:=t1.app P2;have i:(G++P1).length=G.length+h*(w+2)+1:=by rw[qQ,g1];omega
 rw[i] at Y;rw[i];have X:drW (G++P1++P2) x=some (sh):=(zHw (λn d q=>zIO (λm ws e=>zAT (zAT e)) 6 n d q) dx);refine zAI (zDV (zAz (zBC (zCe (zCe (zQr X))) ?_)));refine zAL ea (zAH (zAJ rfl (n_cl (zAH (zAJ rfl (n_cl (zAH (zAJ (d:=sh) rfl (n_cl (zAs ?_)))))))))) ;refine⟨_,ok.all,?_⟩;refine n_fr (zG1 (zHM λd m=>let ⟨z,A,e⟩:=mem_map.mp m;e▸(B z A).n) ⟨_,rfl,?_⟩);have lb:(G++P1++P2).length=G.length+h*(w+2)+1+h*(w+2)+1:=by rw[qQ,i,g2];omega
 dsimp only;refine zCc (s:=⟨_,_⟩) ((zs.map Pz.d).map .dat) (λj s=>∃ (k g:Option W) (a:Mem),s=⟨[some (.dat (.int w)),some (.dat (.int h)),some x,some (.loc (G.length+h*(w+2))),some (.loc (G.length+h*(w+2)+1+h*(w+2))),k,g],a⟩/\a.length=(G++P1++P2).length+1/\(∀ m:Nat,m < G.length->a[m]?=G[m]?)/\a[(G++P1++P2).length]?=some ((zs.map Pz.d).map .dat) /\
  zBk a G.length w h (fc Pz.f (zs.take j))/\zBk a (G.length+h*(w+2)+1) w h (fc Pz.g (zs.take j))) ?_ ?_ ?_ ⟨none,none,G++P1++P2++[(zs.map Pz.d).map .dat],rfl,by rw[qQ];rfl,?_,?_,?_,?_⟩
 .rintro j s ⟨k,g,a,rfl,R,K,O,E,H⟩;exact O
 .rintro j y s f ⟨k,g,a,rfl,R,K,O,E,H⟩;rw[map_map,getElem?_map] at f;obtain⟨z,b,rfl⟩:=yq.mp f;have A:=B z (mem_of_getElem? b);have et:zs.take (j+1)=zs.take j++[z]:=by rw[List.take_add_one,b];rfl
  refine⟨_,rfl,?_⟩;dsimp only;(walk_at "s");have ll:∀ (p:Pz->D) r c,(fc p (zs.take j) r c).length<=10000:=λp r c=>by
   have:=zOP (p:=p) (zs.take j) r c;rw[length_take] at this;omega
  refine zKW ef er (ok.f z (mem_of_getElem? b)) (ok.r z (mem_of_getElem? b)) A E H (by omega) (ll _) (ll _) fun μ2 e1 V e3 t3 t4=>?_
  rw[<- zK9 (p:=Pz.f) A,<- et] at t3;rw[<- zK9 (p:=Pz.g) A,<- et] at t4;exact⟨_,_,μ2,rfl,by rw[e1];exact R,λm L=>by rw[V m L];exact K m L,by rw[e3 _ (by rw[lb];omega)];exact O,t3,t4⟩
 .rintro s ⟨k,g,a,rfl,R,K,O,E,H⟩;have el:((zs.map Pz.d).map W.dat).length=zs.length:=by rw[qy,qy]
  rw[el,List.take_length] at E H;refine zAn ?_;refine zAI (zBz (zEQ (zCU (zAP (w:=.dat (.int h)) rfl ⟨(h:Int),rfl,by omega,?_⟩))));rw[toNat_natCast];obtain⟨y,s',N,e,⟨o,M,I,p3⟩,p4⟩:=zEg (t:=tgM 7) (e:=evM J U (.pur (.call nw "row_of_shares" (.cons (.ix (.var 3) (.var 7)) (.cons (.ix (.var 4) (.var 7)) .nil))))) (src:=.items ((rngL 0 h).map .dat)) (s:=⟨mask none [] [some (.dat (.int w)),some (.dat (.int h)),some x,some (.loc (G.length+h*(w+2))),some (.loc (G.length+h*(w+2)+1+h*(w+2))),k,g]++[none],a⟩) ((rngL 0 h).map .dat)
   (λj s d=>∃ o:Option W,s=⟨[some (.dat (.int w)),some (.dat (.int h)),some x,some (.loc (G.length+h*(w+2))),some (.loc (G.length+h*(w+2)+1+h*(w+2))),k,g,o],a++zBc rz j⟩/\d=news a.length j/\j<=h) (λj s d _=>rfl) (λj y s d f u=>by
    obtain⟨o,M,I,p3⟩:=u;subst M I;have F:j < h:=by
     have:=(zzg f).1;rw[qy,zAc] at this;exact this
    have S:y=.dat (.int (j:Int)):=by
     unfold rngL at f;rw[map_map,getElem?_map,getElem?_range F] at f;have:=(xQ f).symm;rw[this];simp
    subst S;have t5:=E.app (zBc rz j);have t6:=H.app (zBc rz j);have T:(a++zBc rz j).length=a.length+j:=by rw[qQ];unfold zBc;rw[qy,length_range]
    refine⟨by rw[zB8];omega,⟨[some (.dat (.int w)),some (.dat (.int h)),some x,some (.loc (G.length+h*(w+2))),some (.loc (G.length+h*(w+2)+1+h*(w+2))),k,g,some (.dat (.int (j:Int)))],a++zBc rz j⟩,(.loc (a++zBc rz j).length,(a++zBc rz j)++[(rz j).map .dat]),rfl,?_,some (.dat (.int (j:Int))),?_,?_,by omega⟩
    .refine (zBC (Q:=λr=>r=(W.loc (a++zBc rz j).length,(a++zBc rz j)++[(rz j).map .dat])) (zCe (zCe (zAg ((zLV (zNx t5)).trans (congrArg _ ((zLV (zNx t6)).trans (congrArg _ (zAg (zAg (zCe rfl))))))))) ) ?_).eq;refine zAL ew (zAH (zBh (zAJ rfl (zAJ rfl ?_))));refine zAo (d:=.lst ((List.range (w+1)).map λc=>.lst (fc Pz.f zs j c))) (zAv (by rw[getElem?_map,getElem?_range F];rfl)) (n_cl (zAH (zBh (zAJ rfl (zAJ rfl ?_)))));refine zAo (d:=.lst ((List.range (w+1)).map λc=>.lst (fc Pz.g zs j c))) (zAv (by rw[getElem?_map,getElem?_range F];rfl)) (n_cl (zAs ?_));exact⟨_,ok.w j F,n_fr (zG1 (ok.n j F) rfl)⟩
    .have:zBc rz (j+1)=zBc rz j++[(rz j).map .dat]:=by
      unfold zBc;rw[range_succ,x8]
      rfl
     rw[this,q8]
    .rw [zDN,T]) ⟨none,by unfold zBc;rw[List.range_zero,map_nil,append_nil];rfl,rfl,zero_le _⟩
  have lw:((rngL 0 h).map W.dat).length=h:=by rw[qy,zAc]
  rw[lw] at M I;subst M;have V:y=(news a.length h,a++zBc rz h):=Prod.ext I p4.symm;refine⟨y,N,e,by rw[I,zB8];omega,?_⟩;rw[V];have em:∃ P:Mem,a=G++P:=by
   refine⟨a.drop G.length,?_⟩;have:G=a.take G.length:=by
    apply ext_getElem?;intro m;rw[List.getElem?_take];by_cases q:m < G.length
    .rw [if_pos q];exact(K m q).symm
    .rw [if_neg q,getElem?_eq_none (by omega)]
   exact(List.take_append_drop G.length a).symm.trans (congrArg (λl=>l++a.drop G.length) this.symm)
  obtain⟨P,rfl⟩:=em;have q:=hQ P;have T:(G++P++zBc rz h).length=(G++P).length+h:=by rw[qQ];unfold zBc;rw[qy,length_range]
  show KFM Q (.rt (.loc (G++P++zBc rz h).length,_));rw[T];exact q
 .intro m L;rw[q8,q8,getElem?_append_left L]
 .rw [getElem?_append_right (le_refl _),sub_self];rfl
 .exact ta.app _
 .exact Y.app _
abbrev Lp:=List (Nat×List D)
structure Ll (G:Mem)(n:Nat)(l:Lp):Prop where
 top:G[n]?=some (l.map λp=>.loc p.1)
 row:∀ p∈l,G[p.1]?=some (p.2.map .dat)
abbrev llD (l:Lp):D:=.lst (l.map λp=>.lst p.2)
def Ll.dr (e:Ll G n l):drW G (.loc n)=some (llD l):=zGm e.top (zFZ _ _ l λp a=>zLU (e.row p a))
def Ll.keep (e:Ll G n l)(b:G'[n]?=G[n]?)(k2:∀ p∈l,G'[p.1]?=G[p.1]?):Ll G' n l:=⟨by rw[b];exact e.top,λp a=>by rw[k2 p a];exact e.row p a⟩
def Ll.lt (e:Ll G n l):n < G.length/\∀ p∈l,p.1 < G.length:=⟨(zzg e.top).1,λp a=>(zzg (e.row p a)).1⟩
def zAZ {i:Nat}(e:O[i]?=some (some w))(h:drW G w=some d):(drS G O)[i]?=some (some (d,false)):=by
 unfold drS
 simp_all
def zAq :drW G (.dat d)=some d:=rfl
def zDR (e:G[n]?=some (ds.map .dat)):drW G (.loc n)=some (.lst ds):=by unfold drW;exact zLU e
noncomputable def lpT (b:Nat)(rz:Nat->List D)(h:Nat):Lp:=(List.range h).map λr=>(b+r,rz r)
def zKV (c:p∈lpT b rz h):∃ r,r < h/\p=(b+r,rz r):=by
 obtain⟨r,a,rfl⟩:=mem_map.mp c;exact⟨r,mem_range.mp a,rfl⟩
def zEG (a:Nat->List D)(h:Nat):(zBc a h).length=h:=by unfold zBc;rw[qy,length_range]
def zSO (G:Mem)(a:Nat->List D)(h:Nat):Ll (G++zBc a h++[news G.length h]) (G.length+h) (lpT G.length a h):=by
 refine⟨?_,λp b=>?_⟩
 .rw [getElem?_append_right (by rw[qQ,zEG];omega),qQ,zEG,sub_self];unfold lpT news;simp
 .obtain ⟨r,c,rfl⟩:=zKV b;dsimp only;rw[getElem?_append_left (by rw[qQ,zEG];omega)];unfold zBc
  simp_all
noncomputable def zQU (nm:Nat):S:=.cons (.ret (.call nm "minus" (.cons (.ix (.ix (.var 0) (.int 2)) (.int 1)) (.cons (.ix (.ix (.var 0) (.int 3)) (.int 1)) .nil)))) .nil
def zNp (F:List D->Option R):Prop:=∀ (c r:Int) (p q:Pt) (n:Nat) (Q:R->Prop),PB n p->PB n q->n<=1000000->c.natAbs<=100->(∀ f,RB (4*n+20) f->Q (ratD f,.cl))->EvP (F [zE2 c r p q]) Q
def zQT {Fm:List D->Option R}(b:J.fns[nm]?=some (("minus":Str),Fm))(a:zD0 Fm):zNp (dFun 1 1 (evSs J (zQU nm))):=λc r p q n Q h1 h2 c _ h=>by
 (walk_at "d");unfold zQU;(walk_at "st");(walk_at "w");exact h _ ((zCW h1.y h2.y).mono (by omega))
noncomputable def zJp (ng nt nf nm nd:Nat):S:=.cons (.set 1 (.ix (.var 0) (.int 0))) (.cons (.ife (.cmp .Eq (.var 1) (.neg (.int 1))) (.cons (.ret (.glob ng "NOUGHT")) .nil) .nil) (.cons (.ret (.call nt "times" (.cons (.call nf "fall" (.cons (.var 0) .nil)) (.cons (.call nm "minus" (.cons (.tup (.cons (.bin .Add (.var 1) (.int 1)) (.cons (.int 1) .nil))) (.cons (.call nd "middle" (.cons (.ix (.ix (.var 0) (.int 2)) (.int 0)) (.cons (.ix (.ix (.var 0) (.int 3)) (.int 0)) .nil))) .nil))) .nil)))) .nil))
def zLw (F:List D->Option R):Prop:=∀ (c r:Int) (p q:Pt) (n:Nat) (Q:R->Prop),PB n p->PB n q->n<=1000000->c.natAbs<=100->(∀ f,RB (6*n+40) f->Q (ratD f,.cl))->EvP (F [zE2 c r p q]) Q
def zML {Fm:List D->Option R}(m:J.cs[ng]?=some (("NOUGHT":Str),.tup [.int 0,.int 1]))(l:J.fns[nt]?=some (("times":Str),Ft))(o:J.fns[nf]?=some (("fall":Str),Ff))(v:J.fns[nm]?=some (("minus":Str),Fm))(s:J.fns[nd]?=some (("middle":Str),Fd))
  (u:zC0 Ft) (f:zNp Ff) (t:zD0 Fm) (g:MidF Fd):zLw (dFun 1 2 (evSs J (zJp ng nt nf nm nd))):=λc r p q n Q h1 h2 b j h=>by
 (walk_at "d");unfold zJp;(walk_at "st");(walk_at "w");refine zA9 (λz=>?_) λz=>?_
 ·(walk_at "w");exact h 0 (zBB.mono (by omega))
 .have e:RB 8 ((c+1:Int):Rat):=zHy (zCx (k:=200) (by omega) (by decide)) (by decide);(walk_at "w");refine f c r p q n _ h1 h2 b j λf a=>?_
  (walk_at "w");refine g _ _ n _ h1.x h2.x (by omega) λm i=>?_
  (walk_at "w");rw[zFr];(walk_at "w");exact h _ ((zAj a (zCW e i)).mono (by omega))
noncomputable def allB (ns np:Nat):S:=.cons (.set 3 (.lst .nil)) (.cons (.for1 4 (.it (.var 2)) (.cons (.for1 5 (.it (.call ns "sides" (.cons (.var 4) .nil))) (.cons (.ext 3 (.call np "pieces" (.cons (.var 0) (.cons (.var 1) (.cons (.var 5) .nil))))) .nil)) .nil)) (.cons (.retOwn 3) .nil))
structure FlB (n P w h:Nat)(rs:List (List Pt)):Prop where
 w2:w<=12
 h2:h<=12
 m:rs.length<=6
 b:8*n+20<=1000000
 p:P<=12
 r:∀ ps∈rs,ps.length<=P/\∀ p∈ps,PB n p
def AllF (F:List D->Option R):Prop:=∀ (n P w h:Nat) (rs:List (List Pt)) (Q:R->Prop),FlB n P w h rs->(∀ ds,ds.length<=rs.length*(P*(w+h+4))->(∀ d∈ds,isZ (8*n+20) w h d)->Q (.lst ds,.fr))->EvP (F [.int w,.int h,zBQ rs]) Q
def zTr (es:J.fns[ns]?=some (("sides":Str),Fs))(I:J.fns[np]?=some (("pieces":Str),Fp))(r:zLv Fs)(E:zHs Fp):AllF (dFun 3 6 (evSs J (allB ns np))):=λn P w h f Q fb v=>by
 obtain⟨T,h2,G,S,K,F⟩:=fb;(walk_at "d");unfold allB;(walk_at "st");refine zAD ?_;(walk_at "e");have H:P*(w+h+4)<=12*28:=Nat.mul_le_mul K (by omega);have M:f.length*(P*(w+h+4))<=6*(12*28):=Nat.mul_le_mul G H;refine zAD (zC9 (zIm (zAJ rfl (w_cl (ds:=f.map zIr) ?_))));refine zDv (λxs O=>∃ (c:List D) (a b:Option (D×Bool)),O=[some (.int (w:Int),false),some (.int (h:Int),false),some (zBQ f,false),some (.lst c,true),a,b]/\(∀ x∈xs,x∈f.map zIr)/\c.length+xs.length*(P*(w+h+4))<=f.length*(P*(w+h+4))/\∀ d∈c,isZ (8*n+20) w h d) ?_ ?_ _ _ ⟨[],none,none,rfl,λ_ m=>m,by simp,by simp⟩
 .rintro x xs O ⟨c,a,b,rfl,q,i,g⟩;obtain⟨j,A,rfl⟩:=mem_map.mp (q x q9);obtain⟨L,o⟩:=F j A;have pk:=mul_le_mul_right (w+h+4) L;rw[xJ,Nat.succ_mul] at i;refine⟨_,rfl,?_⟩;(walk_at "s");refine zAD (zC9 (zIm (zAL es (zAH (zAJ rfl (n_cl (zAs ?_)))))));refine r j _ (by omega) (n_fr (w_fr ?_));refine zDv (λys O=>∃ (c:List D) (b:Option (D×Bool)),O=[some (.int (w:Int),false),some (.int (h:Int),false),some (zBQ f,false),some (.lst c,true),some (zIr j,false),b]/\(∀ y∈ys,y∈(DM.zGN j).map zGO)/\c.length+ys.length*(w+h+4)+xs.length*(P*(w+h+4))<=f.length*(P*(w+h+4))/\∀ d∈c,isZ (8*n+20) w h d) ?_ ?_ _ _ ⟨c,b,rfl,λ_ m=>m,by rw[qy,DM.zJe];omega,g⟩
  .rintro y ys O ⟨c,b,rfl,p,i,g⟩;obtain⟨s,B,rfl⟩:=mem_map.mp (p y q9);obtain⟨u,t⟩:=DM.zJd B;rw[xJ,Nat.succ_mul] at i;refine⟨_,rfl,?_⟩;(walk_at "s");refine zAD (zTY rfl (zAL I (zAH (zAJ rfl (n_cl (zAH (zAJ rfl (n_cl (zAH (zAJ rfl (n_cl (zAs ?_))))))))))));refine E w h s n _ (o _ u) (o _ t) (by omega) (by omega) (by omega) λds N C=>?_
   refine n_fr ⟨_,rfl,by omega,zBH ⟨_,_,rfl,λz m=>p z (qJ _ m),by rw[qQ];omega,λd m=>(mem_append.mp m).elim (g d) (C d)⟩⟩
  .rintro O ⟨c,b,rfl,_,i,g⟩;exact k_nx (zBH ⟨c,_,b,rfl,λz m=>q z (qJ _ m),by omega,g⟩)
 .rintro O ⟨c,a,b,rfl,_,i,g⟩;refine k_nx ?_;(walk_at "w");exact v _ (by omega) g
noncomputable def rowB (np nt ng:Nat):S:=.cons (.set 2 (.lst .nil)) (.cons (.set 3 (.glob ng "NOUGHT")) (.cons (.for1 4 (.r1 (.bin .Sub (.len (.var 0)) (.int 1))) (.cons (.set 3 (.call np "plus" (.cons (.var 3) (.cons (.call nt "total" (.cons (.ix (.var 0) (.var 4)) .nil)) .nil)))) (.cons (.app 2 (.call np "plus" (.cons (.var 3) (.cons (.call nt "total" (.cons (.ix (.var 1) (.bin .Add (.var 4) (.int 1))) .nil)) .nil)))) .nil))) (.cons (.retOwn 2) .nil)))
def RowF (F:List D->Option R):Prop:=∀ (fs gs:List D) (w L B:Nat) (Q:R->Prop),fs.length=w+1->gs.length=w+1->w<=12->L<=5000->L*(B+1)<=4000000->(∀ d∈fs++gs,∃ f:List Rat,d=zC3 f/\f.length<=L/\∀ q∈f,RB B q)->(∀ qs:List Rat,qs.length=w->(∀ q∈qs,RB ((w+1)*(L*(B+1)+2)+1) q)->Q (zC3 qs,.fr))->EvP (F [.lst fs,.lst gs]) Q
def zNu (h:f.length<=L/\∀ q∈f,RB B q):WB f (f.length*(B+1))/\f.length*(B+1)<=L*(B+1)/\RB (L*(B+1)+1) (DM.sumR f):=by
 have a:=zNs h.2;have b:f.length*(B+1)<=L*(B+1):=mul_le_mul_right _ h.1;exact⟨a,b,(zNr a).mono (Nat.succ_le_succ b)⟩
def zRa (ep:J.fns[np]?=some (("plus":Str),Fp))(et:J.fns[nt]?=some (("total":Str),Ft))(P:J.cs[ng]?=some (("NOUGHT":Str),.tup [.int 0,.int 1]))(X:zEv Fp)(t:zLs Ft):RowF (dFun 2 5 (evSs J (rowB np nt ng))):=λfs C w L B Q lf lg W hL E v K=>by
 (walk_at "d");unfold rowB;(walk_at "st");refine zAD ?_;(walk_at "e");refine zAD (zCz (zCE P ?_));(walk_at "e");refine zAD (zC9 (zIl (zAl (zB3 (zAJ rfl (zGf (zAk (zTp ?_))))))));refine⟨_,rfl,by omega,?_⟩;rw[show ((fs.length:Int) - 1).toNat=w by omega];generalize hM:L*(B+1)=M at *;refine zDv (λxs O=>∃ (j:Nat) (o:Option (D×Bool)) (q:Rat) (b:List Rat),O=[some (.lst fs,false),some (.lst C,false),some (zC3 b,true),some (ratD q,false),o]/\xs=(rngL 0 w).drop j/\j<=w/\b.length=j/\RB (1+j*(M+2)) q/\∀ q∈b,RB ((w+1)*(M+2)+1) q) ?_ ?_ _ _ ⟨0,none,0,[],rfl,rfl,zero_le _,rfl,zBB.mono (by omega),by simp⟩
 .rintro x xs O ⟨j,o,q,b,rfl,a,A,p,rb,hq⟩;obtain⟨n,rfl,rfl⟩:=zRb a.symm;obtain⟨d,T,S⟩:=zGC (ds:=fs) (k:=j) (by omega) (by omega);obtain⟨e,V,G⟩:=zGC (ds:=C) (k:=(j:Int)+1) (by omega) (by omega);obtain⟨f,rfl,h⟩:=v d (List.mem_append_left _ T);obtain⟨g,rfl,c⟩:=v e (xy _ V);obtain⟨U,R,r⟩:=zNu h;obtain⟨N,H,u⟩:=zNu c;rw[hM] at R r H u;have Y:=h.1;have Z:=c.1;have F:(j+1)*(M+2)<=w*(M+2):=mul_le_mul_right _ n;have wb:w*(M+2)<=12*(M+2):=mul_le_mul_right _ W;have i:=zCO rb r;have l:=zCO i u;rw[Nat.succ_mul] at F;refine⟨_,rfl,?_⟩;(walk_at "s");refine zAD ?_;(walk_at "e");refine zAo S ?_;(walk_at "e");refine t f _ _ U (by omega) (by omega) ?_;(walk_at "e");refine zAD (zCd rfl (by rw[qy];omega) ?_);(walk_at "e");refine zAo G ?_;(walk_at "e");refine t g _ _ N (by omega) (by omega) ?_;(walk_at "e");refine zBH ⟨j+1,_,_,b++[_],by unfold zC3;rw[x8];rfl,rfl,by omega,by simp[p],i.mono (by rw[Nat.succ_mul];omega),λz m=>(mem_append.mp m).elim (hq z) λy=>mem_singleton.mp y▸l.mono (by rw[Nat.succ_mul];omega)⟩
 .rintro O ⟨j,o,q,b,rfl,a,A,p,rb,hq⟩;obtain rfl:=zOv a A;refine k_nx ?_;(walk_at "w");exact K _ p hq
def zMc (a:List Rat):noLs (a.map ratD)=true:=by
 induction a with
 | nil=>rfl
 | cons q a b=>rw[map_cons,noLs,b];rfl
def zRB (H:AllF Fa)(J:zNp Ff)(o:zLw Fr)(R:RowF Fw)(fb:FlB n P w h rs)(N:(w+1)*(rs.length*(P*(w+h+4))*(48*n+161)+2) < B)(L:rs.length*(P*(w+h+4))*(48*n+161)<=4000000) :
  ∃ T:List (List Rat),(T.length=h/\∀ qs∈T,qs.length=w/\∀ q∈qs,RB B q)/\∃ zs,ZOk Fa Ff Fr Fw w h (zBQ rs) zs λr=>(T.getD r []).map ratD:=by
 obtain⟨x,K,ds,rfl,E,Q⟩:=H n P w h rs (λx=>∃ ds:List D,x=(.lst ds,.fr)/\ds.length<=rs.length*(P*(w+h+4))/\∀ d∈ds,isZ (8*n+20) w h d) fb λds l p=>⟨ds,rfl,l,p⟩
 have s:=fb.w2;have h2:=fb.h2;have t:=fb.b;have S:rs.length*(P*(w+h+4))<=6*(12*28):=Nat.mul_le_mul fb.m (Nat.mul_le_mul fb.p (by omega));generalize rs.length*(P*(w+h+4))=M at *;obtain⟨zs,rfl,k⟩:=zLC (f:=Pz.d) (P:=λz=>PzB w h z/\Ff [z.d]=some (z.f,.cl)/\Fr [z.d]=some (z.g,.cl)/\isR (48*n+160) z.f/\isR (48*n+160) z.g) (ds:=ds) λd m=>by
  obtain⟨c,r,p,q,rfl,c0,F,C,r1,u,v⟩:=Q d m;obtain⟨_,I,f,rfl,j⟩:=J c r p q _ (λx=>∃ f,x=(ratD f,.cl)/\RB (48*n+160) f) u v t (by omega) λf j=>⟨f,rfl,j.mono (by omega)⟩
  obtain⟨_,A,g,rfl,y⟩:=o c r p q _ (λx=>∃ f,x=(ratD f,.cl)/\RB (48*n+160) f) u v t (by omega) λf j=>⟨f,rfl,j.mono (by omega)⟩
  exact⟨⟨c,r,ptD p,ptD q,ratD f,ratD g⟩,rfl,⟨C,r1,c0,F,rfl,rfl,rfl⟩,I,A,⟨f,rfl,j⟩,g,rfl,y⟩
 rw[qy] at E;have fr:∀ (p:Pz->D),(∀ z∈zs,isR (48*n+160) (p z))->∀ r c,∃ f:List Rat,D.lst (fc p zs r c)=zC3 f/\f.length<=M/\∀ q∈f,RB (48*n+160) q:=λp O r c=>by
  obtain⟨f,e,b⟩:=zLC (f:=ratD) (P:=RB (48*n+160)) (ds:=fc p zs r c) λd m=>by
   obtain⟨z,G,rfl⟩:=mem_map.mp m;exact O z (mem_filter.mp G).1
  refine⟨f,congrArg _ e,?_,b⟩;have:=congrArg List.length e;rw[qy] at this;have:=zOP (p:=p) zs r c;omega
 have i:∀ r,∃ qs:List Rat,Fw [.lst ((List.range (w+1)).map λc=>.lst (fc Pz.f zs r c)),.lst ((List.range (w+1)).map λc=>.lst (fc Pz.g zs r c))]=some (zC3 qs,.fr)/\qs.length=w/\∀ q∈qs,RB B q:=λr=>by
  obtain⟨_,e,qs,rfl,q⟩:=R ((List.range (w+1)).map λc=>.lst (fc Pz.f zs r c)) ((List.range (w+1)).map λc=>.lst (fc Pz.g zs r c)) w M (48*n+160) (λx=>∃ qs:List Rat,x=(zC3 qs,.fr)/\qs.length=w/\∀ q∈qs,RB B q) (by simp) (by simp) s (by omega) L (λd m=>by
   rcases mem_append.mp m with m | m<;>(obtain⟨c,_,rfl⟩:=mem_map.mp m)
   .exact fr Pz.f (λz m=>(k z m).2.2.2.1) r c
   .exact fr Pz.g (λz m=>(k z m).2.2.2.2) r c) λqs l b=>⟨qs,rfl,l,λq m=>(b q m).mono N⟩
  exact⟨qs,e,q⟩
 refine⟨(List.range h).map λr=>(i r).choose,⟨by simp,λqs m=>?_⟩,zs,⟨s,h2,by omega,K,λz m=>(k z m).1,λz m=>(k z m).2.1,λz m=>(k z m).2.2.1,λr o=>?_,λr o=>zMc _⟩⟩
 .obtain ⟨r,_,rfl⟩:=mem_map.mp m;exact(i r).choose_spec.2
 .rw [getD_eq_getElem?_getD,getElem?_map,getElem?_range o];exact(i r).choose_spec.1
end DL
end
section
namespace DL
open PySem Spec PyProof.Rows L2
section
variable {J:Gm}{U:Dm}{s:Mst}
def zHP (h:EvP (evM J U a s) λx=>∃ c ns l w,x.1=.obj c ns l/\(c,fl,none)∈J.ob/\(ns.zip l).lookup fl=some w/\Q (w,x.2)):EvP (evM J U (.fld a fl) s) Q:=by
 obtain⟨⟨x,m⟩,e,c,ns,l,w,rfl,h1,h2,q⟩:=h;refine⟨_,?_,q⟩;show fldM J.ob fl _ s=_;unfold fldM;rw[e,qx]
 simp_all
def zOS (h:EvP (evE J a O) λx=>∃ c ns l d,x.1=.obj c ns l/\(c,fl,none)∈J.ob/\(ns.zip l).lookup fl=some d/\Q (d,.cl)):EvP (evE J (.fld a fl) O) Q:=by
 obtain⟨⟨x,k⟩,e,c,ns,l,d,rfl,h1,h2,q⟩:=h;refine⟨_,?_,q⟩;show one _ _ O=_;unfold one;rw[e];show (if _∈J.ob then _ else _)=_
 simp_all
def zPi (h:EvP (evM J U a s) λx=>∃ c n y F,clsW m x.1=some c/\ix.lookup c=some n/\U[n]?=some (y,F)/\spec.lookup y=some (.mth c m)/\EvP (evMs J U es ⟨s.O,x.2⟩) λws=>EvP (F (x.1::ws.1) ws.2) Q):EvP (evM J U (.mth ix m a es) s) Q:=by
 obtain⟨x,e,c,n,y,F,f,j,i,d,ws,b,r,g,q⟩:=h;refine⟨r,?_,q⟩;show mthM U ix m _ _ s=_;unfold mthM
 simp_all
def m_mk (f:U[n]?=some (y,F))(b:spec.lookup y=some (.mk c kw))(h:EvP (evMs J U es s) λws=>EvP (F (ws.1++zPS d) ws.2) Q):EvP (evM J U (.mk n c kw d es) s) Q:=by
 obtain⟨ws,a,r,e,q⟩:=h;refine⟨r,?_,q⟩;show mkM U n c kw d _ s=_;unfold mkM
 simp_all
def zUQ (h:EvP (evM J U a s) λx=>∃ n ws,x.1=.loc n/\x.2[n]?=some ws/\Q (.loc x.2.length,x.2++[ws])):EvP (evM J U (.lcp a) s) Q:=by
 obtain⟨⟨x,m⟩,e1,n,ws,rfl,e2,q⟩:=h;refine⟨_,?_,q⟩;show lcpM _ s=_;unfold lcpM;rw[e1,qx]
 simp_all
def zFu {c:Str}{n:Nat}{L:List (Str×(Mst->Option MR))}{ws:List W}{G:Mem}{Q:MR->Prop}(h1:ws.length=n)(a:mutK (L.map (·.1))=false)(h:EvP (zD2 L ⟨none::ws.map some,G⟩) λz=>Q (.obj c (L.map (·.1)) z.1,z.2)):EvP (zFv c n L ws G) Q:=by
 obtain⟨z,e,q⟩:=h;exact⟨_,by unfold zFv;rw[if_pos h1,e];unfold mkR;rw[a];rfl,q⟩
def zCA (h:EvP (g s) λw=>EvP (zD2 r ⟨s.O,w.2⟩) λz=>Q (w.1::z.1,z.2)):EvP (zD2 ((x,g)::r) s) Q:=by
 obtain⟨w,a,z,b,q⟩:=h;exact⟨_,by unfold zD2;dsimp only;rw[a,qx,b];rfl,q⟩
def zIC (h:Q ([],s.G)):EvP (zD2 [] s) Q:=⟨_,rfl,h⟩
end
noncomputable def binC (op:Operator)(x y:D):Option R:=match op,x,y with
 | .Mult,.int i,.int j=>if i.natAbs < 18446744073709551616 then some (.int (i*j),.cl) else none
 | .FloorDiv,.int i,.int j=>if j=0 then none else some (.int (i.fdiv j),.cl)
 | .Add,.int i,.int j=>some (.int (i+j),.cl)
 | .Add,.lst xs,.lst ys=>if xs.length+ys.length<=10000 then some (.lst (xs++ys),.fr) else none
 | .Add,.tup (x::xs),.tup (y::ys)=>if (x::xs).length+(y::ys).length<=10000 then some (.tup ((x::xs)++(y::ys)),.cl) else none
 | .Sub,.int i,.int j=>some (.int (i - j),.cl)
 | .Mod,.int i,.int j=>if j=0 then none else some (.int (i.fmod j),.cl)
 | _,_,_=>none
mutual
def cvE (J:Gm):E->Dst->Option R
 | .var i=>varD i
 | .glob n x=>zD4 J n x
 | .int i=>λ_=>some (.int i,.cl)
 | .bl b=>λ_=>some (.bl b,.cl)
 | .non=>λ_=>some (.non,.cl)
 | .str x=>λ_=>some (.str x,.cl)
 | .bin op a b=>two (cvE J a) (cvE J b) (binC op)
 | .neg a=>negD (cvE J a)
 | .not a=>notD (cvE J a)
 | .cmp op a b=>two (cvE J a) (cvE J b) (cmpD op)
 | .andl es=>cvAnd J es
 | .orl es=>cvOr J es
 | .ite c a b=>iteD (cvE J c) (cvE J a) (cvE J b)
 | .tup es=>tupD (cvEs J es)
 | .lst es=>lstD (cvEs J es)
 | .ix a i=>two (cvE J a) (cvE J i) ixD
 | .sl a lo hi=>slD (cvE J a) (cvO J lo) (cvO J hi)
 | .call n f es=>fnD J n f (cvEs J es)
 | .len a=>one (cvE J a) lenD
 | .abs a=>one (cvE J a) absD
 | .list a=>one (cvE J a) zHS
 | .max a b=>two (cvE J a) (cvE J b) maxD
 | .chn op op' a b c=>chD (cmpD op) (cmpD op') (cvE J a) (cvE J b) (cvE J c)
 | .tupl a=>one (cvE J a) zEx
 | .lrev a=>one (cvE J a) revD
 | .comp1 n ms _ src c e=>zF5 ms 1 (cvI J src) (tg1 n) (cvC J c) (cvE J e)
 | .lzip a b=>two (cvE J a) (cvE J b) zipD
 | _=>λ_=>none
def cvI (J:Gm):E->Dst->Option (List D)
 | .it e=>zDP (cvE J e)
 | .r1 a=>zFc (cvE J a)
 | .r2 a b=>zGS (cvE J a) (cvE J b)
 | .r3 a b c=>zFb (cvE J a) (cvE J b) (cvE J c)
 | _=>λ_=>none
def cvC (J:Gm):E->Dst->Option Bool
 | .nil=>λ_=>some true
 | .cons c _=>asB (cvE J c)
 | _=>λ_=>none
def cvEs (J:Gm):E->Dst->Option (List D)
 | .nil=>λ_=>some []
 | .cons e es=>zHn (cvE J e) (cvEs J es)
 | _=>λ_=>none
def cvAnd (J:Gm):E->Dst->Option R
 | .cons e es=>(match es with
  | .nil=>cvE J e
  | es=>andD (cvE J e) (cvAnd J es))
 | _=>λ_=>none
def cvOr (J:Gm):E->Dst->Option R
 | .cons e es=>(match es with
  | .nil=>cvE J e
  | es=>orD (cvE J e) (cvOr J es))
 | _=>λ_=>none
def cvO (J:Gm):E->Dst->Option (Option Int)
 | .cons e _=>zFj (cvE J e)
 | _=>λ_=>some none
end
mutual
def cvS (J:Gm):S->Dst->Option Out
 | .set i e=>setD i (cvE J e)
 | .setC i e=>setD i (cvE J e)
 | .app i e=>appD i (cvE J e)
 | .ext i e=>extD i (cvE J e)
 | .aug op i e=>augD op i (cvE J e)
 | .ife c a b=>ifD (asB (cvE J c)) (cvSs J a) (cvSs J b)
 | .whl c b=>zBP (asB (cvE J c)) (cvSs J b) 100
 | .for1 i it b=>λO=>(cvI J it O).bind λxs=>forD (tg1 i) (cvSs J b) xs O
 | .ret e=>retD (cvE J e)
 | .retOwn i=>zDY i
 | _=>λ_=>none
def cvSs (J:Gm):S->Dst->Option Out
 | .nil=>λO=>some (.nx O)
 | .cons a b=>seqD (cvS J a) (cvSs J b)
 | .frz i r=>seqD (frzD i) (cvSs J r)
 | _=>λ_=>none
end
def Le {T M:Type}(f g:T->Option M):Prop:=∀ x r,f x=some r->g x=some r
structure GLe (C G:Gm):Prop where
 ln:C.fns.length=G.fns.length
 cs:C.cs=G.cs
 fn:∀ (n:Nat) (x:Str) F,C.fns[n]?=some (x,F)->∃ F',G.fns[n]?=some (x,F')/\Le F F'
def zAB {T M:Type}{g:T->Option M}:Le (λ_=>none) g:=nofun
def zAh {T M:Type}{g:T->Option M}:Le g g:=λ_ _ z=>z
def bnd {M P:Type}{p a:Option M}{k b:M->Option P}{r:P}(h:∀ y,p=some y->a=some y)(d:∀ y r,k y=some r->b y=some r)(e:p.bind k=some r):a.bind b=some r:=by
 obtain⟨y,c,e⟩:=bind_some e;rw[h y c];exact d y r e
def zNt (h:Le f f')(k:Le g g')(a:∀ x y r,o x y=some r->o' x y=some r):Le (two f g o) (two f' g' o'):=λx r e=>bnd (h x) (λ_ r e=>bnd (k x) (λ_ r e=>a _ _ r e) e) e
def zEm (h:Le f f'):Le (asB f) (asB f'):=λx r e=>by
 unfold asB at e ⊢;cases q:f x with
 | none=>rw[q] at e;cases e
 | some y=>rw[q] at e;rw[h x y q];exact e
def zPV (h:Le f f'):Le (negD f) (negD f'):=λx r e=>by
 unfold negD at e ⊢;cases q:f x with
 | none=>rw[q] at e;cases e
 | some y=>rw[q] at e;rw[h x y q];exact e
def zI5 {P:Type}{b:Bool}{p q a c:Option P}{r:P}(h:∀ r,p=some r->a=some r)(k:∀ r,q=some r->c=some r)(e:(if b=true then p else q)=some r):(if b=true then a else c)=some r:=by
 cases b
 .exact k r e
 .exact h r e
def ndt {P:Type}{k:Kd}{p a:Option P}{r:P}(h:∀ r,p=some r->a=some r)(e:(if k=.dt then none else p)=some r):(if k=.dt then none else a)=some r:=by grind
def zMW (h:Le f f'):Le (zFj f) (zFj f'):=λx r e=>by
 unfold zFj at e ⊢;cases q:f x with
 | none=>rw[q] at e;cases e
 | some y=>rw[q] at e;rw[h x y q];exact e
def zKj (h:Le f f'):Le (zDP f) (zDP f'):=λx r e=>by
 unfold zDP at e ⊢;cases q:f x with
 | none=>rw[q] at e;cases e
 | some y=>rw[q] at e;rw[h x y q];exact e
def zMK (h:Le f f'):Le (zFc f) (zFc f'):=λx r e=>by
 unfold zFc at e ⊢;cases q:f x with
 | none=>rw[q] at e;cases e
 | some y=>rw[q] at e;rw[h x y q];exact e
def zMJ (h:Le f f')(k:Le g g'):Le (zGS f g) (zGS f' g'):=λx r e=>by
 unfold zGS at e ⊢;split at e
 .rename_i q p;rw[h x _ q,k x _ p];omega
 .cases e
def zMI (h:Le f f')(k:Le g g')(l:Le u u'):Le (zFb f g u) (zFb f' g' u'):=λx r e=>by
 unfold zFb at e ⊢;split at e
 .rename_i q p o;rw[h x _ q,k x _ p,l x _ o];omega
 .cases e
def zTJ (b:GLe C G)(k:Le g g'):Le (fnD C n x g) (fnD G n x g'):=λO r e=>by
 unfold fnD at e ⊢;split at e
 .rename_i y F q;obtain⟨d,c,a⟩:=b.fn n y F q;rw[c];dsimp only;by_cases z:y=x
  .rw [if_pos z] at e ⊢;exact bnd (k O) (λds _ e=>bnd (a ds) (λ_ _ e=>e) e) e
  .simp_all
 .cases e
def zM5 (a:GLe C G):Le (zD4 C n x) (zD4 G n x):=by
 unfold zD4;rw[a.cs];exact zAh
def zTl (c:Le f f')(a:Le g g')(b:Le h h'):Le (chD o o' f g h) (chD o o' f' g' h'):=λx r e=>bnd (c x) (λ_ r e=>bnd (a x) (λ_ r e=>by
 split at e
 .exact bnd (b x) (λ_ _ e=>e) e
 .omega
 .cases e) e) e
theorem zIV (hc:Le c c')(he:Le e e'):∀ xs,Le (zCF t c e xs) (zCF t c' e' xs)
  | []=>λ_ _ z=>z
  | x::xs=>λO r h=>by
    have ih:=zIV (t:=t) hc he xs;rw[zCF] at h ⊢;exact bnd (λ_ e=>e) (λO5 r h=>bnd (hc O5) (λ_ _ h=>zI5 (λ_ h=>bnd (he O5) (λ_ _ h=>ndt (λ_ h=>bnd (ih O5) (λ_ _ e=>e) h) h) h) (ih O5) h) h) h
def zNd (a:Le f f')(b:Le c c')(g:Le e e'):Le (zF5 ms k f t c e) (zF5 ms k f' t c' e'):=λx r e=>bnd (a x) (λzs r h=>by
 by_cases q:zs.length<=10000
 .rw [if_pos q] at h ⊢;exact bnd (zIV b g zs _) (λ_ _ e=>e) h
 .rw [if_neg q] at h;cases h) e
def zQz (a:Operator)(x y:D)(r:R)(e:binC a x y=some r):binD a x y=some r:=by
 unfold binC at e;split at e
 .split at e
  .rename_i i j z;exact(if_pos (zCS z)).trans e
  .cases e
 .split at e
  .cases e
  .rename_i z;exact(if_pos z).trans e
 all_goals first | exact e | cases e
def zJi (h:Le f f')(k:Le g g'):Le (seqD f g) (seqD f' g'):=λx r e=>bnd (h x) (λo r e=>by
 cases o with
 | nx O=>exact k O r e
 | _=>exact e) e
def zJh (h:Le f f'):Le (setD i f) (setD i f'):=λx r e=>bnd (h x) (λ_ _ e=>e) e
def zOw (h:Le f f'):Le (retD f) (retD f'):=λx r e=>bnd (h x) (λ_ _ e=>e) e
def zQ5 (h:Le f f'):Le (appD i f) (appD i f'):=λx r e=>by
 unfold appD at e ⊢;split at e
 .exact bnd (h x) (λ_ _ e=>e) e
 .omega
def zQW (h:Le f f'):Le (extD i f) (extD i f'):=λx r e=>by
 unfold extD at e ⊢;split at e
 .exact bnd (h x) (λ_ _ e=>e) e
 .omega
def zQ1 (h:Le f f'):Le (augD op i f) (augD op i f'):=λx r e=>by
 unfold augD at e ⊢;split at e
 .exact bnd (h x) (λ_ _ e=>e) e
 .omega
theorem zK3 (h:Le b b'):∀ xs,Le (forD t b xs) (forD t b' xs)
  | []=>λ_ _ z=>z
  | x::xs=>λO r e=>by
    have ih:=zK3 (t:=t) h xs;rw[forD] at e ⊢;obtain⟨O5,e1,e⟩:=bind_some e;obtain⟨o,e2,e⟩:=bind_some e;rw[e1,qx,h O5 o e2];cases o with
    | nx O=>exact ih O r e
    | ct O=>exact ih O r e
    | _=>exact e
theorem zGH (hc:Le c c')(h:Le b b'):∀ n,Le (zBP c b n) (zBP c' b' n)
  | 0=>λ_ _ z=>nomatch z
  | n+1=>λO r e=>by
    have ih:=zGH hc h n;rw[zBP] at e ⊢;obtain⟨k,e1,e⟩:=bind_some e;rw[hc O k e1,qx];refine zI5 (λr e=>?_) (λ_ z=>z) e;obtain⟨o,e2,e⟩:=bind_some e;rw[h O o e2];cases o with
    | nx O=>exact ih O r e
    | ct O=>exact ih O r e
    | _=>exact e
structure LE (C G:Gm)(x:E):Prop where
 e:Le (cvE C x) (evE G x)
 i:Le (cvI C x) (evI G x)
 c:Le (cvC C x) (evC G x)
 s:Le (cvEs C x) (evEs G x)
 a:Le (cvAnd C x) (evAnd G x)
 o:Le (cvOr C x) (evOr G x)
 p:Le (cvO C x) (evO G x)
def le_E (d:GLe C G)(e:E):LE C G e:=by
 induction e with
 | cons e es h k =>
  refine⟨zAB,zAB,zEm h.e,(λx r e=>bnd (h.e x) (λ_ _ e=>ndt (λ_ e=>bnd (k.s x) (λ_ _ e=>e) e) e) e),?_,?_,zMW h.e⟩
  .cases es with
   | nil=>exact h.e
   | _=>exact (λx r e=>bnd (zEm h.e x) (λ_ _ e=>zI5 (k.a x) (λ_ z=>z) e) e)
  .cases es with
   | nil=>exact h.e
   | _=>exact (λx r e=>bnd (zEm h.e x) (λ_ _ e=>zI5 (λ_ z=>z) (k.o x) e) e)
 | glob n x=>exact⟨zM5 d,zAB,zAB,zAB,zAB,zAB,zAh⟩
 | bin g a b h k=>exact⟨zNt h.e k.e (zQz g),zAB,zAB,zAB,zAB,zAB,zAh⟩
 | neg a h=>exact⟨zPV h.e,zAB,zAB,zAB,zAB,zAB,zAh⟩
 | not a h=>exact⟨(λx r e=>bnd (zEm h.e x) (λ_ _ e=>e) e),zAB,zAB,zAB,zAB,zAB,zAh⟩
 | andl a h=>exact⟨h.a,zAB,zAB,zAB,zAB,zAB,zAh⟩
 | orl a h=>exact⟨h.o,zAB,zAB,zAB,zAB,zAB,zAh⟩
 | tup a h=>exact⟨(λx r e=>bnd (h.s x) (λ_ _ e=>e) e),zAB,zAB,zAB,zAB,zAB,zAh⟩
 | lst a h=>exact⟨(λx r e=>bnd (h.s x) (λ_ _ e=>e) e),zAB,zAB,zAB,zAB,zAB,zAh⟩
 | ite a b c h k l=>exact⟨(λx r e=>bnd (zEm h.e x) (λ_ _ e=>zI5 (k.e x) (l.e x) e) e),zAB,zAB,zAB,zAB,zAB,zAh⟩
 | sl a b c h k l=>exact⟨(λx r e=>bnd (h.e x) (λ_ r e=>bnd (k.p x) (λ_ r e=>bnd (l.p x) (λ_ _ e=>e) e) e) e),zAB,zAB,zAB,zAB,zAB,zAh⟩
 | call n f es h=>exact⟨zTJ d h.s,zAB,zAB,zAB,zAB,zAB,zAh⟩
 | chn o i a b c h k l=>exact⟨zTl h.e k.e l.e,zAB,zAB,zAB,zAB,zAB,zAh⟩
 | comp1 n j x a b c h k l=>exact⟨zNd h.i k.c l.e,zAB,zAB,zAB,zAB,zAB,zAh⟩
 | it a h=>exact⟨zAB,zKj h.e,zAB,zAB,zAB,zAB,zAh⟩
 | r1 a h=>exact⟨zAB,zMK h.e,zAB,zAB,zAB,zAB,zAh⟩
 | r2 a b h k=>exact⟨zAB,zMJ h.e k.e,zAB,zAB,zAB,zAB,zAh⟩
 | r3 a b c h k l=>exact⟨zAB,zMI h.e k.e l.e,zAB,zAB,zAB,zAB,zAh⟩
 | nil=>exact⟨zAB,zAB,zAh,zAh,zAB,zAB,zAh⟩
 | _=>first
  | exact⟨zAB,zAB,zAB,zAB,zAB,zAB,zAh⟩
  | exact⟨zAh,zAB,zAB,zAB,zAB,zAB,zAh⟩
  | (rename_i h;exact⟨(λx r e=>bnd (h.e x) (λ_ _ e=>e) e),zAB,zAB,zAB,zAB,zAB,zAh⟩)
  | (rename_i h k;exact⟨zNt h.e k.e λ_ _ _ e=>e,zAB,zAB,zAB,zAB,zAB,zAh⟩)
def le_S (d:GLe C G)(s:S):Le (cvS C s) (evS G s)/\Le (cvSs C s) (evSs G s):=by
 induction s with
 | cons a b h k=>exact⟨zAB,zJi h.1 k.2⟩
 | frz i r h=>exact⟨zAB,zJi zAh h.2⟩
 | nil=>exact⟨zAB,zAh⟩
 | set i e=>exact⟨zJh (le_E d e).e,zAB⟩
 | setC i e=>exact⟨zJh (le_E d e).e,zAB⟩
 | app i e=>exact⟨zQ5 (le_E d e).e,zAB⟩
 | ext i e=>exact⟨zQW (le_E d e).e,zAB⟩
 | aug o i e=>exact⟨zQ1 (le_E d e).e,zAB⟩
 | ret e=>exact⟨zOw (le_E d e).e,zAB⟩
 | ife c a b h k=>exact⟨(λx r e=>bnd ((zEm (le_E d c).e) x) (λ_ _ e=>zI5 (h.2 x) (k.2 x) e) e),zAB⟩
 | whl c b h=>exact⟨λO r e=>zBx (zGH (zEm (le_E d c).e) h.2 100 O r e),zAB⟩
 | for1 i it b h=>exact⟨λO r e=>bnd ((le_E d it).i O) (λxs r e=>zK3 h.2 xs O r e) e,zAB⟩
 | retOwn i=>exact⟨zAh,zAB⟩
 | _=>exact⟨zAB,zAB⟩
def zE9 (a:GLe C G)(b:S):Le (dFun np nN (cvSs C b)) (dFun np nN (evSs G b)):=λds r e=>by
 unfold dFun at e ⊢;by_cases q:ds.length=np/\np<=nN
 .rw [if_pos q] at e ⊢;obtain⟨o,c,e⟩:=bind_some e;rw[(le_S a b).2 _ _ c];exact e
 .simp_all
noncomputable def Gm.ad (C:Gm)(x:Str)(F:List D->Option R):Gm:={ C with fns:=C.fns++[(x,F)] }
def zHY (h:GLe C G)(j:Le F F'){a b c d e}:GLe (C.ad x F) ⟨G.fns++[(x,F')],G.cs,a,b,c,d,e⟩:=by
 have f:=h.ln;refine⟨by show (C.fns++[_]).length=(G.fns++[_]).length;rw[qQ,qQ,f];rfl,h.cs,λn y F1 e=>?_⟩;have e:(C.fns++[(x,F)])[n]?=some (y,F1):=e;by_cases q:n < C.fns.length
 .rw [getElem?_append_left q] at e;obtain⟨F2,g,i⟩:=h.fn n y F1 e;exact⟨F2,(getElem?_append_left (by omega)).trans g,i⟩
 .have:n=C.fns.length:=by have:=(zzg e).1;rw[qQ] at this;have:n < C.fns.length+1:=this;omega
  simp_all
end DL
end
section
namespace DL
open PySem L2
end DL
end
open PySem L2 DL
local macro_rules | `(tactic| walk_at "mw")=>`(tactic| first
 | (with_reducible first | refine zAI ?_ | refine zA6 ?_ | refine zCw ?_ | refine zEE ?_ | refine zBz ?_ | refine zDG ?_ | refine zEF ?_ | refine zDV ?_ | refine zBC rfl ?_ | refine zRH rfl ?_ | refine zAK ?_) | ((with_reducible refine zA4 ?_);try dsimp only) | with_reducible refine⟨_,_,zAq,zAq,?_⟩ | (with_reducible first | refine zKT ?_ | refine m_ix ?_ | refine zCU ?_ | refine zPi ?_ | refine zAz ?_) | ((with_reducible show EvP (evM _ _ (DL.ME.mk _ _ _ _ _) _) _);refine m_mk rfl (by decide +kernel) ?_)
 | ((with_reducible refine zAn ?_);try (walk_at "s")) | with_reducible refine zDh ?_
 | ((with_reducible show EvP (evM _ _ (DL.ME.var _) _) _);refine zAP rfl ?_)
 | ((with_reducible show EvP (evE _ (DL.E.var _) (drS _ _)) _);first | refine zAJ (zAZ rfl zAq) ?_ | refine zAJ (zAZ rfl (by assumption)) ?_)
 | ((with_reducible show EvP (evM _ _ (DL.ME.call _ _ _) _) _);refine zBK rfl ?_)
 | ((with_reducible show EvP (zD5 (_,DL.Kd.cl) _) _);refine zBb rfl ?_)
 | ((with_reducible show EvP (zD5 (DL.D.lst _,DL.Kd.fr) _) _);refine zG1 rfl ?_)
 | with_reducible refine zBD (by first | decide | omega) ?_ | with_reducible refine zCK (zBU (by decide) (by decide)) ?_ | with_reducible refine zAx (zEN (by decide)) ?_ | with_reducible refine zAx (zCS (by decide)) ?_
 | walk_at "ev")
section
namespace DL
open PySem L2
end DL
end
open PySem L2 DL
local macro_rules | `(tactic| walk_at "f")=>`(tactic| exact ⟨rfl,rfl,rfl,by decide +kernel,rfl,by decide +kernel,by decide +kernel⟩)
section
namespace Q
open PySem L2 DL
noncomputable def top (i:Nat):Stmt:=PySem.Challenge.pw_coverfill_k32_masked.main.body.getD i (.Pass ⟨0,0,0,0⟩)
noncomputable def bs:List Str:=["abs","len","range","list","tuple","zip","reversed","max","isinstance","bool","int"]
noncomputable def b0:S:=zPd
noncomputable def b1:S:=.cons (.ife (.cmp .Eq (.var 1) (.int 0)) (.cons (.rse "NoRatio" (.str "the bottom of a ratio is not 0")) .nil) .nil) (.cons (.set 2 (.call 0 "common_measure" (.cons (.abs (.var 0)) (.cons (.abs (.var 1)) .nil)))) (.cons (.ife (.cmp .Lt (.var 1) (.int 0)) (.cons (.set 2 (.neg (.var 2))) .nil) .nil) (.cons (.ret (.tup (.cons (.bin .FloorDiv (.var 0) (.var 2)) (.cons (.bin .FloorDiv (.var 1) (.var 2)) .nil)))) .nil)))
noncomputable def b2:S:=zIs "ratio" 1
noncomputable def b3:S:=zE7 "ratio" 1
noncomputable def b4:S:=zEy "ratio" 1
noncomputable def b5:S:=zHI "ratio" 1
noncomputable def b6:S:=zPX 2
noncomputable def b7:S:=zJS 6 0
noncomputable def b8:S:=zJQ
noncomputable def b9:S:=.cons (.ife (.call 8 "under" (.cons (.var 0) (.cons (.var 1) .nil))) (.cons (.ret (.var 1)) .nil) .nil) (.cons (.ife (.call 8 "under" (.cons (.var 2) (.cons (.var 0) .nil))) (.cons (.ret (.var 2)) .nil) .nil) (.cons (.ret (.var 0)) .nil))
noncomputable def b10:S:=wpB
noncomputable def b11:S:=.cons (.ret (.call 9 "between" (.cons (.var 0) (.cons (.glob 0 "NOUGHT") (.cons (.glob 2 "ONE") .nil))))) .nil
noncomputable def b12:S:=zLh 2 0
noncomputable def b13:S:=zRc 3 2
noncomputable def b14:S:=zPa 4
noncomputable def b15:S:=zOs 14 2
noncomputable def b16:S:=inkB 13 14
noncomputable def b17:S:=rubB 13 0
noncomputable def b18:S:=zPq 4 15
noncomputable def b19:S:=mixB 2 13 4 14
noncomputable def b20:S:=zJf
noncomputable def N21:List Str:=["start","end","last"]
noncomputable def P21:List Str:=["start","end","last"]
noncomputable def b21:S:=zPQ 8 21
def sc21:zAa N21 P21 (zAA (top 32)):=by (walk_at "f")
def ck21:cSs (zAA (top 32)) N21 bs b21 (zAG (top 32))=true:=by decide +kernel
noncomputable def b22:S:=zJq 5 3 2 4
noncomputable def b23:S:=.cons (.set 2 (.ix (.var 0) (.int 0))) (.cons (.set 3 (.ix (.var 0) (.int 1))) (.cons (.set 4 (.call 21 "numbers_between" (.cons (.ix (.var 2) (.int 0)) (.cons (.ix (.var 3) (.int 0)) (.cons (.var 1) .nil))))) (.frz 4 (.cons (.set 5 (.call 22 "rests_at" (.cons (.var 4) (.cons (.ix (.var 2) (.int 0)) (.cons (.ix (.var 3) (.int 0)) (.cons (.ix (.var 2) (.int 1)) (.cons (.ix (.var 3) (.int 1)) .nil))))))) (.frz 4 (.frz 5 (.cons (.ret (.comp1 6 [] "k" (.r1 (.len (.var 4))) .nil (.tup (.cons (.tup (.cons (.ix (.var 4) (.var 6)) (.cons (.int 1) .nil))) (.cons (.ix (.var 5) (.var 6)) .nil))))) .nil)))))))
noncomputable def b24:S:=.cons (.set 2 (.ix (.var 0) (.int 0))) (.cons (.set 3 (.ix (.var 0) (.int 1))) (.cons (.set 4 (.call 21 "numbers_between" (.cons (.ix (.var 2) (.int 1)) (.cons (.ix (.var 3) (.int 1)) (.cons (.var 1) .nil))))) (.frz 4 (.cons (.set 5 (.call 22 "rests_at" (.cons (.var 4) (.cons (.ix (.var 2) (.int 1)) (.cons (.ix (.var 3) (.int 1)) (.cons (.ix (.var 2) (.int 0)) (.cons (.ix (.var 3) (.int 0)) .nil))))))) (.frz 4 (.frz 5 (.cons (.ret (.comp1 6 [] "k" (.r1 (.len (.var 4))) .nil (.tup (.cons (.ix (.var 5) (.var 6)) (.cons (.tup (.cons (.ix (.var 4) (.var 6)) (.cons (.int 1) .nil))) .nil))))) .nil)))))))
noncomputable def b25:S:=zLp 8
noncomputable def b26:S:=.cons (.set 3 (.lst .nil)) (.cons (.set 4 (.int 0)) (.cons (.for1 5 (.it (.var 0)) (.cons (.whl (.andl (.cons (.cmp .Lt (.var 4) (.len (.var 1))) (.cons (.call 25 "comes_ahead" (.cons (.ix (.var 1) (.var 4)) (.cons (.var 5) (.cons (.var 2) .nil)))) .nil))) (.cons (.app 3 (.ix (.var 1) (.var 4))) (.cons (.aug .Add 4 (.int 1)) .nil))) (.cons (.ife (.andl (.cons (.cmp .Lt (.var 4) (.len (.var 1))) (.cons (.cmp .Eq (.ix (.var 1) (.var 4)) (.var 5)) .nil))) (.cons (.aug .Add 4 (.int 1)) .nil) .nil) (.cons (.app 3 (.var 5)) .nil)))) (.cons (.ret (.bin .Add (.var 3) (.sl (.var 1) (.cons (.var 4) .nil) .nil))) .nil)))
noncomputable def b27:S:=zJZ 26 23 24 8
noncomputable def b28:S:=midB 4 2 1
noncomputable def b29:S:=pcB 10 28
noncomputable def b30:S:=onB
noncomputable def b31:S:=zHG 27 29 30
noncomputable def b32:S:=zQU 3
noncomputable def b33:S:=zJp 0 4 32 3 28
noncomputable def mb34:MT:=zLT
noncomputable def b34:S:=.cons (.ret (.comp1 1 [] "k" (.r1 (.var 0)) .nil (.lst .nil))) .nil
noncomputable def b35:S:=allB 20 31
noncomputable def b36:S:=rowB 2 7 0
noncomputable def mb37:MT:=zHB 35 32 33 36 1
noncomputable def mb38:MT:=.cons (.ret (.comp 1 [] "ring" (.it (.var 0)) (.pur (.list (.var 1))))) .nil
noncomputable def b39:S:=.cons (.ret (.ite (.cmp .Is (.var 0) .non) (.glob 2 "ONE") (.var 0))) .nil
noncomputable def mb40:MT:=.cons (.ret (.comp 2 [] "row" (.it (.var 0)) (.comp 3 [] "one" (.it (.var 2)) (.pur (.callv 1 (.var 3)))))) .nil
noncomputable def mb41:MT:=.cons (.set 3 (.lst .nil)) (.cons (.for1 4 (.rng (.pur (.len (.var 0)))) (.cons (.app (.var 3) (.comp 5 [] "column" (.rng (.pur (.len (.ix (.var 0) (.var 4))))) (.pur (.callw 2 (.cons (.ix (.ix (.var 0) (.var 4)) (.var 5)) (.cons (.ix (.ix (.var 1) (.var 4)) (.var 5)) .nil)))))) .nil)) (.cons (.ret (.var 3)) .nil))
noncomputable def mb42:MT:=.cons (.ret (.call 4 "each_changed" (.cons (.call 2 "shares" (.cons (.var 0) (.cons (.var 1) (.cons (.var 2) .nil)))) (.cons (.pur (.glob 3 "cover")) .nil)))) .nil
noncomputable def N43:List Str:=["width","height","shape","strength"]
noncomputable def P43:List Str:=["width","height","shape","strength"]
def sc43:zAa N43 P43 (zAA (top 56)):=by (walk_at "f")
noncomputable def mb44:MT:=.cons (.ret (.comp 2 [] "row" (.rng (.var 1)) (.comp 3 [] "column" (.rng (.var 0)) (.pur (.call 12 "clear_film" .nil))))) .nil
noncomputable def mb45:MT:=.cons (.set 3 (.call 8 "clear_films" (.cons (.var 0) (.cons (.var 1) .nil)))) (.cons (.for1 4 (.it (.var 2)) (.cons (.set 3 (.call 5 "put_together" (.cons (.mth [("Fill",13),("Rub",14),("Masked",15)] "films" (.var 4) (.cons (.var 0) (.cons (.var 1) .nil))) (.cons (.var 3) (.cons (.pur (.glob 4 "joined")) .nil))))) .nil)) (.cons (.ret (.var 3)) .nil))
noncomputable def zSG:MT:=.cons (.set 3 (.call 8 "clear_films" (.cons (.var 0) (.cons (.var 1) .nil)))) (.cons (.for1 4 (.it (.var 2)) (.cons (.set 3 (.call 5 "put_together" (.cons (.mth [("Fill",13),("Rub",14),("Masked",18),("Join",17)] "films" (.var 4) (.cons (.var 0) (.cons (.var 1) .nil))) (.cons (.var 3) (.cons (.pur (.glob 4 "joined")) .nil))))) .nil)) (.cons (.ret (.var 3)) .nil))
noncomputable def b46:S:=zQu
noncomputable def b47:S:=zJM
noncomputable def b48:S:=zG9
noncomputable def b49:S:=lowB
noncomputable def b50:S:=zIs "_law_low" 49
noncomputable def b51:S:=zE7 "_law_low" 49
noncomputable def b52:S:=zEy "_law_low" 49
noncomputable def b53:S:=zK5 47
noncomputable def b54:S:=zGh 49
noncomputable def b55:S:=.cons (.set 2 (.lst (.cons (.call 51 "_law_minus" (.cons (.tup (.cons (.int 1) (.cons (.int 1) .nil))) (.cons (.var 0) .nil))) (.cons (.var 0) .nil)))) (.cons (.for1 3 (.it (.var 1)) (.cons (.app 2 (.call 52 "_law_times" (.cons (.var 0) (.cons (.tup (.cons (.var 3) (.cons (.int 1) .nil))) .nil)))) .nil)) (.cons (.ret (.tupl (.var 2))) .nil))
noncomputable def b56:S:=.cons (.set 2 (.lst (.cons (.call 50 "_law_plus" (.cons (.call 51 "_law_minus" (.cons (.tup (.cons (.int 1) (.cons (.int 1) .nil))) (.cons (.var 1) .nil))) (.cons (.call 52 "_law_times" (.cons (.var 1) (.cons (.ix (.var 0) (.int 0)) .nil))) .nil))) .nil))) (.cons (.for1 3 (.it (.sl (.var 0) (.cons (.int 1) .nil) .nil)) (.cons (.app 2 (.call 52 "_law_times" (.cons (.var 1) (.cons (.var 3) .nil)))) .nil)) (.cons (.ret (.tupl (.var 2))) .nil))
noncomputable def b57:S:=.cons (.set 2 (.ix (.lst (.cons (.int 1) (.cons (.int 2) (.cons (.int 4) (.cons (.int 3) .nil))))) (.bin .Mod (.var 0) (.int 4)))) (.frz 2 (.cons (.ret (.call 49 "_law_low" (.cons (.bin .Sub (.bin .Mod (.bin .FloorDiv (.var 0) (.int 4)) (.bin .Add (.bin .Mult (.var 2) (.bin .Add (.var 1) (.int 2))) (.int 1))) (.var 2)) (.cons (.var 2) .nil)))) .nil))
noncomputable def b58:S:=.cons (.set 3 (.bin .Sub (.bin .Mod (.ix (.var 0) (.int 0)) (.bin .Add (.var 1) (.int 1))) (.int 1))) (.cons (.set 4 (.bin .Sub (.bin .Mod (.ix (.var 0) (.int 1)) (.bin .Add (.var 2) (.int 1))) (.int 1))) (.cons (.set 5 (.bin .Add (.bin .Add (.var 3) (.int 1)) (.bin .Mod (.ix (.var 0) (.int 2)) (.bin .Add (.var 1) (.int 1))))) (.cons (.set 6 (.bin .Add (.bin .Add (.var 4) (.int 1)) (.bin .Mod (.ix (.var 0) (.int 3)) (.bin .Add (.var 2) (.int 1))))) (.cons (.ret (.lst (.cons (.tup (.cons (.tup (.cons (.var 3) (.cons (.int 1) .nil))) (.cons (.tup (.cons (.var 4) (.cons (.int 1) .nil))) .nil))) (.cons (.tup (.cons (.tup (.cons (.var 5) (.cons (.int 1) .nil))) (.cons (.tup (.cons (.var 4) (.cons (.int 1) .nil))) .nil))) (.cons (.tup (.cons (.tup (.cons (.var 5) (.cons (.int 1) .nil))) (.cons (.tup (.cons (.var 6) (.cons (.int 1) .nil))) .nil))) (.cons (.tup (.cons (.tup (.cons (.var 3) (.cons (.int 1) .nil))) (.cons (.tup (.cons (.var 6) (.cons (.int 1) .nil))) .nil))) .nil)))))) .nil))))
noncomputable def mb59:MT:=.cons (.set 3 (.pur (.bin .Add (.bin .Mod (.var 0) (.int 2147483646)) (.int 1)))) (.cons (.set 4 (.lst .nil)) (.cons (.for1 5 (.rng (.ix (.pur (.lst (.cons (.int 1) (.cons (.int 1) (.cons (.int 2) (.cons (.int 1) (.cons (.int 0) (.cons (.int 1) (.cons (.int 2) (.cons (.int 1) .nil)))))))))) (.pur (.bin .Mod (.var 0) (.int 8))))) (.cons (.set 6 (.lst .nil)) (.cons (.for1 7 (.rng (.pur (.int 9))) (.cons (.set 3 (.pur (.bin .Mod (.bin .Mult (.var 3) (.int 48271)) (.int 2147483647)))) (.cons (.app (.var 6) (.pur (.bin .FloorDiv (.var 3) (.int 11)))) .nil))) (.cons (.ife (.pur (.cmp .Eq (.bin .Mod (.bin .FloorDiv (.var 0) (.int 8)) (.int 3)) (.int 0))) (.cons (.app (.var 4) (.pur (.call 58 "_law_box" (.cons (.var 6) (.cons (.var 1) (.cons (.var 2) .nil)))))) .nil) (.cons (.set 8 (.lst .nil)) (.cons (.for1 7 (.rng (.pur (.bin .Add (.int 3) (.bin .Mod (.ix (.var 6) (.int 8)) (.int 2))))) (.cons (.app (.var 8) (.pur (.tup (.cons (.call 57 "_law_at" (.cons (.ix (.var 6) (.bin .Mult (.int 2) (.var 7))) (.cons (.var 1) .nil))) (.cons (.call 57 "_law_at" (.cons (.ix (.var 6) (.bin .Add (.bin .Mult (.int 2) (.var 7)) (.int 1))) (.cons (.var 2) .nil))) .nil))))) .nil)) (.cons (.app (.var 4) (.var 8)) .nil)))) .nil)))) (.cons (.ret (.var 4)) .nil)))
noncomputable def mb60:MT:=.cons (.set 3 (.lst .nil)) (.cons (.for1 4 (.it (.call 2 "shares" (.cons (.var 0) (.cons (.var 1) (.cons (.comp 7 [] "_law_ring" (.it (.var 2)) (.pur (.list (.var 7)))) .nil))))) (.cons (.set 5 (.lst .nil)) (.cons (.for1 6 (.it (.var 4)) (.cons (.ife (.pur (.cmp .Lt (.ix (.var 6) (.int 0)) (.int 0))) (.cons (.set 6 (.pur (.tup (.cons (.int 0) (.cons (.int 1) .nil))))) .nil) .nil) (.cons (.ife (.pur (.cmp .Gt (.ix (.var 6) (.int 0)) (.ix (.var 6) (.int 1)))) (.cons (.set 6 (.pur (.tup (.cons (.int 1) (.cons (.int 1) .nil))))) .nil) .nil) (.cons (.app (.var 5) (.var 6)) .nil)))) (.cons (.app (.var 3) (.var 5)) .nil)))) (.cons (.ret (.var 3)) .nil))
noncomputable def b61:S:=.cons (.ife (.orl (.cons (.not (.isi .list (.var 0))) (.cons (.cmp .NotEq (.len (.var 0)) (.len (.var 1))) .nil))) (.cons (.ret (.bl false)) .nil) .nil) (.cons (.for1 2 (.r1 (.len (.var 1))) (.cons (.ife (.orl (.cons (.not (.isi .list (.ix (.var 0) (.var 2)))) (.cons (.cmp .NotEq (.len (.ix (.var 0) (.var 2))) (.len (.ix (.var 1) (.var 2)))) .nil))) (.cons (.ret (.bl false)) .nil) .nil) (.cons (.for1 3 (.r1 (.len (.ix (.var 1) (.var 2)))) (.cons (.ife (.not (.call 53 "_law_like" (.cons (.ix (.ix (.var 0) (.var 2)) (.var 3)) (.cons (.ix (.ix (.var 1) (.var 2)) (.var 3)) .nil)))) (.cons (.ret (.bl false)) .nil) .nil) .nil)) .nil))) (.cons (.ret (.bl true)) .nil))
noncomputable def mb62:MT:=.cons (.ret (.comp 3 [] "_law_row" (.it (.var 0)) (.comp 4 [] "_law_s" (.it (.var 3)) (.pur (.call 55 "_law_ink_film" (.cons (.call 52 "_law_times" (.cons (.var 4) (.cons (.var 2) .nil))) (.cons (.var 1) .nil))))))) .nil
noncomputable def mb63:MT:=.cons (.set 2 (.lst .nil)) (.cons (.for1 3 (.it (.var 0)) (.cons (.setC 4 (.comp 5 [] "_law_s" (.it (.var 3)) (.pur (.call 51 "_law_minus" (.cons (.tup (.cons (.int 1) (.cons (.int 1) .nil))) (.cons (.call 52 "_law_times" (.cons (.var 5) (.cons (.var 1) .nil))) .nil)))))) (.cons (.app (.var 2) (.comp 5 [] "_law_k" (.it (.var 4)) (.pur (.tup (.cons (.var 5) (.cons (.tup (.cons (.int 0) (.cons (.int 1) .nil))) (.cons (.tup (.cons (.int 0) (.cons (.int 1) .nil))) (.cons (.tup (.cons (.int 0) (.cons (.int 1) .nil))) (.cons (.tup (.cons (.int 0) (.cons (.int 1) .nil))) .nil))))))))) .nil))) (.cons (.ret (.var 2)) .nil))
noncomputable def b64:S:=.cons (.ret (.tup (.cons (.bin .Mod (.var 0) (.int 256)) (.cons (.ix (.lst (.cons (.int 255) (.cons (.int 0) (.cons (.bin .Mod (.bin .FloorDiv (.var 0) (.int 3)) (.int 256)) .nil)))) (.bin .Mod (.bin .FloorDiv (.var 0) (.int 256)) (.int 3))) (.cons (.bin .Mod (.bin .FloorDiv (.var 0) (.int 7)) (.int 256)) .nil))))) .nil
noncomputable def mb65:MT:=.cons (.set 2 (.lst .nil)) (.cons (.for1 3 (.rng (.pur (.len (.var 0)))) (.cons (.set 4 (.lst .nil)) (.cons (.for1 5 (.rng (.pur (.len (.ix (.var 0) (.var 3))))) (.cons (.app (.var 4) (.pur (.call 56 "_law_mixed" (.cons (.ix (.ix (.var 0) (.var 3)) (.var 5)) (.cons (.ix (.ix (.var 1) (.var 3)) (.var 5)) .nil))))) .nil)) (.cons (.app (.var 2) (.var 4)) .nil)))) (.cons (.ret (.var 2)) .nil))
noncomputable def mb66:MT:=.cons (.set 2 (.pur (.tup (.cons (.bin .Add (.var 1) (.int 1)) (.cons (.int 1) .nil))))) (.cons (.ret (.lst (.cons (.lst (.cons (.pur (.tup (.cons (.tup (.cons (.neg (.int 1)) (.cons (.int 1) .nil))) (.cons (.tup (.cons (.neg (.int 1)) (.cons (.int 1) .nil))) .nil)))) (.cons (.pur (.tup (.cons (.tup (.cons (.bin .Add (.var 0) (.int 1)) (.cons (.int 1) .nil))) (.cons (.tup (.cons (.neg (.int 1)) (.cons (.int 1) .nil))) .nil)))) (.cons (.pur (.tup (.cons (.tup (.cons (.bin .Add (.var 0) (.int 1)) (.cons (.int 1) .nil))) (.cons (.var 2) .nil)))) (.cons (.pur (.tup (.cons (.tup (.cons (.neg (.int 1)) (.cons (.int 1) .nil))) (.cons (.var 2) .nil)))) .nil))))) .nil))) .nil)
noncomputable def mb67:MT:=.cons (.ife (.pur (.cmp .Eq (.bin .Mod (.var 0) (.int 2)) (.int 1))) (.cons (.ret (.call 25 "_law_rubbed" (.cons (.var 3) (.cons (.var 2) .nil)))) .nil) .nil) (.cons (.ret (.call 24 "_law_inked" (.cons (.var 3) (.cons (.var 1) (.cons (.var 2) .nil))))) .nil)
noncomputable def mb68:MT:=.cons (.ife (.not (.call 0 "_law_rows_good" (.cons (.mth [("Fill",13),("Rub",14),("Masked",21),("Join",20)] "films" (.mk 11 "Masked" "" false (.cons (.call 27 "_law_all" (.cons (.var 2) (.cons (.var 3) .nil))) (.cons (.var 0) .nil))) (.cons (.var 2) (.cons (.var 3) .nil))) (.cons (.var 1) .nil)))) (.cons (.ret (.pur (.bl false))) .nil) .nil) (.cons (.set 4 (.pur (.tup (.cons (.int 0) (.cons (.int 1) .nil))))) (.cons (.setC 5 (.comp 6 [] "_law_row" (.it (.var 1)) (.comp 7 [] "_law_film" (.it (.var 6)) (.pur (.tup (.cons (.tup (.cons (.int 1) (.cons (.int 1) .nil))) (.cons (.var 4) (.cons (.var 4) (.cons (.var 4) (.cons (.var 4) .nil)))))))))) (.cons (.ife (.not (.call 0 "_law_rows_good" (.cons (.mth [("Fill",13),("Rub",14),("Masked",21),("Join",20)] "films" (.mk 11 "Masked" "" false (.cons (.lst .nil) (.cons (.var 0) .nil))) (.cons (.var 2) (.cons (.var 3) .nil))) (.cons (.var 5) .nil)))) (.cons (.ret (.pur (.bl false))) .nil) .nil) (.cons (.ret (.call 0 "_law_rows_good" (.cons (.mth [("Fill",13),("Rub",14),("Masked",21),("Join",20)] "films" (.var 0) (.cons (.var 2) (.cons (.var 3) .nil))) (.cons (.var 1) .nil)))) .nil))))
noncomputable def mb69:MT:=.cons (.setC 4 (.comp 10 [] "_law_one" (.it (.var 0)) (.call 22 "_law_shape" (.cons (.var 10) (.cons (.pur (.int 7)) (.cons (.pur (.int 6)) .nil)))))) (.cons (.setC 5 (.comp 10 [] "_law_shape_here" (.it (.var 4)) (.call 23 "_law_covers" (.cons (.pur (.int 7)) (.cons (.pur (.int 6)) (.cons (.var 10) .nil)))))) (.cons (.set 6 (.mk 9 "Fill" "strength" false (.cons (.ix (.var 4) (.pur (.int 0))) (.cons (.var 2) (.cons (.var 3) .nil))))) (.cons (.ife (.pur (.cmp .Eq (.bin .Mod (.var 1) (.int 2)) (.int 1))) (.cons (.set 6 (.mk 10 "Rub" "strength" false (.cons (.ix (.var 4) (.pur (.int 0))) (.cons (.var 3) .nil)))) .nil) .nil) (.cons (.set 7 (.mk 12 "Join" "strength" true (.cons (.lst (.cons (.mk 11 "Masked" "" false (.cons (.ix (.var 4) (.pur (.int 1))) (.cons (.var 6) .nil))) .nil)) .nil))) (.cons (.set 8 (.mk 12 "Join" "strength" true (.cons (.lst (.cons (.mk 11 "Masked" "" false (.cons (.ix (.var 4) (.pur (.int 2))) (.cons (.var 7) .nil))) .nil)) .nil))) (.cons (.set 9 (.call 26 "_law_mixed_by" (.cons (.call 26 "_law_mixed_by" (.cons (.call 28 "_law_of" (.cons (.var 1) (.cons (.var 2) (.cons (.var 3) (.cons (.ix (.var 5) (.pur (.int 0))) .nil))))) (.cons (.ix (.var 5) (.pur (.int 1))) .nil))) (.cons (.ix (.var 5) (.pur (.int 2))) .nil)))) (.cons (.ret (.call 0 "_law_rows_good" (.cons (.mth [("Fill",13),("Rub",14),("Masked",21),("Join",20)] "films" (.mk 11 "Masked" "" false (.cons (.ix (.var 4) (.pur (.int 1))) (.cons (.var 8) .nil))) (.cons (.pur (.int 7)) (.cons (.pur (.int 6)) .nil))) (.cons (.call 26 "_law_mixed_by" (.cons (.var 9) (.cons (.ix (.var 5) (.pur (.int 1))) .nil))) .nil)))) .nil)))))))
noncomputable def N70:List Str:=["_law_script","_law_width","_law_height","_law_drawn","_law_cell_here","_law_shapes","_law_rows","_law_t","_law_ink_here","_law_layer","_law_films","_law_once","_law_twice","_law_handed","_law_one","_law_due"]
noncomputable def P70:List Str:=["_law_script"]
noncomputable def mb70:MT:=.cons (.set 1 (.pur (.bin .Add (.int 1) (.bin .Mod (.call 46 "_law_cell" (.cons (.var 0) (.cons (.int 0) .nil))) (.int 3))))) (.cons (.set 2 (.pur (.bin .Add (.int 1) (.bin .Mod (.call 46 "_law_cell" (.cons (.var 0) (.cons (.int 1) .nil))) (.int 2))))) (.cons (.setC 3 (.comp 16 [] "_law_k" (.rng (.pur (.int 3))) (.pur (.call 48 "_law_spread" (.cons (.call 46 "_law_cell" (.cons (.var 0) (.cons (.bin .Add (.int 2) (.var 16)) .nil))) (.cons (.var 16) .nil)))))) (.cons (.ife (.pur (.cmp .Eq (.bin .Mod (.bin .FloorDiv (.call 46 "_law_cell" (.cons (.var 0) (.cons (.int 0) .nil))) (.int 3)) (.int 8)) (.int 5))) (.cons (.set 4 (.pur (.call 48 "_law_spread" (.cons (.call 46 "_law_cell" (.cons (.var 0) (.cons (.int 5) .nil))) (.cons (.int 5) .nil))))) (.cons (.ret (.call 30 "_law_deep" (.cons (.var 3) (.cons (.var 4) (.cons (.pur (.call 64 "_law_ink" (.cons (.bin .FloorDiv (.var 4) (.int 2)) .nil))) (.cons (.pur (.call 49 "_law_low" (.cons (.bin .Add (.int 1) (.bin .Mod (.bin .FloorDiv (.var 4) (.int 2)) (.int 7))) (.cons (.bin .Add (.int 7) (.bin .Mod (.bin .FloorDiv (.var 4) (.int 3)) (.int 2))) .nil)))) .nil)))))) .nil)) .nil) (.cons (.setC 5 (.comp 16 [4] "_law_cell_here" (.it (.var 3)) (.call 22 "_law_shape" (.cons (.var 16) (.cons (.var 1) (.cons (.var 2) .nil)))))) (.cons (.setC 6 (.comp 16 [] "_law_shape_here" (.it (.var 5)) (.call 23 "_law_covers" (.cons (.var 1) (.cons (.var 2) (.cons (.var 16) .nil)))))) (.cons (.set 4 (.pur (.call 48 "_law_spread" (.cons (.call 46 "_law_cell" (.cons (.var 0) (.cons (.int 5) .nil))) (.cons (.int 5) .nil))))) (.cons (.set 7 (.pur (.call 54 "_law_part" (.cons (.call 48 "_law_spread" (.cons (.call 46 "_law_cell" (.cons (.var 0) (.cons (.int 6) .nil))) (.cons (.int 6) .nil))) .nil)))) (.cons (.set 8 (.pur (.call 64 "_law_ink" (.cons (.bin .FloorDiv (.var 4) (.int 2)) .nil)))) (.cons (.set 9 (.mk 9 "Fill" "strength" false (.cons (.ix (.var 5) (.pur (.int 0))) (.cons (.var 8) (.cons (.var 7) .nil))))) (.cons (.ife (.pur (.cmp .Eq (.bin .Mod (.var 4) (.int 2)) (.int 1))) (.cons (.set 9 (.mk 10 "Rub" "strength" false (.cons (.ix (.var 5) (.pur (.int 0))) (.cons (.var 7) .nil)))) .nil) .nil) (.cons (.set 10 (.call 28 "_law_of" (.cons (.var 4) (.cons (.var 8) (.cons (.var 7) (.cons (.ix (.var 6) (.pur (.int 0))) .nil)))))) (.cons (.set 11 (.call 26 "_law_mixed_by" (.cons (.var 10) (.cons (.ix (.var 6) (.pur (.int 1))) .nil)))) (.cons (.set 12 (.call 26 "_law_mixed_by" (.cons (.var 11) (.cons (.ix (.var 6) (.pur (.int 2))) .nil)))) (.cons (.setC 13 (.comp 16 [] "_law_ring" (.it (.ix (.var 5) (.pur (.int 1)))) (.pur (.list (.var 16))))) (.cons (.set 14 (.mk 11 "Masked" "" false (.cons (.var 13) (.cons (.var 9) .nil)))) (.cons (.app (.var 13) (.lst (.cons (.pur (.tup (.cons (.tup (.cons (.int 0) (.cons (.int 1) .nil))) (.cons (.tup (.cons (.int 0) (.cons (.int 1) .nil))) .nil)))) (.cons (.pur (.tup (.cons (.tup (.cons (.int 9) (.cons (.int 1) .nil))) (.cons (.tup (.cons (.int 0) (.cons (.int 1) .nil))) .nil)))) (.cons (.pur (.tup (.cons (.tup (.cons (.int 9) (.cons (.int 1) .nil))) (.cons (.tup (.cons (.int 9) (.cons (.int 1) .nil))) .nil)))) .nil))))) (.cons (.app (.ix (.var 13) (.pur (.int 0))) (.pur (.tup (.cons (.tup (.cons (.int 5) (.cons (.int 1) .nil))) (.cons (.tup (.cons (.int 7) (.cons (.int 1) .nil))) .nil))))) (.cons (.ife (.not (.call 0 "_law_rows_good" (.cons (.mth [("Fill",13),("Rub",14),("Masked",21),("Join",20)] "films" (.var 14) (.cons (.var 1) (.cons (.var 2) .nil))) (.cons (.var 11) .nil)))) (.cons (.ret (.pur (.bl false))) .nil) .nil) (.cons (.ife (.not (.call 0 "_law_rows_good" (.cons (.mth [("Fill",13),("Rub",14),("Masked",21),("Join",20)] "films" (.mk 11 "Masked" "" false (.cons (.ix (.var 5) (.pur (.int 2))) (.cons (.var 14) .nil))) (.cons (.var 1) (.cons (.var 2) .nil))) (.cons (.var 12) .nil)))) (.cons (.ret (.pur (.bl false))) .nil) .nil) (.cons (.ife (.not (.call 0 "_law_rows_good" (.cons (.mth [("Fill",13),("Rub",14),("Masked",21),("Join",20)] "films" (.mk 11 "Masked" "" false (.cons (.ix (.var 5) (.pur (.int 1))) (.cons (.mk 11 "Masked" "" false (.cons (.ix (.var 5) (.pur (.int 2))) (.cons (.var 9) .nil))) .nil))) (.cons (.var 1) (.cons (.var 2) .nil))) (.cons (.var 12) .nil)))) (.cons (.ret (.pur (.bl false))) .nil) .nil) (.cons (.set 15 (.call 28 "_law_of" (.cons (.var 4) (.cons (.var 8) (.cons (.var 7) (.cons (.call 23 "_law_covers" (.cons (.pur (.bin .Add (.var 2) (.int 1))) (.cons (.var 1) (.cons (.ix (.var 5) (.pur (.int 0))) .nil)))) .nil)))))) (.cons (.set 15 (.call 26 "_law_mixed_by" (.cons (.var 15) (.cons (.call 23 "_law_covers" (.cons (.pur (.bin .Add (.var 2) (.int 1))) (.cons (.var 1) (.cons (.ix (.var 5) (.pur (.int 1))) .nil)))) .nil)))) (.cons (.ife (.orl (.cons (.not (.call 0 "_law_rows_good" (.cons (.mth [("Fill",13),("Rub",14),("Masked",21),("Join",20)] "films" (.var 14) (.cons (.pur (.bin .Add (.var 2) (.int 1))) (.cons (.var 1) .nil))) (.cons (.var 15) .nil)))) (.cons (.not (.call 0 "_law_rows_good" (.cons (.mth [("Fill",13),("Rub",14),("Masked",21),("Join",20)] "films" (.var 14) (.cons (.var 1) (.cons (.var 2) .nil))) (.cons (.var 11) .nil)))) .nil))) (.cons (.ret (.pur (.bl false))) .nil) .nil) (.cons (.ret (.call 29 "_law_rims_good" (.cons (.var 9) (.cons (.var 10) (.cons (.var 1) (.cons (.var 2) .nil)))))) .nil))))))))))))))))))))))))
def zUO:cSs' (zAA (top 89)) N70 bs mb70 (zAG (top 89))=true:=by decide +kernel
def sc70:zAa N70 P70 (zAA (top 89)):=by (walk_at "f")
noncomputable def zG3:List Str:=["self","shape","ink","strength"]
noncomputable def zCh:List Str:=["self","shape","ink","strength"]
def zIp:zAa zG3 zCh (zAA (zAF (top 60) 0)):=by (walk_at "f")
noncomputable def zDk:List (Str×ME):=[("shape",(.call 3 "own_shape" (.cons (.var 1) .nil))),("ink",(.var 2)),("strength",(.pur (.call 39 "strength_or_one" (.cons (.var 3) .nil))))]
def zHW:zGv (zAA (zAF (top 60) 0)) zG3 bs "self" zDk (zAG (zAF (top 60) 0))=true:=by decide +kernel
noncomputable def zId:List Str:=["self","shape","strength"]
noncomputable def zDS:List Str:=["self","shape","strength"]
def zJk:zAa zId zDS (zAA (zAF (top 61) 0)):=by (walk_at "f")
noncomputable def zEX:List (Str×ME):=[("shape",(.call 3 "own_shape" (.cons (.var 1) .nil))),("strength",(.pur (.call 39 "strength_or_one" (.cons (.var 2) .nil))))]
def zI6:zGv (zAA (zAF (top 61) 0)) zId bs "self" zEX (zAG (zAF (top 61) 0))=true:=by decide +kernel
noncomputable def zEn:List Str:=["self","shape","layer"]
noncomputable def zDC:List Str:=["self","shape","layer"]
def zGP:zAa zEn zDC (zAA (zAF (top 62) 0)):=by (walk_at "f")
noncomputable def zCY:List (Str×ME):=[("shape",(.call 3 "own_shape" (.cons (.var 1) .nil))),("layer",(.var 2))]
def zFw:zGv (zAA (zAF (top 62) 0)) zEn bs "self" zCY (zAG (zAF (top 62) 0))=true:=by decide +kernel
noncomputable def zG2:List Str:=["self","layers","strength"]
noncomputable def zCg:List Str:=["self","layers","strength"]
def zIo:zAa zG2 zCg (zAA (zAF (top 63) 0)):=⟨rfl,rfl,rfl,by decide +kernel,rfl,by decide +kernel,by decide +kernel⟩
noncomputable def zDj:List (Str×ME):=[("layers",(.lcp (.var 1))),("strength",(.pur (.call 39 "strength_or_one" (.cons (.var 2) .nil))))]
def zHV:zGv (zAA (zAF (top 63) 0)) zG2 bs "self" zDj (zAG (zAF (top 63) 0))=true:=by decide +kernel
noncomputable def zBG:List Str:=["self","width","height","thinned"]
noncomputable def zCi:List Str:=["self","width","height"]
def zFY:zAa zBG zCi (zAA (zAF (top 60) 1)):=by (walk_at "f")
noncomputable def zDu:MT:=.cons (.ret (.call 4 "each_changed" (.cons (.call 7 "thinned_covers" (.cons (.var 1) (.cons (.var 2) (.cons (.fld (.var 0) "shape") (.cons (.fld (.var 0) "strength") .nil))))) (.cons (.pur (.glob 5 "rub_film")) .nil)))) .nil
noncomputable def zEP:MT:=.cons (.ret (.call 5 "put_together" (.cons (.mth [("Fill",13),("Rub",14)] "films" (.fld (.var 0) "layer") (.cons (.var 1) (.cons (.var 2) .nil))) (.cons (.call 6 "covers" (.cons (.var 1) (.cons (.var 2) (.cons (.fld (.var 0) "shape") .nil)))) (.cons (.pur (.glob 6 "mixed")) .nil))))) .nil
noncomputable def zDe:MT:=.cons (.ret (.call 5 "put_together" (.cons (.mth [("Fill",13),("Rub",14),("Masked",15),("Join",17)] "films" (.fld (.var 0) "layer") (.cons (.var 1) (.cons (.var 2) .nil))) (.cons (.call 6 "covers" (.cons (.var 1) (.cons (.var 2) (.cons (.fld (.var 0) "shape") .nil)))) (.cons (.pur (.glob 6 "mixed")) .nil))))) .nil
noncomputable def zDd:MT:=.cons (.ret (.call 5 "put_together" (.cons (.mth [("Fill",13),("Rub",14),("Masked",18),("Join",20)] "films" (.fld (.var 0) "layer") (.cons (.var 1) (.cons (.var 2) .nil))) (.cons (.call 6 "covers" (.cons (.var 1) (.cons (.var 2) (.cons (.fld (.var 0) "shape") .nil)))) (.cons (.pur (.glob 6 "mixed")) .nil))))) .nil
noncomputable def zAt:List Str:=["self","width","height"]
noncomputable def zBq:List Str:=["self","width","height"]
def zDH:zAa zAt zBq (zAA (zAF (top 63) 1)):=⟨rfl,rfl,rfl,by decide +kernel,rfl,by decide +kernel,by decide +kernel⟩
noncomputable def mp0:MT:=.nil
noncomputable def me0:ME:=(.call 6 "covers" (.cons (.var 0) (.cons (.var 1) (.cons (.var 2) .nil))))
def pck0:cPre (zAA (top 56)) N43 bs mp0 (zAG (top 56)).dropLast=true:=by decide +kernel
def eck0:cM me0 (zAA (top 56)) N43 bs (zEU (top 56))=true:=by decide +kernel
noncomputable def mp1:MT:=(.cons (.set 3 (.call 7 "thinned_covers" (.cons (.var 1) (.cons (.var 2) (.cons (.fld (.var 0) "shape") (.cons (.fld (.var 0) "strength") .nil)))))) .nil)
noncomputable def me1:ME:=(.var 3)
def pck1:cPre (zAA (zAF (top 60) 1)) zBG bs mp1 (zAG (zAF (top 60) 1)).dropLast=true:=by decide +kernel
def eck1:cM me1 (zAA (zAF (top 60) 1)) zBG bs (zEU (zAF (top 60) 1))=true:=by decide +kernel
noncomputable def mp2:MT:=.nil
noncomputable def me2:ME:=(.call 16 "joined_films" (.cons (.var 1) (.cons (.var 2) (.cons (.fld (.var 0) "layers") .nil))))
def pck2:cPre (zAA (zAF (top 63) 1)) zAt bs mp2 (zAG (zAF (top 63) 1)).dropLast=true:=by decide +kernel
def eck2:cM me2 (zAA (zAF (top 63) 1)) zAt bs (zEU (zAF (top 63) 1))=true:=by decide +kernel
noncomputable def zSF:ME:=(.call 19 "joined_films" (.cons (.var 1) (.cons (.var 2) (.cons (.fld (.var 0) "layers") .nil))))
def zTa:cM zSF (zAA (zAF (top 63) 1)) zAt bs (zEU (zAF (top 63) 1))=true:=by decide +kernel
noncomputable def G0:Gm:=⟨[],[("NOUGHT",.tup [.int 0,.int 1]),("HALF",.tup [.int 1,.int 2]),("ONE",.tup [.int 1,.int 1]),("cover",.fn 11 "cover"),("joined",.fn 18 "joined"),("rub_film",.fn 17 "rub_film"),("mixed",.fn 19 "mixed")],[],[],[],[],[("Fill","shape",none),("Fill","ink",none),("Fill","strength",none),("Rub","shape",none),("Rub","strength",none),("Masked","shape",none),("Masked","layer",none),("Join","layers",none),("Join","strength",none)]⟩
def F0:List D->Option R:=dFun 2 3 (evSs G0 b0)
def G1:Gm:=G0.add "common_measure" F0
def F1:List D->Option R:=dFun 2 3 (evSs G1 b1)
def G2:Gm:=G1.add "ratio" F1
def F2:List D->Option R:=dFun 2 2 (evSs G2 b2)
def G3:Gm:=G2.add "plus" F2
def F3:List D->Option R:=dFun 2 2 (evSs G3 b3)
def G4:Gm:=G3.add "minus" F3
def F4:List D->Option R:=dFun 2 2 (evSs G4 b4)
def G5:Gm:=G4.add "times" F4
def F5:List D->Option R:=dFun 2 2 (evSs G5 b5)
def G6:Gm:=G5.add "parted" F5
def F6:List D->Option R:=dFun 1 2 (evSs G6 b6)
def G7:Gm:=G6.add "neighbours_added" F6
def F7:List D->Option R:=dFun 1 2 (evSs G7 b7)
def G8:Gm:=G7.add "total" F7
def F8:List D->Option R:=dFun 2 2 (evSs G8 b8)
def G9:Gm:=G8.add "under" F8
def F9:List D->Option R:=dFun 3 3 (evSs G9 b9)
def G10:Gm:=G9.add "between" F9
def F10:List D->Option R:=dFun 1 1 (evSs G10 b10)
def G11:Gm:=G10.add "whole_part" F10
def F11:List D->Option R:=dFun 1 1 (evSs G11 b11)
def G12:Gm:=G11.add "cover" F11
def F12:List D->Option R:=dFun 0 0 (evSs G12 b12)
def G13:Gm:=G12.add "clear_film" F12
def F13:List D->Option R:=dFun 1 1 (evSs G13 b13)
def G14:Gm:=G13.add "rest_of" F13
def F14:List D->Option R:=dFun 2 2 (evSs G14 b14)
def G15:Gm:=G14.add "multiplied" F14
def F15:List D->Option R:=dFun 2 3 (evSs G15 b15)
def G16:Gm:=G15.add "seen" F15
def F16:List D->Option R:=dFun 2 2 (evSs G16 b16)
def G17:Gm:=G16.add "ink_film" F16
def F17:List D->Option R:=dFun 1 1 (evSs G17 b17)
def G18:Gm:=G17.add "rub_film" F17
def F18:List D->Option R:=dFun 2 2 (evSs G18 b18)
def G19:Gm:=G18.add "joined" F18
def F19:List D->Option R:=dFun 2 2 (evSs G19 b19)
def G20:Gm:=G19.add "mixed" F19
def F20:List D->Option R:=dFun 1 1 (evSs G20 b20)
def G21:Gm:=G20.add "sides" F20
def zTu:Gm:=G21.add "numbers_between" (λ_=>none)
def zTw:List D->Option R:=dFun 3 3 (evSs zTu b21)
def zTt:Gm:=G21.add "numbers_between" zTw
def F21:List D->Option R:=dFun 3 3 (evSs zTt b21)
def G22:Gm:=G21.add "numbers_between" F21
def F22:List D->Option R:=dFun 5 6 (evSs G22 b22)
def G23:Gm:=G22.add "rests_at" F22
def F23:List D->Option R:=dFun 2 6 (evSs G23 b23)
def G24:Gm:=G23.add "upright_crossings" F23
def F24:List D->Option R:=dFun 2 6 (evSs G24 b24)
def G25:Gm:=G24.add "level_crossings" F24
def F25:List D->Option R:=dFun 3 3 (evSs G25 b25)
def G26:Gm:=G25.add "comes_ahead" F25
def F26:List D->Option R:=dFun 3 6 (evSs G26 b26)
def G27:Gm:=G26.add "made_one" F26
def F27:List D->Option R:=dFun 3 6 (evSs G27 b27)
def G28:Gm:=G27.add "stops" F27
def F28:List D->Option R:=dFun 2 2 (evSs G28 b28)
def G29:Gm:=G28.add "middle" F28
def F29:List D->Option R:=dFun 2 4 (evSs G29 b29)
def G30:Gm:=G29.add "piece_between" F29
def F30:List D->Option R:=dFun 3 3 (evSs G30 b30)
def G31:Gm:=G30.add "counts_on" F30
def F31:List D->Option R:=dFun 3 5 (evSs G31 b31)
def G32:Gm:=G31.add "pieces" F31
def F32:List D->Option R:=dFun 1 1 (evSs G32 b32)
def G33:Gm:=G32.add "fall" F32
def F33:List D->Option R:=dFun 1 2 (evSs G33 b33)
def G34:Gm:=G33.add "right" F33
def F34:List D->Option R:=dFun 1 1 (evSs G34 b34)
def G35:Gm:=G34.add "empty_lists" F34
def F35:List D->Option R:=dFun 3 6 (evSs G35 b35)
def G36:Gm:=G35.add "all_pieces" F35
def F36:List D->Option R:=dFun 2 5 (evSs G36 b36)
def G37:Gm:=G36.add "row_of_shares" F36
noncomputable def F37:List D->Option R:=λ_=>none
def G38:Gm:=G37.add "shares" F37
noncomputable def F38:List D->Option R:=λ_=>none
def G39:Gm:=G38.add "own_shape" F38
def F39:List D->Option R:=dFun 1 1 (evSs G39 b39)
def G40:Gm:=G39.add "strength_or_one" F39
noncomputable def F40:List D->Option R:=λ_=>none
def G41:Gm:=G40.add "each_changed" F40
noncomputable def F41:List D->Option R:=λ_=>none
def G42:Gm:=G41.add "put_together" F41
noncomputable def F42:List D->Option R:=λ_=>none
def G43:Gm:=G42.add "covers" F42
noncomputable def F43:List D->Option R:=λ_=>none
def G44:Gm:=G43.add "thinned_covers" F43
noncomputable def F44:List D->Option R:=λ_=>none
def G45:Gm:=G44.add "clear_films" F44
noncomputable def F45:List D->Option R:=λ_=>none
def G46:Gm:=G45.add "joined_films" F45
def F46:List D->Option R:=dFun 2 4 (evSs G46 b46)
def G47:Gm:=G46.add "_law_cell" F46
def F47:List D->Option R:=dFun 1 1 (evSs G47 b47)
def G48:Gm:=G47.add "_law_whole" F47
def F48:List D->Option R:=dFun 2 2 (evSs G48 b48)
def G49:Gm:=G48.add "_law_spread" F48
def F49:List D->Option R:=dFun 2 5 (evSs G49 b49)
def G50:Gm:=G49.add "_law_low" F49
def F50:List D->Option R:=dFun 2 2 (evSs G50 b50)
def G51:Gm:=G50.add "_law_plus" F50
def F51:List D->Option R:=dFun 2 2 (evSs G51 b51)
def G52:Gm:=G51.add "_law_minus" F51
def F52:List D->Option R:=dFun 2 2 (evSs G52 b52)
def G53:Gm:=G52.add "_law_times" F52
def F53:List D->Option R:=dFun 2 4 (evSs G53 b53)
def G54:Gm:=G53.add "_law_like" F53
def F54:List D->Option R:=dFun 1 4 (evSs G54 b54)
def G55:Gm:=G54.add "_law_part" F54
def F55:List D->Option R:=dFun 2 4 (evSs G55 b55)
def G56:Gm:=G55.add "_law_ink_film" F55
def F56:List D->Option R:=dFun 2 4 (evSs G56 b56)
def G57:Gm:=G56.add "_law_mixed" F56
def F57:List D->Option R:=dFun 2 3 (evSs G57 b57)
def G58:Gm:=G57.add "_law_at" F57
def F58:List D->Option R:=dFun 3 7 (evSs G58 b58)
def G59:Gm:=G58.add "_law_box" F58
noncomputable def F59:List D->Option R:=λ_=>none
def G60:Gm:=G59.add "_law_shape" F59
noncomputable def F60:List D->Option R:=λ_=>none
def G61:Gm:=G60.add "_law_covers" F60
def F61:List D->Option R:=dFun 2 4 (evSs G61 b61)
def G62:Gm:=G61.add "_law_rows_good" F61
noncomputable def F62:List D->Option R:=λ_=>none
def G63:Gm:=G62.add "_law_inked" F62
noncomputable def F63:List D->Option R:=λ_=>none
def G64:Gm:=G63.add "_law_rubbed" F63
def F64:List D->Option R:=dFun 1 1 (evSs G64 b64)
def G65:Gm:=G64.add "_law_ink" F64
noncomputable def F65:List D->Option R:=λ_=>none
def G66:Gm:=G65.add "_law_mixed_by" F65
noncomputable def F66:List D->Option R:=λ_=>none
def G67:Gm:=G66.add "_law_all" F66
noncomputable def F67:List D->Option R:=λ_=>none
def G68:Gm:=G67.add "_law_of" F67
noncomputable def F68:List D->Option R:=λ_=>none
def G69:Gm:=G68.add "_law_rims_good" F68
noncomputable def F69:List D->Option R:=λ_=>none
def G70:Gm:=G69.add "_law_deep" F69
noncomputable def L0:LamI:=zPo "thinned_covers" (top 56)
noncomputable def lb0:E:=.call 4 "times" (.cons (.var 0) (.cons (.var 1) .nil))
def lsc0:zG4 "s" ["strength"] L0/\frN L0=(["strength"]:List Str):=zFq rfl λ_ _ _ _ _=>rfl
def lck0:cE lb0 L0.scope ("s"::["strength"]) bs L0.body=true:=rfl
def FL0:List D->Option R:=lamD 1 (evE G70 lb0)
def GL0:Gm:=G70.addL L0 FL0
noncomputable def L1:LamI:=zPo "Fill.films" (zAF (top 60) 1)
noncomputable def lb1:E:=.call 16 "ink_film" (.cons (.var 0) (.cons (.fld (.var 1) "ink") .nil))
def lsc1:zG4 "s" ["self"] L1/\frN L1=(["self"]:List Str):=zFq rfl λ_ _ _ _ _=>rfl
def lck1:cE lb1 L1.scope ("s"::["self"]) bs L1.body=true:=rfl
def FL1:List D->Option R:=lamD 1 (evE GL0 lb1)
def GL1:Gm:=GL0.addL L1 FL1
noncomputable def L2:LamI:=zPo "Join.films" (zAF (top 63) 1)
noncomputable def lb2:E:=.call 19 "mixed" (.cons (.var 0) (.cons (.fld (.var 1) "strength") .nil))
def lsc2:zG4 "film" ["self"] L2/\frN L2=(["self"]:List Str):=zFq (by decide +kernel) λ_ _ _ _ _=>rfl
def lck2:cE lb2 L2.scope ("film"::["self"]) bs L2.body=true:=by decide +kernel
def FL2:List D->Option R:=lamD 1 (evE GL1 lb2)
def GL2:Gm:=GL1.addL L2 FL2
def D0:Dm:=[(("_law_rows_good":Str),zKb F61)]
def FM34:MF:=zAi 1 1 (evSs' GL2 D0 mb34)
def D1:Dm:=D0.add "empty_lists" FM34
def FM37:MF:=zAi 3 7 (evSs' GL2 D1 mb37)
def D2:Dm:=D1.add "shares" FM37
def FM38:MF:=zAi 1 1 (evSs' GL2 D2 mb38)
def D3:Dm:=D2.add "own_shape" FM38
def FM40:MF:=zAi 2 2 (evSs' GL2 D3 mb40)
def D4:Dm:=D3.add "each_changed" FM40
def FM41:MF:=zAi 3 5 (evSs' GL2 D4 mb41)
def D5:Dm:=D4.add "put_together" FM41
def FM42:MF:=zAi 3 3 (evSs' GL2 D5 mb42)
def D6:Dm:=D5.add "covers" FM42
def FM43:MF:=lamM FM40 0 L0 [3] P43.length N43.length (zF4 GL2 D6 mp0) (evM GL2 D6 me0)
def D7:Dm:=D6.add "thinned_covers" FM43
def FM44:MF:=zAi 2 2 (evSs' GL2 D7 mb44)
def D8:Dm:=D7.add "clear_films" FM44
def zFR:MF:=zFv "Fill" 3 (zDk.map λp=>(p.1,evM GL2 D8 p.2))
def D9:Dm:=D8.add "Fill()" zFR
def zG5:MF:=zFv "Rub" 2 (zEX.map λp=>(p.1,evM GL2 D9 p.2))
def D10:Dm:=D9.add "Rub()" zG5
def zCm:MF:=zFv "Masked" 2 (zCY.map λp=>(p.1,evM GL2 D10 p.2))
def D11:Dm:=D10.add "Masked()" zCm
def zDp:MF:=zFv "Join" 2 (zDj.map λp=>(p.1,evM GL2 D11 p.2))
def D12:Dm:=D11.add "Join()" zDp
def zCN:MF:=lamM FM40 1 L1 [0] zCi.length zBG.length (zF4 GL2 D12 mp1) (evM GL2 D12 me1)
def D13:Dm:=D12.add "Fill.films" zCN
def zCl:MF:=zAi 3 3 (evSs' GL2 D13 zDu)
def D14:Dm:=D13.add "Rub.films" zCl
def zEq:MF:=zAi 3 3 (evSs' GL2 D14 zEP)
def D15:Dm:=D14.add "Masked.films" zEq
def FM45:MF:=zAi 3 5 (evSs' GL2 D15 mb45)
def D16:Dm:=D15.add "joined_films" FM45
def zGF:MF:=lamM FM40 2 L2 [0] zBq.length zAt.length (zF4 GL2 D16 mp2) (evM GL2 D16 me2)
def D17:Dm:=D16.add "Join.films" zGF
def zDo:MF:=zAi 3 3 (evSs' GL2 D17 zDe)
def D18:Dm:=D17.add "Masked.films" zDo
def zTv:MF:=zAi 3 5 (evSs' GL2 D18 zSG)
def D19:Dm:=D18.add "joined_films" zTv
def zEr:MF:=lamM FM40 2 L2 [0] zBq.length zAt.length (zF4 GL2 D19 mp2) (evM GL2 D19 zSF)
def D20:Dm:=D19.add "Join.films" zEr
def zDn:MF:=zAi 3 3 (evSs' GL2 D20 zDd)
def D21:Dm:=D20.add "Masked.films" zDn
def FM59:MF:=zAi 3 9 (evSs' GL2 D21 mb59)
def D22:Dm:=D21.add "_law_shape" FM59
def FM60:MF:=zAi 3 7 (evSs' GL2 D22 mb60)
def D23:Dm:=D22.add "_law_covers" FM60
def FM62:MF:=zAi 3 3 (evSs' GL2 D23 mb62)
def D24:Dm:=D23.add "_law_inked" FM62
def FM63:MF:=zAi 2 5 (evSs' GL2 D24 mb63)
def D25:Dm:=D24.add "_law_rubbed" FM63
def FM65:MF:=zAi 2 6 (evSs' GL2 D25 mb65)
def D26:Dm:=D25.add "_law_mixed_by" FM65
def FM66:MF:=zAi 2 3 (evSs' GL2 D26 mb66)
def D27:Dm:=D26.add "_law_all" FM66
def FM67:MF:=zAi 4 4 (evSs' GL2 D27 mb67)
def D28:Dm:=D27.add "_law_of" FM67
def FM68:MF:=zAi 4 6 (evSs' GL2 D28 mb68)
def D29:Dm:=D28.add "_law_rims_good" FM68
def FM69:MF:=zAi 4 10 (evSs' GL2 D29 mb69)
def D30:Dm:=D29.add "_law_deep" FM69
def FM70:MF:=zAi 1 16 (evSs' GL2 D30 mb70)
theorem len1 {T:Type}:∀ {us:List T},us.length=1->∃ a0,us=[a0]
 | [a0],_=>⟨a0,rfl⟩
theorem len2 {T:Type}:∀ {us:List T},us.length=2->∃ a0 a1,us=[a0,a1]
 | [a0,a1],_=>⟨a0,a1,rfl⟩
theorem len3 {T:Type}:∀ {us:List T},us.length=3->∃ a0 a1 a2,us=[a0,a1,a2]
 | [a0,a1,a2],_=>⟨a0,a1,a2,rfl⟩
theorem len4 {T:Type}:∀ {us:List T},us.length=4->∃ a0 a1 a2 a3,us=[a0,a1,a2,a3]
 | [a0,a1,a2,a3],_=>⟨a0,a1,a2,a3,rfl⟩
set_option maxHeartbeats 4000000 in
theorem all_mk {l:W.OpenLaw}(X:K.In h)(G:h.Ns mainGlobals mg)(hfa:mg "law"=some (.ref fa))
    
      
   (lt0:tabQ K "thinned_covers"=some (lc0,lp0))
   (lt1:tabQ K "Fill.films"=some (lc1,lp1))
   (lt2:tabQ K "Join.films"=some (lc2,lp2))
  
    
  
  (t0:FT K "common_measure" (top 8) f0)
  (t1:FT K "ratio" (top 9) f1)
  (t2:FT K "plus" (top 10) f2)
  (t3:FT K "minus" (top 11) f3)
  (t4:FT K "times" (top 12) f4)
  (t5:FT K "parted" (top 13) f5)
  (t6:FT K "neighbours_added" (top 14) f6)
  (t7:FT K "total" (top 15) f7)
  (t8:FT K "under" (top 16) f8)
  (t9:FT K "between" (top 17) f9)
  (t10:FT K "whole_part" (top 18) f10)
  (t11:FT K "cover" (top 20) f11)
  (t12:FT K "clear_film" (top 21) f12)
  (t13:FT K "rest_of" (top 22) f13)
  (t14:FT K "multiplied" (top 23) f14)
  (t15:FT K "seen" (top 24) f15)
  (t16:FT K "ink_film" (top 25) f16)
  (t17:FT K "rub_film" (top 26) f17)
  (t18:FT K "joined" (top 27) f18)
  (t19:FT K "mixed" (top 28) f19)
  (t20:FT K "sides" (top 30) f20)
  (t21:FT K "numbers_between" (top 32) f21)
  (t22:FT K "rests_at" (top 33) f22)
  (t23:FT K "upright_crossings" (top 34) f23)
  (t24:FT K "level_crossings" (top 35) f24)
  (t25:FT K "comes_ahead" (top 36) f25)
  (t26:FT K "made_one" (top 37) f26)
  (t27:FT K "stops" (top 38) f27)
  (t28:FT K "middle" (top 39) f28)
  (t29:FT K "piece_between" (top 40) f29)
  (t30:FT K "counts_on" (top 41) f30)
  (t31:FT K "pieces" (top 42) f31)
  (t32:FT K "fall" (top 43) f32)
  (t33:FT K "right" (top 44) f33)
  (t34:FT K "empty_lists" (top 46) f34)
  (t35:FT K "all_pieces" (top 47) f35)
  (t36:FT K "row_of_shares" (top 48) f36)
  (t37:FT K "shares" (top 49) f37)
  (t38:FT K "own_shape" (top 51) f38)
  (t39:FT K "strength_or_one" (top 52) f39)
  (t40:FT K "each_changed" (top 53) f40)
  (t41:FT K "put_together" (top 54) f41)
  (t42:FT K "covers" (top 55) f42)
  (t43:FT K "thinned_covers" (top 56) f43)
  (t44:FT K "clear_films" (top 57) f44)
  (t45:FT K "joined_films" (top 58) f45)
  (t46:FT K "_law_cell" (top 65) f46)
  (t47:FT K "_law_whole" (top 66) f47)
  (t48:FT K "_law_spread" (top 67) f48)
  (t49:FT K "_law_low" (top 68) f49)
  (t50:FT K "_law_plus" (top 69) f50)
  (t51:FT K "_law_minus" (top 70) f51)
  (t52:FT K "_law_times" (top 71) f52)
  (t53:FT K "_law_like" (top 72) f53)
  (t54:FT K "_law_part" (top 73) f54)
  (t55:FT K "_law_ink_film" (top 74) f55)
  (t56:FT K "_law_mixed" (top 75) f56)
  (t57:FT K "_law_at" (top 76) f57)
  (t58:FT K "_law_box" (top 77) f58)
  (t59:FT K "_law_shape" (top 78) f59)
  (t60:FT K "_law_covers" (top 79) f60)
  (t61:FT K "_law_rows_good" (top 80) f61)
  (t62:FT K "_law_inked" (top 81) f62)
  (t63:FT K "_law_rubbed" (top 82) f63)
  (t64:FT K "_law_ink" (top 83) f64)
  (t65:FT K "_law_mixed_by" (top 84) f65)
  (t66:FT K "_law_all" (top 85) f66)
  (t67:FT K "_law_of" (top 86) f67)
  (t68:FT K "_law_rims_good" (top 87) f68)
  (t69:FT K "_law_deep" (top 88) f69)
  (a70:W.nsIn K mainGlobals "law"=some (some (.ref f70))) (l70:K.lookup f70=some ⟨oc70,od70,.func (W.fnOf "law" "law" (zAb (top 89)) (zAG (top 89)) (zAA (top 89)) .none kV70 dc70 pm70 an70 cd70 ct70),sl70⟩) (c70:W.codeIn K cd70 "law"=true) (k70:W.keepIn K (.ref f70)=true)
  (z0:W.nsIn K mainGlobals "abs"=some none)
  (z1:W.nsIn K mainGlobals "len"=some none)
  (z2:W.nsIn K mainGlobals "range"=some none)
  (z3:W.nsIn K mainGlobals "list"=some none)
  (z4:W.nsIn K mainGlobals "tuple"=some none)
  (z5:W.nsIn K mainGlobals "zip"=some none)
  (z6:W.nsIn K mainGlobals "reversed"=some none)
  (z7:W.nsIn K mainGlobals "max"=some none)
  (z8:W.nsIn K mainGlobals "isinstance"=some none)
  (z9:W.nsIn K mainGlobals "bool"=some none)
  (z10:W.nsIn K mainGlobals "int"=some none)
  (ca0:W.nsIn K mainGlobals "NOUGHT"=some (some (.ref g0))) (cl0:K.lookup g0=some ⟨.type "tuple",cod0,.seq cit0 cn0,csl0⟩) (cv0:cit0.toList.map absV=[some (.int 0),some (.int 1)])
  (ca1:W.nsIn K mainGlobals "HALF"=some (some (.ref g1))) (cl1:K.lookup g1=some ⟨.type "tuple",cod1,.seq cit1 cn1,csl1⟩) (cv1:cit1.toList.map absV=[some (.int 1),some (.int 2)])
  (ca2:W.nsIn K mainGlobals "ONE"=some (some (.ref g2))) (cl2:K.lookup g2=some ⟨.type "tuple",cod2,.seq cit2 cn2,csl2⟩) (cv2:cit2.toList.map absV=[some (.int 1),some (.int 1)])
  (u_u0:UC K "Fill" o_u0 ["shape","ink","strength"])
  (u_u1:UC K "Rub" o_u1 ["shape","strength"])
  (u_u2:UC K "Masked" o_u2 ["shape","layer"])
  (u_u3:UC K "Join" o_u3 ["layers","strength"])
  (m_q0:W.findIn K (.ref o_u0) "__init__"=some (some (.ref f_q0)))
  (i_q0:W.isFn K (.ref f_q0)=true)
  (l_q0:K.lookup f_q0=some ⟨oc_q0,od_q0,.func (W.fnOf "__init__" "Fill.__init__" (zAb (zAF (top 60) 0)) (zAG (zAF (top 60) 0)) (zAA (zAF (top 60) 0)) (.ref T_q0) kV_q0 dc_q0 pm_q0 an_q0 cd_q0 ct_q0),sl_q0⟩)
  (c_q0:W.codeIn K cd_q0 "Fill.__init__"=true)
  (k_q0:W.keepIn K (.ref f_q0)=true)
  (lT_q0:K.lookup T_q0=some ⟨ocT_q0,odT_q0,.seq #[.none] nT_q0,slT_q0⟩)
  (t_q1:FQ K o_u0 f_q1 "films" "Fill.films" (zAF (top 60) 1))
  (m_q2:W.findIn K (.ref o_u1) "__init__"=some (some (.ref f_q2)))
  (i_q2:W.isFn K (.ref f_q2)=true)
  (l_q2:K.lookup f_q2=some ⟨oc_q2,od_q2,.func (W.fnOf "__init__" "Rub.__init__" (zAb (zAF (top 61) 0)) (zAG (zAF (top 61) 0)) (zAA (zAF (top 61) 0)) (.ref T_q2) kV_q2 dc_q2 pm_q2 an_q2 cd_q2 ct_q2),sl_q2⟩)
  (c_q2:W.codeIn K cd_q2 "Rub.__init__"=true)
  (k_q2:W.keepIn K (.ref f_q2)=true)
  (lT_q2:K.lookup T_q2=some ⟨ocT_q2,odT_q2,.seq #[.none] nT_q2,slT_q2⟩)
  (t_q3:FQ K o_u1 f_q3 "films" "Rub.films" (zAF (top 61) 1))
  (m_q4:W.findIn K (.ref o_u2) "__init__"=some (some (.ref f_q4)))
  (i_q4:W.isFn K (.ref f_q4)=true)
  (l_q4:K.lookup f_q4=some ⟨oc_q4,od_q4,.func (W.fnOf "__init__" "Masked.__init__" (zAb (zAF (top 62) 0)) (zAG (zAF (top 62) 0)) (zAA (zAF (top 62) 0)) .none kV_q4 dc_q4 pm_q4 an_q4 cd_q4 ct_q4),sl_q4⟩)
  (c_q4:W.codeIn K cd_q4 "Masked.__init__"=true)
  (k_q4:W.keepIn K (.ref f_q4)=true)
  (t_q5:FQ K o_u2 f_q5 "films" "Masked.films" (zAF (top 62) 1))
  (m_q6:W.findIn K (.ref o_u3) "__init__"=some (some (.ref f_q6)))
  (i_q6:W.isFn K (.ref f_q6)=true)
  (l_q6:K.lookup f_q6=some ⟨oc_q6,od_q6,.func (W.fnOf "__init__" "Join.__init__" (zAb (zAF (top 63) 0)) (zAG (zAF (top 63) 0)) (zAA (zAF (top 63) 0)) (.ref T_q6) kV_q6 dc_q6 pm_q6 an_q6 cd_q6 ct_q6),sl_q6⟩)
  (c_q6:W.codeIn K cd_q6 "Join.__init__"=true)
  (k_q6:W.keepIn K (.ref f_q6)=true)
  (lT_q6:K.lookup T_q6=some ⟨ocT_q6,odT_q6,.seq #[.none] nT_q6,slT_q6⟩)
  (t_q7:FQ K o_u3 f_q7 "films" "Join.films" (zAF (top 63) 1))
  : ∃ fd:FuncData,(∀ (s:Shared) (v:Value),BindsTo s fd ⟨[v],[]⟩ [("_law_script",v)])/\∀ base:Heap,K.In base->base.Ns mainGlobals mg->FnOk l.prog w K mg base CX0 92 fa fd ["_law_script"] (spM K FM70):=by
 have e:=hfa.symm.trans (W.mg_of X G a70);cases e;obtain⟨_,E21⟩:=t21.F;have B21:=E21.binds (ps:=P21) λ_ _ _ _ _ _ us hl=>by obtain⟨_,_,_,rfl⟩:=len3 hl;rfl
 obtain⟨_,E43⟩:=t43.F;have B43:=E43.binds (ps:=P43) λ_ _ _ _ _ _ us hl=>by obtain⟨_,_,_,_,rfl⟩:=len4 hl;rfl
 have E70:=zK1 (st:=top 89) l70 c70 k70;have B70:=E70.binds (ps:=P70) λ_ _ _ _ _ _ us hl=>by obtain⟨_,rfl⟩:=len1 hl;rfl
 refine⟨W.fnOf "law" "law" (zAb (top 89)) (zAG (top 89)) (zAA (top 89)) .none kV70 dc70 pm70 an70 cd70 ct70,λs v=>.of_eq rfl,λbase _ _=>?_⟩;have g0:GOk l.prog w K mg base 0 G0 bs:=⟨λx F h=>absurd h (by simp[G0]),λx d h=>?_,λx h=>?_,trivial,trivial,trivial,λj L F e=>absurd e (by simp[G0]),λp h=>?_⟩
 .have g21:GOk l.prog w K mg base 21 G21 bs:=(.aT 1 ["ring"] (.aT 2 ["film","t"] (.aT 2 ["upper","lower"] (.aT 1 ["s"] (.aT 2 ["s","ink"] (.aT 2 ["film","ground","through"] (.aT 2 ["parts","by"] (.aT 1 ["part"] (.aT 0 [] (.aT 1 ["share"] (.aT 1 ["one"] (.aT 3 ["one","low","high"] (.aT 2 ["one","other"] (.aT 1 ["some","sums"] (.aT 1 ["some","added"] (.aT 2 ["one","other"] (.aT 2 ["one","other"] (.aT 2 ["one","other"] (.aT 2 ["one","other"] (.aT 2 ["top","bottom","measure"] (.aT 2 ["one","other","rest"] g0 X G t0) X G t1) X G t2) X G t3) X G t4) X G t5) X G t6) X G t7) X G t8) X G t9) X G t10) X G t11) X G t12) X G t13) X G t14) X G t15) X G t16) X G t17) X G t18) X G t19) X G t20);have g21_0:GOk l.prog w K mg base 21 zTu bs:=g21.addN E21 (W.mg_of X G t21.a) B21;have g21_1:GOk l.prog w K mg base 22 zTt bs:=g21.addR g21_0 (by decide) E21 sc21 ck21 (W.mg_of X G t21.a) B21;have g22:GOk l.prog w K mg base 23 G22 bs:=g21.addR g21_1 (by decide) E21 sc21 ck21 (W.mg_of X G t21.a) B21;have g43:GOk l.prog w K mg base 39 G43 bs:=(.aU ["width","height","shape"] (.aU ["some","others","make"] (.aU ["rows","change"] (.aT 1 ["strength"] (.aU ["shape"] (.aU ["width","height","shape"] (.aT 2 ["falls","rights","told","fallen","column"] (.aT 3 ["width","height","shape","found","ring","side"] (.aT 1 ["count"] (.aT 1 ["piece","column"] (.aT 1 ["piece"] (.aT 3 ["width","height","side","points","parts"] (.aT 3 ["width","height","piece"] (.aT 2 ["start","end","column","row"] (.aT 2 ["one","other"] (.aT 3 ["width","height","side","start","end","crossed"] (.aT 3 ["some","others","to_the_right","points","k","point"] (.aT 3 ["one","other","to_the_right"] (.aT 2 ["side","height","start","end","numbers","widths"] (.aT 2 ["side","width","start","end","numbers","heights"] (.aT 5 ["numbers","start","end","rest","rest_end","slope"] g22 X G t22) X G t23) X G t24) X G t25) X G t26) X G t27) X G t28) X G t29) X G t30) X G t31) X G t32) X G t33) X G t34) X G t35) X G t36) X G t37) X G t38) X G t39) X G t40) X G t41) X G t42);have g44:GOk l.prog w K mg base 39 G44 bs:=g43.addN E43 (W.mg_of X G t43.a) B43;have g70:GOk l.prog w K mg base 54 G70 bs:=(.aU ["_law_drawn","_law_cell_here","_law_ink_here","_law_t"] (.aU ["_law_layer","_law_films","_law_width","_law_height"] (.aU ["_law_cell_here","_law_ink_here","_law_t","_law_rows"] (.aU ["_law_width","_law_height"] (.aU ["_law_films","_law_rows"] (.aT 1 ["_law_cell_here"] (.aU ["_law_rows","_law_t"] (.aU ["_law_rows","_law_ink_here","_law_t"] (.aT 2 ["_law_found","_law_due","_law_k","_law_j"] (.aU ["_law_width","_law_height","_law_shape_here"] (.aU ["_law_cell_here","_law_width","_law_height"] (.aT 3 ["_law_parts","_law_width","_law_height","_law_left","_law_low_here","_law_far","_law_high"] (.aT 2 ["_law_some","_law_most","_law_bottom"] (.aT 2 ["_law_film","_law_t","_law_parts","_law_part_here"] (.aT 2 ["_law_s","_law_ink_here","_law_parts","_law_part_here"] (.aT 1 ["_law_cell_here","_law_bottom","_law_rest","_law_way"] (.aT 2 ["_law_found","_law_due","_law_part_here","_law_number"] (.aT 2 ["_law_one","_law_other"] (.aT 2 ["_law_one","_law_other"] (.aT 2 ["_law_one","_law_other"] (.aT 2 ["_law_top","_law_bottom","_law_one","_law_other","_law_rest"] (.aT 2 ["_law_cell_here","_law_k"] (.aT 1 ["_law_found"] (.aT 2 ["_law_script","_law_k","_law_seed","_law_some"] (.aU ["width","height","layers"] (.aU ["width","height"] g44 X G t44) X G t45) X G t46) X G t47) X G t48) X G t49) X G t50) X G t51) X G t52) X G t53) X G t54) X G t55) X G t56) X G t57) X G t58) X G t59) X G t60) X G t61) X G t62) X G t63) X G t64) X G t65) X G t66) X G t67) X G t68) X G t69)
  have bk_q0:=λ(s:Shared) (args:Args) (bi:List (Str×Value)) kk (hK:K.In s.heap) h1 h2=>zEe (s:=s) (args:=args) (binds:=bi) (kk:=kk) (fd:=W.fnOf "__init__" "Fill.__init__" (zAb (zAF (top 60) 0)) (zAG (zAF (top 60) 0)) (zAA (zAF (top 60) 0)) (.ref T_q0) kV_q0 dc_q0 pm_q0 an_q0 cd_q0 ct_q0) rfl lT_q0 hK h1 h2
  obtain⟨_,E_q1⟩:=t_q1.F;have B_q1:=E_q1.binds (ps:=zCi) (bz3 rfl rfl);have bk_q2:=λ(s:Shared) (args:Args) (bi:List (Str×Value)) kk (hK:K.In s.heap) h1 h2=>zEe (s:=s) (args:=args) (binds:=bi) (kk:=kk) (fd:=W.fnOf "__init__" "Rub.__init__" (zAb (zAF (top 61) 0)) (zAG (zAF (top 61) 0)) (zAA (zAF (top 61) 0)) (.ref T_q2) kV_q2 dc_q2 pm_q2 an_q2 cd_q2 ct_q2) rfl lT_q2 hK h1 h2
  have bk_q6:=λ(s:Shared) (args:Args) (bi:List (Str×Value)) kk (hK:K.In s.heap) h1 h2=>zEe (s:=s) (args:=args) (binds:=bi) (kk:=kk) (fd:=W.fnOf "__init__" "Join.__init__" (zAb (zAF (top 63) 0)) (zAG (zAF (top 63) 0)) (zAA (zAF (top 63) 0)) (.ref T_q6) kV_q6 dc_q6 pm_q6 an_q6 cd_q6 ct_q6) rfl lT_q6 hK h1 h2
  obtain⟨_,E_q7⟩:=t_q7.F;have B_q7:=E_q7.binds (ps:=zBq) (bz3 rfl rfl);have gl0:GOk l.prog w K mg base 55 GL0 bs:=g70.addL lsc0.1 lsc0.2 lck0;have fq0:zF2 K "thinned_covers"=some f43:=by
   unfold zF2;rw[show zMg.lookup ("thinned_covers":Str)=none from by decide +kernel];simp only[t43.a]
  have ld0:zEo K "thinned_covers" (top 56) f43 N43 (zAG (top 56)).dropLast (zEU (top 56)) "each_changed" L0 [3]:=by
   have cp:=zLj (sc:=zAA (top 56)) (ps:=N43) (ys:=["strength"]) (ix:=[3]) (by decide +kernel);rw[<- lsc0.2] at cp;exact⟨⟨_,_,_,_,rfl⟩,rfl,rfl,by decide,fq0,⟨_,_,lt0⟩,by decide +kernel,by decide,λ_=>rfl,by rw[lsc0.2];decide,cp.1,cp.2,zF0 _⟩
  have gl1:GOk l.prog w K mg base 56 GL1 bs:=gl0.addL lsc1.1 lsc1.2 lck1;have fq1:zF2 K "Fill.films"=some f_q1:=by
   unfold zF2;rw[show zMg.lookup ("Fill.films":Str)=some (("Fill":Str),("films":Str)) from by decide +kernel];simp only[show W.nsIn K mainGlobals _=_ from u_u0.a,t_q1.M.1]
  have ld1:zEo K "Fill.films" (zAF (top 60) 1) f_q1 zBG (zAG (zAF (top 60) 1)).dropLast (zEU (zAF (top 60) 1)) "each_changed" L1 [0]:=by
   have cp:=zLj (sc:=zAA (zAF (top 60) 1)) (ps:=zBG) (ys:=["self"]) (ix:=[0]) (by decide +kernel);rw[<- lsc1.2] at cp;exact⟨⟨_,_,_,_,rfl⟩,rfl,rfl,by decide,fq1,⟨_,_,lt1⟩,by decide +kernel,by decide,λ_=>rfl,by rw[lsc1.2];decide,cp.1,cp.2,zF0 _⟩
  have gl2:GOk l.prog w K mg base 57 GL2 bs:=gl1.addL lsc2.1 lsc2.2 lck2;have fq2:zF2 K "Join.films"=some f_q7:=by
   unfold zF2;rw[show zMg.lookup ("Join.films":Str)=some (("Join":Str),("films":Str)) from by decide +kernel];simp only[show W.nsIn K mainGlobals _=_ from u_u3.a,t_q7.M.1]
  have ld2:zEo K "Join.films" (zAF (top 63) 1) f_q7 zAt (zAG (zAF (top 63) 1)).dropLast (zEU (zAF (top 63) 1)) "each_changed" L2 [0]:=by
   have cp:=zLj (sc:=zAA (zAF (top 63) 1)) (ps:=zAt) (ys:=["self"]) (ix:=[0]) (by decide +kernel);rw[<- lsc2.2] at cp;exact⟨⟨_,_,_,_,rfl⟩,rfl,rfl,by decide,fq2,⟨_,_,lt2⟩,by decide +kernel,by decide,λ_=>rfl,by rw[lsc2.2];decide,cp.1,cp.2,zF0 _⟩
  have c0:DmOk l.prog w K mg base 57 []:=λx F h=>absurd h (by simp)
  have c1_:=c0.lift1 gl2 (mem_of_getElem? (i:=61) (show GL2.fns[61]?=some (("_law_rows_good":Str),F61) from rfl));have d0:DmOk l.prog w K mg base 57 D0:=c1_;have d6:DmOk l.prog w K mg base 63 D6:=(.aT 3 ["width","height","shape"] (.aT 3 ["some","others","make","rows","row"] (.aT 2 ["rows","change"] (.aT 1 ["shape"] (.aT 3 ["width","height","shape","falls","rights","piece","place"] (.aT 1 ["count"] d0 gl2 X G t34) gl2 X G t37) gl2 X G t38) gl2 X G t40) gl2 X G t41) gl2 X G t42);have d7:DmOk l.prog w K mg base 64 D7:=d6.addF (gl2.mono (by decide)) E43 sc43 ld0 pck0 eck0 (W.mg_of X G t43.a) B43 (mem_of_getElem? (i:=4) (show D6[4]?=some (("each_changed":Str),FM40) from rfl));have d8:DmOk l.prog w K mg base 65 D8:=(.aT 2 ["width","height"] d7 gl2 X G t44);have fi_q0:=zFt (J:=GL2) (c := "Fill") (C:=o_u0) (y := "self") (ys:=zCh.tail) (L:=zDk) l_q0 c_q0 zIp (by decide +kernel) (by decide) zHW (gl2.mono (by decide)) d8 u_u0.a u_u0.c u_u0.n (by decide +kernel) (by decide +kernel) (by decide +kernel) (by decide);have d9:DmOk l.prog w K mg base 67 D9:=(d8.mono (by decide)).addC (kw := "strength") (j:=66) (by decide) (by decide +kernel) (W.mg_of X G u_u0.a) ⟨u_u0.k,m_q0,i_q0,u_u0.kc⟩ fi_q0 (λs us hK hl=>by obtain⟨_,_,_,_,rfl⟩:=len4 (us:=us) (by simpa [zCh] using hl);exact bk_q0 s _ _ _ hK rfl rfl) (λ_=>⟨(λs us hK hl=>by obtain⟨_,_,_,rfl⟩:=len3 (us:=us) (by simpa [zCh] using hl);exact bk_q0 s _ _ _ hK rfl rfl),(λs us u hK hl=>by obtain⟨_,_,_,rfl⟩:=len3 (us:=us) (by simpa [zCh] using hl);exact bk_q0 s _ _ _ hK rfl rfl)⟩);have fi_q2:=zFt (J:=GL2) (c := "Rub") (C:=o_u1) (y := "self") (ys:=zDS.tail) (L:=zEX) l_q2 c_q2 zJk (by decide +kernel) (by decide) zI6 (gl2.mono (by decide)) d9 u_u1.a u_u1.c u_u1.n (by decide +kernel) (by decide +kernel) (by decide +kernel) (by decide);have d10:DmOk l.prog w K mg base 69 D10:=(d9.mono (by decide)).addC (kw := "strength") (j:=68) (by decide) (by decide +kernel) (W.mg_of X G u_u1.a) ⟨u_u1.k,m_q2,i_q2,u_u1.kc⟩ fi_q2 (λs us hK hl=>by obtain⟨_,_,_,rfl⟩:=len3 (us:=us) (by simpa [zDS] using hl);exact bk_q2 s _ _ _ hK rfl rfl) (λ_=>⟨(λs us hK hl=>by obtain⟨_,_,rfl⟩:=len2 (us:=us) (by simpa [zDS] using hl);exact bk_q2 s _ _ _ hK rfl rfl),(λs us u hK hl=>by obtain⟨_,_,rfl⟩:=len2 (us:=us) (by simpa [zDS] using hl);exact bk_q2 s _ _ _ hK rfl rfl)⟩);have fi_q4:=zFt (J:=GL2) (c := "Masked") (C:=o_u2) (y := "self") (ys:=zDC.tail) (L:=zCY) l_q4 c_q4 zGP (by decide +kernel) (by decide) zFw (gl2.mono (by decide)) d10 u_u2.a u_u2.c u_u2.n (by decide +kernel) (by decide +kernel) (by decide +kernel) (by decide);have d11:DmOk l.prog w K mg base 71 D11:=(d10.mono (by decide)).addC (kw := "") (j:=70) (by decide) (by decide +kernel) (W.mg_of X G u_u2.a) ⟨u_u2.k,m_q4,i_q4,u_u2.kc⟩ fi_q4 (.all λus hl=>by obtain⟨_,_,_,rfl⟩:=len3 (us:=us) (by simpa [zDC] using hl);rfl) (λz=>absurd rfl z);have fi_q6:=zFt (J:=GL2) (c := "Join") (C:=o_u3) (y := "self") (ys:=zCg.tail) (L:=zDj) l_q6 c_q6 zIo (by decide +kernel) (by decide) zHV (gl2.mono (by decide)) d11 u_u3.a u_u3.c u_u3.n (by decide +kernel) (by decide +kernel) (by decide +kernel) (by decide)
  have d12:DmOk l.prog w K mg base 73 D12:=(d11.mono (by decide)).addC (kw := "strength") (j:=72) (by decide) (by decide +kernel) (W.mg_of X G u_u3.a) ⟨u_u3.k,m_q6,i_q6,u_u3.kc⟩ fi_q6 (λs us hK hl=>by obtain⟨_,_,_,rfl⟩:=len3 (us:=us) (by simpa [zCg] using hl);exact bk_q6 s _ _ _ hK rfl rfl) (λ_=>⟨(λs us hK hl=>by obtain⟨_,_,rfl⟩:=len2 (us:=us) (by simpa [zCg] using hl);exact bk_q6 s _ _ _ hK rfl rfl),(λs us u hK hl=>by obtain⟨_,_,rfl⟩:=len2 (us:=us) (by simpa [zCg] using hl);exact bk_q6 s _ _ _ hK rfl rfl)⟩);have d13:DmOk l.prog w K mg base 74 D13:=d12.addFM (gl2.mono (by decide)) E_q1 zFY ld1 pck1 eck1 B_q1 (mem_of_getElem? (i:=4) (show D12[4]?=some (("each_changed":Str),FM40) from rfl)) u_u0.a u_u0.c t_q1.M (by decide +kernel);have d16:DmOk l.prog w K mg base 77 D16:=(.aT 3 ["width","height","layers","rows","layer"] (.aQ 3 ["self","width","height"] (.aQ 3 ["self","width","height"] d13 gl2 t_q3 u_u1.a u_u1.c) gl2 t_q5 u_u2.a u_u2.c) gl2 X G t45);have d17:DmOk l.prog w K mg base 78 D17:=d16.addFM (gl2.mono (by decide)) E_q7 zDH ld2 pck2 eck2 B_q7 (mem_of_getElem? (i:=4) (show D16[4]?=some (("each_changed":Str),FM40) from rfl)) u_u3.a u_u3.c t_q7.M (by decide +kernel);have d19:DmOk l.prog w K mg base 80 D19:=(.aT 3 ["width","height","layers","rows","layer"] (.aQ 3 ["self","width","height"] d17 gl2 t_q5 u_u2.a u_u2.c) gl2 X G t45);have d20:DmOk l.prog w K mg base 81 D20:=d19.addFM (gl2.mono (by decide)) E_q7 zDH ld2 pck2 zTa B_q7 (mem_of_getElem? (i:=4) (show D19[4]?=some (("each_changed":Str),FM40) from rfl)) u_u3.a u_u3.c t_q7.M (by decide +kernel);have d30:DmOk l.prog w K mg base 91 D30:=(.aT 4 ["_law_drawn","_law_cell_here","_law_ink_here","_law_t","_law_shapes","_law_rows","_law_layer","_law_once","_law_twice","_law_due"] (.aT 4 ["_law_layer","_law_films","_law_width","_law_height","_law_nought","_law_clear"] (.aT 4 ["_law_cell_here","_law_ink_here","_law_t","_law_rows"] (.aT 2 ["_law_width","_law_height","_law_high"] (.aT 2 ["_law_films","_law_rows","_law_come","_law_j","_law_line","_law_i"] (.aT 2 ["_law_rows","_law_t","_law_come","_law_row","_law_less"] (.aT 3 ["_law_rows","_law_ink_here","_law_t"] (.aT 3 ["_law_width","_law_height","_law_shape_here","_law_rows","_law_line","_law_row","_law_share"] (.aT 3 ["_law_cell_here","_law_width","_law_height","_law_some","_law_shape_here","_law_ring","_law_parts","_law_k","_law_points"] (.aQ 3 ["self","width","height"] d20 gl2 t_q5 u_u2.a u_u2.c) gl2 X G t59) gl2 X G t60) gl2 X G t62) gl2 X G t63) gl2 X G t65) gl2 X G t66) gl2 X G t67) gl2 X G t68) gl2 X G t69);exact zHl E70 sc70 zUO (gl2.mono (by decide)) d30
 .simp only [G0,mem_cons,Prod.mk.injEq,List.mem_nil_iff,or_false,not_mem_nil] at h;rcases h with ⟨rfl,rfl⟩ | ⟨rfl,rfl⟩ | ⟨rfl,rfl⟩ | ⟨rfl,rfl⟩ | ⟨rfl,rfl⟩ | ⟨rfl,rfl⟩ | ⟨rfl,rfl⟩
  .exact zFy (ns:=[0,1]) (W.mg_of X G ca0) cl0 cv0
  .exact zFy (ns:=[1,2]) (W.mg_of X G ca1) cl1 cv1
  .exact zFy (ns:=[1,1]) (W.mg_of X G ca2) cl2 cv2
  .exact ⟨_,.ref f11,W.mg_of X G t11.a,rfl,by rw[Den];exact⟨_,rfl,t11.a⟩⟩
  .exact ⟨_,.ref f18,W.mg_of X G t18.a,rfl,by rw[Den];exact⟨_,rfl,t18.a⟩⟩
  .exact ⟨_,.ref f17,W.mg_of X G t17.a,rfl,by rw[Den];exact⟨_,rfl,t17.a⟩⟩
  .exact ⟨_,.ref f19,W.mg_of X G t19.a,rfl,by rw[Den];exact⟨_,rfl,t19.a⟩⟩
 .simp only [bs,mem_cons,List.mem_nil_iff,or_false,not_mem_nil] at h;rcases h with rfl | rfl | rfl | rfl | rfl | rfl | rfl | rfl | rfl | rfl | rfl
  .exact W.mg_none_of X G z0
  .exact W.mg_none_of X G z1
  .exact W.mg_none_of X G z2
  .exact W.mg_none_of X G z3
  .exact W.mg_none_of X G z4
  .exact W.mg_none_of X G z5
  .exact W.mg_none_of X G z6
  .exact W.mg_none_of X G z7
  .exact W.mg_none_of X G z8
  .exact W.mg_none_of X G z9
  .exact W.mg_none_of X G z10
 .simp only [G0,mem_cons,List.mem_nil_iff,or_false,not_mem_nil] at h;rcases h with rfl | rfl | rfl | rfl | rfl | rfl | rfl | rfl | rfl
  .exact u_u0.o (by decide)
  .exact u_u0.o (by decide)
  .exact u_u0.o (by decide)
  .exact u_u1.o (by decide)
  .exact u_u1.o (by decide)
  .exact u_u2.o (by decide)
  .exact u_u2.o (by decide)
  .exact u_u3.o (by decide)
  .exact u_u3.o (by decide)
end Q
end
open PySem L2 DL
local macro_rules | `(tactic| walk_at "m")=>`(tactic| (repeat walk_at "mw"))
section
noncomputable section
namespace Q
open PySem DL
open L2
def h0:zQ8 F0:=λa b Q c a h=>zPc c a h
def h1:zFO F1:=zMN rfl h0
def h2:zEv F2:=zO5 (nr:=1) rfl h1
def h3:zD0 F3:=zMd (nr:=1) rfl h1
def h4:zC0 F4:=zMC (nr:=1) rfl h1
def h5:zGE F5:=zJ1 rfl h1
def h6:zNo F6:=zPW rfl h2
def h7:zLs F7:=zMB (nn:=6) (ng:=0) rfl h6 rfl
def h8:zFN F8:=zL9
def h9 (p b a:Rat)(n:Nat)(Q:R->Prop)(e:RB n p)(g:RB n b)(f:RB n a)(l:n<=10000000)(h:Q (ratD (if p < b then b else if a < p then a else p),.cl)):EvP (F9 [ratD p,ratD b,ratD a]) Q:=by
 (walk_at "d");unfold b9;(walk_at "st");(walk_at "w");refine h8 p b n n _ e g (by omega) ?_;(walk_at "w");refine zA9 (λc=>?_) λc=>?_
 .rw [if_pos c] at h;(walk_at "w");exact h
 rw[if_neg c] at h;(walk_at "w");refine h8 a p n n _ f e (by omega) ?_;(walk_at "w");refine zA9 (λc=>?_) λc=>?_
 .rw [if_pos c] at h;(walk_at "w");exact h
 rw[if_neg c] at h;(walk_at "w");exact h
noncomputable def cov (p:Rat):Rat:=if p < 0 then 0 else if 1 < p then 1 else p
def h10:WpF F10:=zT3
def h11 (p:Rat)(n:Nat)(Q:R->Prop)(b:RB n p)(a:1<=n)(l:n<=10000000)(h:Q (ratD (cov p),.cl)):EvP (F11 [ratD p]) Q:=by
 (walk_at "d");unfold b11;(walk_at "st");(walk_at "w");refine h9 p 0 1 n _ b (zBB.mono a) (zBd.mono a) l ?_;(walk_at "w");exact h
def zGn (h:RB n p)(l:1<=n):RB n (cov p):=by
 unfold cov;split
 .exact zBB.mono l
 .split
  .exact zBd.mono l
  .exact h
def h13:zLy F13:=zOy (nm:=3) (n1:=2) rfl rfl h3
def h14:zJK F14:=zPZ (nt:=4) rfl h4
def h21:zL0 (λ_ _=>True) F21:=zKH (nu:=8) (ns:=21) rfl h8 λ_ _=>⟨_,rfl,(zKH (nu:=8) (ns:=21) rfl h8 λh z=>absurd z h)⟩
def h22:zLx F22:=zMM (nd:=5) (nm:=3) (np:=2) (nt:=4) rfl rfl rfl rfl h5 h3 h2 h4
def h26:zQ9 F26:=zPf (na:=25) rfl (zNm (nu:=8) rfl h8)
def h27:zLt F27:=zMF (nm:=26) (nu:=23) (nl:=24) (nx:=8) rfl rfl rfl rfl h26 (zTj true (nn:=21) (nr:=22) rfl rfl h21 h22) (zTj false (nn:=21) (nr:=22) rfl rfl h21 h22) h8
def h28:MidF F28:=zSE (nt:=4) (np:=2) (ng:=1) rfl rfl rfl h4 h2
def h31:zHs F31:=zJx (ns:=27) (np:=29) (no:=30) rfl rfl rfl h27 (zUI (nw:=10) (nm:=28) rfl rfl h10 h28) zUK
def h32:zNp F32:=zQT (nm:=3) rfl h3
def h35:AllF F35:=zTr (ns:=20) (np:=31) rfl rfl zMG h31
def h36:RowF F36:=zRa (np:=2) (nt:=7) (ng:=0) rfl rfl rfl h2 h7
def h39n (Q:R->Prop)(h:Q (ratD 1,.cl)):EvP (F39 [.non]) Q:=by
 (walk_at "d");unfold b39;(walk_at "st");(walk_at "w");refine⟨(.bl true,.cl),rfl,true,rfl,?_⟩;(walk_at "w");exact h
def h39 (t:Rat)(Q:R->Prop)(h:Q (ratD t,.cl)):EvP (F39 [ratD t]) Q:=by
 (walk_at "d");unfold b39;(walk_at "st");(walk_at "w");refine⟨(.bl false,.cl),rfl,false,rfl,?_⟩;(walk_at "w");exact h
def h46:zTy F46:=zQt
def h47:zLr F47:=λi Q h=>zL7 h
def h48:zLu F48:=zJa
def h49:LowF F49:=zSN
def h51:zD0 F51:=zKZ (nr:=49) rfl h49
def h52:zC0 F52:=zKU (nr:=49) rfl h49
def h53:zOg F53:=zNF (nw:=47) rfl h47
def I255 (i:Int):Prop:=0<=i/\i<=255
def h64 (c:Int)(Q:R->Prop)(h:∀ r g b:Int,I255 r->I255 g->I255 b->Q (inkD r g b,.cl)):EvP (F64 [.int c]) Q:=by
 have j:∀ x:Int,I255 (x.fmod 256):=λx=>by
  have f:=xY x (show (0:Int) < 256 by decide);have k:=fmod_lt_of_pos x (show (0:Int) < 256 by decide);exact⟨f,by omega⟩
 (walk_at "d");unfold b64;(walk_at "st");refine zAD ?_;(walk_at "e");refine zBD (by decide) ?_;(walk_at "e");refine zCK (zBU (by decide) (by decide)) ?_;(walk_at "e");refine zBD (by decide) ?_;(walk_at "e");refine zCK (zBU (by decide) (by decide)) ?_;(walk_at "e");refine zBD (by decide) ?_;have f:=xY (c.fdiv 256) (show (0:Int) < 3 by decide);have k:=fmod_lt_of_pos (c.fdiv 256) (show (0:Int) < 3 by decide);obtain⟨g,m,l⟩:∃ g:Int,I255 g/\atI [D.int 255,.int 0,.int ((c.fdiv 3).fmod 256)] ((c.fdiv 256).fmod 3)=some (.int g):=by
  generalize (c.fdiv 256).fmod 3=i at f k;have a:i=0\/i=1\/i=2:=by omega
  rcases a with rfl | rfl | rfl
  .exact ⟨255,⟨by decide,by decide⟩,rfl⟩
  .exact ⟨0,⟨by decide,by decide⟩,rfl⟩
  .exact ⟨_,j _,rfl⟩
 refine zAo l (n_cl ?_);(walk_at "e");refine zCK (zBU (by decide) (by decide)) ?_;(walk_at "e");refine zBD (by decide) ?_;(walk_at "e");exact h _ _ _ (j _) m (j _)
def At3F (F:List D->Option R):Prop:=∀ (x:Int) (m:Nat) (Q:R->Prop),m<=10->(∀ q:Rat,RB 7 q->Q (ratD q,.cl))->EvP (F [.int x,.int m]) Q
def h57:At3F F57:=λx m Q j h=>by
 (walk_at "d");unfold b57;(walk_at "st");refine zAD ?_;(walk_at "e");refine zBD (by decide) ?_;have g:=xY x (show (0:Int) < 4 by decide);have c:=fmod_lt_of_pos x (show (0:Int) < 4 by decide);obtain⟨b,b1,b2,f⟩:∃ b:Int,1<=b/\b<=4/\atI [D.int 1,.int 2,.int 4,.int 3] (x.fmod 4)=some (.int b):=by
  generalize x.fmod 4=i at g c;have a:i=0\/i=1\/i=2\/i=3:=by omega
  rcases a with rfl | rfl | rfl | rfl
  .exact ⟨1,by decide,by decide,rfl⟩
  .exact ⟨2,by decide,by decide,rfl⟩
  .exact ⟨4,by decide,by decide,rfl⟩
  .exact ⟨3,by decide,by decide,rfl⟩
 refine zAo f ?_;(walk_at "e");refine zHc rfl ?_;(walk_at "w");refine zCK (zBU (by decide) (by decide)) ?_;(walk_at "w");refine zAx (zCS (by omega)) ?_;(walk_at "w");refine zBD (by have:=Int.mul_pos (show 0 < b by omega) (show (0:Int) < m+2 by omega);omega) ?_;(walk_at "w");refine h49 _ _ _ (by omega) ?_;(walk_at "w");have o:=Int.mul_pos (show 0 < b by omega) (show (0:Int) < m+2 by omega);have p:b*((m:Int)+2)<=4*12:=Int.mul_le_mul b2 (by omega) (by omega) (by decide);have n:=xY (x.fdiv 4) (show (0:Int) < b*(m+2)+1 by omega);have l:=fmod_lt_of_pos (x.fdiv 4) (show (0:Int) < b*(m+2)+1 by omega);exact h _ (zEH (by omega) (zCx (k:=100) (by omega) (by decide)) (zCx (k:=100) (by omega) (by decide)))
structure Kq (G μ2:Mem):Prop where
 le:G.length<=μ2.length
 kp:∀ x,x < G.length->μ2[x]?=G[x]?
def zAU :Kq G (G++P):=⟨by rw[qQ];omega,λx a=>getElem?_append_left a⟩
def zKf :Kq G G:=⟨le_refl _,λ_ _=>rfl⟩
def Kq.trans {μ2:Mem}(a:Kq G μ2)(b:Kq μ2 O8):Kq G O8:=⟨le_trans a.le b.le,λx c=>(b.kp x (xX c a.le)).trans (a.kp x c)⟩
def Kq.ll {μ2:Mem}(k:Kq G μ2)(e:Ll G n l):Ll μ2 n l:=e.keep (k.kp n e.lt.1) λp a=>k.kp p.1 (e.lt.2 p a)
def Kq.get {μ2:Mem}{n:Nat}(k:Kq G μ2)(e:G[n]?=some ws):μ2[n]?=some ws:=(k.kp n (zzg e).1).trans e
def Kq.set {μ2:Mem}(k:Kq G μ2)(h:G.length<=n):Kq G (μ2.set n ws):=⟨by rw[length_set];exact k.le,λx a=>(getElem?_set_ne (by omega)).trans (k.kp x a)⟩
def Kq.app {μ2:Mem}(k:Kq G μ2):Kq G (μ2++P):=k.trans zAU
def zIB (e:Ll G n l):∀ p∈l,p.1≠n:=λp a z=>by
 have h1:=e.row p a;rw[z,e.top] at h1;have h2:=xQ h1;cases l with
 | nil=>exact absurd a (by simp)
 | cons q l =>
  cases h3:p.2 with
  | nil=>rw[h3] at h2;cases h2
  | cons d b=>rw[h3] at h2;cases h2
structure Rw (G:Mem)(n b:Nat)(l:Lp)(rows:List (List D)):Prop where
 ll:Ll G n l
 lo:∀ p∈l,b<=p.1
 top:b<=n
 snd:l.map (λp=>p.2)=rows
def Rw.len (e:Rw G n b l rows):l.length=rows.length:=by rw[<- e.snd,qy]
def Rw.dr (e:Rw G n b l rows):drW G (.loc n)=some (.lst (rows.map .lst)):=by
 rw[e.ll.dr,<- e.snd,map_map]
 rfl
def Rw.keep {μ2:Mem}(e:Rw G n b l rows)(k:Kq G μ2):Rw μ2 n b l rows:=⟨k.ll e.ll,e.lo,e.top,e.snd⟩
def Rw.lt (e:Rw G n b l rows):n < G.length:=e.ll.lt.1
def Rw.below (e:Rw G n b l rows)(h:c<=b):Rw G n c l rows:=⟨e.ll,λp a=>le_trans h (e.lo p a),le_trans h e.top,e.snd⟩
theorem Rw.at (e:Rw G n b l rows){j:Nat}(h:rows[j]?=some ds):∃ m,l[j]?=some (m,ds):=by
 rw[<- e.snd,getElem?_map] at h;obtain⟨p,h1,h2⟩:=yq.mp h;exact⟨p.1,by rw[h1,<- h2]⟩
def zHR (e:Ll G n l)(h:G[r]?=some (ds.map .dat))(a:r≠n):Ll (G.set n (l.map (λp=>W.loc p.1)++[.loc r])) n (l++[(r,ds)]):=by
 refine⟨?_,λp b=>?_⟩
 .rw [getElem?_set_self e.lt.1,x8]
  rfl
 .rcases mem_append.mp b with z | z
  .rw [getElem?_set_ne (Ne.symm (zIB e p z))];exact e.row p z
  .rw [mem_singleton.mp z,getElem?_set_ne (Ne.symm a)];exact h
def zDW {T:Type}{J:Gm}{U:Dm}{nm:Str}{N n b:Nat}{z:List Nat}{src C:ME}{O:List (Option W)}{H G:Mem}{l:Lp}{as:List T}{u v:T->List D}{Q:MR->Prop}(Z:EvP (evSrc J U src ⟨O,H⟩) λr=>r=(.live n,G))(e:Rw G n b l (as.map u))(Y:(mask none z O).length=N)(hl:as.length<=100)
  (V:∀ (P:Mem) (m:Nat) (a:T),a∈as->(G++P)[m]?=some ((u a).map .dat)->EvP (evM J U C ⟨mask none z O++[some (.loc m)],G++P⟩) λr=>r=(.loc (G++P).length,G++P++[(v a).map .dat]))
  (X:∀ (P:Mem) (l':Lp),Rw (G++P) (G.length+as.length) G.length l' (as.map v)->Q (.loc (G.length+as.length),G++P)) :
  EvP (evM J U (.comp N z nm src C) ⟨O,H⟩) Q:=by
 obtain⟨r,er,rfl⟩:=Z;refine zEQ ⟨_,er,?_⟩;have ll:=e.len;rw[qy] at ll;obtain⟨y,s',M,R,⟨o,x,B,S⟩,p4⟩:=zEg (t:=tgM N) (e:=evM J U C) (src:=.live n) (s:=⟨mask none z O++[none],G⟩) (l.map λp=>.loc p.1)
  (λj s d=>∃ o:Option W,s=⟨mask none z O++[o],G++(as.take j).map λa=>(v a).map W.dat⟩/\d=news G.length j/\j<=as.length) (λj s d f=>by obtain⟨o,x,_,_⟩:=f;subst x;exact zAT e.ll.top) (λj w s d I g=>by
   obtain⟨o,x,B,S⟩:=g;subst x B;rw[getElem?_map] at I;obtain⟨p,F,rfl⟩:=yq.mp I;have c:j < as.length:=by rw[<- ll];exact(zzg F).1
   have k:as[j]?=some as[j]:=getElem?_eq_getElem c;have E:p.2=u as[j]:=by
    have h1:(l.map λp=>p.2)[j]?=some p.2:=by rw[getElem?_map,F];rfl
    rw[e.snd,getElem?_map,k] at h1;exact(xQ h1).symm
   have mp:=mem_of_getElem? F;have K:=e.ll.row p mp;rw[E] at K;have h:(G++(as.take j).map λa=>(v a).map W.dat).length=G.length+j:=by rw[qQ,qy,length_take];omega
   refine⟨by rw[zB8];omega,⟨mask none z O++[some (.loc p.1)],G++(as.take j).map λa=>(v a).map W.dat⟩,(.loc (G++(as.take j).map λa=>(v a).map W.dat).length,(G++(as.take j).map λa=>(v a).map W.dat)++[(v as[j]).map .dat]),?_,(V _ p.1 as[j] (mem_of_getElem? k) (zAT K)).eq,some (.loc p.1),?_,?_,by omega⟩
   .unfold tgM;dsimp only;rw[set_append_right _ _ (by omega),Y,sub_self]
    rfl
   .rw [List.take_add_one,k,Option.toList_some,x8,q8];rfl
   .rw [zDN,h]) ⟨none,by rw[List.take_zero,map_nil,append_nil],rfl,zero_le _⟩
 rw[qy,ll] at x B;subst x;rw[List.take_length] at p4;have E:y=(news G.length as.length,G++as.map λa=>(v a).map W.dat):=Prod.ext B p4.symm;refine⟨y,M,R,by rw[B,zB8];omega,?_⟩;rw[E];have h:(G++as.map λa=>(v a).map W.dat).length=G.length+as.length:=by rw[qQ,qy]
 dsimp only;rw[h,q8];have L:∀ p∈(List.range as.length).map (λj=>(G.length+j,((as[j]?).map v).getD [])),∃ j,j < as.length/\∃ a,as[j]?=some a/\p=(G.length+j,v a):=λp A=>by
  obtain⟨j,c,rfl⟩:=mem_map.mp A;have c:=mem_range.mp c;exact⟨j,c,as[j],getElem?_eq_getElem c,by rw[getElem?_eq_getElem c];rfl⟩
 refine X _ ((List.range as.length).map λj=>(G.length+j,((as[j]?).map v).getD [])) ⟨⟨?_,λp A=>?_⟩,λp A=>?_,Nat.le_add_right _ _,?_⟩
 .rw [<- q8,getElem?_append_right (by rw[h];exact le_refl _),h,sub_self,map_map]
  rfl
 .obtain ⟨j,c,a,k,rfl⟩:=L p A;dsimp only;rw[<- q8,getElem?_append_left (by rw[h];omega),getElem?_append_right (by omega),Nat.add_sub_cancel_left,getElem?_map,k]
  rfl
 .obtain ⟨j,c,a,k,rfl⟩:=L p A;exact Nat.le_add_right _ _
 .rw [map_map];apply ext_getElem?;intro i;rw[getElem?_map,getElem?_map];by_cases q:i < as.length
  .rw [getElem?_range q,getElem?_eq_getElem q];simp[getElem?_eq_getElem q]
  .rw [getElem?_eq_none (by rw[length_range];omega),getElem?_eq_none (by omega)]
   rfl
def zGQ {T:Type}{J:Gm}{U:Dm}{nm:Str}{N m:Nat}{f:List Nat}{src g:ME}{O:List (Option W)}{G:Mem}{as:List T}{u v:T->D}{Q:MR->Prop}(x:EvP (evSrc J U src ⟨O,G⟩) λr=>r=(.live m,G))(e:G[m]?=some ((as.map u).map .dat))(E:(mask none f O).length=N)(H:as.length<=100)
  (C:∀ a∈as,EvP (evM J U g ⟨mask none f O++[some (.dat (u a))],G⟩) λr=>r=(.dat (v a),G)) (B:Q (.loc G.length,G++[(as.map v).map .dat])) :
  EvP (evM J U (.comp N f nm src g) ⟨O,G⟩) Q:=by
 obtain⟨r,F,rfl⟩:=x;refine zEQ ⟨_,F,?_⟩;obtain⟨y,I,M,z,⟨o,q,k⟩,p4⟩:=zEg (t:=tgM N) (e:=evM J U g) (src:=.live m) (s:=⟨mask none f O++[none],G⟩) ((as.map u).map .dat)
  (λj s d=>∃ o:Option W,s=⟨mask none f O++[o],G⟩/\d=((as.map v).take j).map W.dat) (λj s d c=>by obtain⟨o,h,_⟩:=c;subst h;exact e) (λj w s d l b=>by
   obtain⟨o,h,A⟩:=b;subst h A;rw[getElem?_map,getElem?_map] at l;obtain⟨K,i,rfl⟩:=yq.mp l;obtain⟨a,n,rfl⟩:=yq.mp i;refine⟨by rw[qy,length_take,qy];omega,⟨mask none f O++[some (.dat (u a))],G⟩,(.dat (v a),G),?_,(C a (mem_of_getElem? n)).eq,some (.dat (u a)),rfl,?_⟩
   .unfold tgM;dsimp only;rw[set_append_right _ _ (by omega),E,sub_self]
    rfl
   .rw [List.take_add_one,getElem?_map,n,x8]
    rfl) ⟨none,rfl,rfl⟩
 rw[qy,qy] at k;subst q;have p:y=((as.map v).map W.dat,G):=Prod.ext (by rw[k,List.take_of_length_le (by rw[qy];exact le_refl _)]) p4.symm;refine⟨y,M,z,by rw[p];show ((as.map v).map W.dat).length<=_;rw[qy,qy];omega,?_⟩;rw[p];exact B
def Six (ps:List Pt):Prop:=ps.length<=4/\∀ p∈ps,PB 7 p
def zBm {i:Int}(h:i.natAbs<=100):RB 7 (i:Rat):=zHy (zCx (k:=100) h (by decide)) (by decide)
def zHL (ps:List Pt):noLs (ps.map ptD)=true:=by
 induction ps with
 | nil=>rfl
 | cons p ps a =>
  show (noL (ptD p)&&noLs (ps.map ptD))=true;rw[a]
  rfl
def h58 (w h:Nat)(x0 x1 x2 b:Int)(xs:List D)(Q:R->Prop)(g:w<=10)(c:h<=10)(k:∀ ps:List Pt,Six ps->Q (zIr ps,.fr)):EvP (F58 [.lst (.int x0::.int x1::.int x2::.int b::xs),.int w,.int h]) Q:=by
 have a:∀ (x:Int) (n:Nat),n<=10->0<=x.fmod (n+1)/\x.fmod (n+1)<=10:=λx n p=>by
  have s:=xY x (show (0:Int) < n+1 by omega);have r:=fmod_lt_of_pos x (show (0:Int) < n+1 by omega);omega
 have m:=a x0 w g;have o:=a x1 h c;have l:=a x2 w g;have i:=a b h c;(walk_at "d");unfold b58;(walk_at "st");refine zAD (zCz (zAl (zAl (zBh (zAJ rfl (zAk (zAo (d:=.int x0) (zAv (j:=0) rfl) ?_)))))));(walk_at "e");refine zBD (by omega) ?_;(walk_at "e");refine zAD (zCz (zAl (zAl (zBh (zAJ rfl (zAk (zAo (d:=.int x1) (zAv (j:=1) rfl) ?_)))))));(walk_at "e");refine zBD (by omega) ?_;(walk_at "e");refine zAD (zCz (zAl (zAl ?_)));(walk_at "e");refine zAo (d:=.int x2) (zAv (j:=2) rfl) ?_;(walk_at "e");refine zBD (by omega) ?_;(walk_at "e");refine zAD (zCz (zAl (zAl ?_)));(walk_at "e");refine zAo (d:=.int b) (zAv (j:=3) rfl) ?_;(walk_at "e");refine zBD (by omega) ?_;(walk_at "e");generalize x0.fmod ((w:Int)+1)=y0 at m;generalize x1.fmod ((h:Int)+1)=y1 at o;generalize x2.fmod ((w:Int)+1)=y2 at l;generalize b.fmod ((h:Int)+1)=y3 at i;have q:=k [(((y0 - 1:Int):Rat),((y1 - 1:Int):Rat)),(((y0 - 1+1+y2:Int):Rat),((y1 - 1:Int):Rat)),(((y0 - 1+1+y2:Int):Rat),((y1 - 1+1+y3:Int):Rat)),(((y0 - 1:Int):Rat),((y1 - 1+1+y3:Int):Rat))] ⟨by show 4<=4;decide,λp f=>by
  simp only[mem_cons,not_mem_nil,or_false] at f;rcases f with rfl | rfl | rfl | rfl
  .exact ⟨zBm (by omega),zBm (by omega)⟩
  .exact ⟨zBm (by omega),zBm (by omega)⟩
  .exact ⟨zBm (by omega),zBm (by omega)⟩
  .exact ⟨zBm (by omega),zBm (by omega)⟩⟩
 (walk_at "w");simp only[zFr];exact q
def idx (e:((rngL 0 n).map W.dat)[j]?=some y):y=.dat (.int (j:Int))/\j < n:=by
 have a:j < n:=by
  have:=(zzg e).1;rw[qy,zAc] at this;omega
 unfold rngL at e
 simp_all
def nrng :((rngL 0 n).map W.dat).length=n:=by rw[qy,zAc]
abbrev zDi (xs:List Int):List W:=(xs.map D.int).map .dat
def zAO {G:Mem}{ws:List W}:(G++[ws])[G.length]?=some ws:=by simp
def zCr {G:Mem}{ws vs:List W}:(G++[ws]).set G.length vs=G++[vs]:=by simp
def nine {xs:List Int}(h:xs.length=9):∃ a b c d e f g i j,xs=[a,b,c,d,e,f,g,i,j]:=by
 iterate 9 (rcases xs with _|⟨_,xs⟩;cases h;replace h:=Nat.succ.inj h)
 cases List.eq_nil_of_length_eq_zero h;exact⟨_,_,_,_,_,_,_,_,_,rfl⟩
def shI (c:Int)(w h:Nat)(G:Mem)(j:Nat)(s:Mst):Prop:=∃ (x3:Int) (o5 o6 o7 o8:Option W) (G':Mem) (l:Lp) (rs:List (List Pt)),s=⟨[some (.dat (.int c)),some (.dat (.int (w:Int))),some (.dat (.int (h:Int))),some (.dat (.int x3)),some (.loc G.length),o5,o6,o7,o8],G'⟩/\Kq G G'/\Rw G' G.length G.length l (rs.map λps=>ps.map ptD)/\rs.length=j/\∀ ps∈rs,Six ps
def m59 (c:Int)(w h:Nat)(M:w<=10)(L:h<=10)(G:Mem)(Q:MR->Prop)(hQ:∀ (G':Mem) (n:Nat) (l:Lp) (rs:List (List Pt)),Kq G G'->Rw G' n G.length l (rs.map λps=>ps.map ptD)->rs.length<=2->(∀ ps∈rs,Six ps)->Q (.loc n,G')):EvP (FM59 [.dat (.int c),.dat (.int (w:Int)),.dat (.int (h:Int))] G) Q:=by
 refine zBu rfl (by decide) ?_;unfold mb59;show EvP (evSs' GL2 D21 _ ⟨[some (.dat (.int c)),some (.dat (.int (w:Int))),some (.dat (.int (h:Int))),none,none,none,none,none,none],G⟩) _;refine zAI (zCw (zBC rfl (zAl (zAl (zAJ (zAZ rfl zAq) (zAk (zBD (by decide) (zAk (zJH (zBb rfl (zAn ?_)))))))))));(walk_at "s");refine zAI (zCw (zKT (zA4 ⟨zero_le _,zAn ?_⟩)));(walk_at "s");have d1:=xY c (show (0:Int) < 8 by decide);have d2:=fmod_lt_of_pos c (show (0:Int) < 8 by decide);obtain⟨k,hk,U⟩:∃ k:Nat,k<=2/\atI (([1,1,2,1,0,1,2,1]:List Int).map λi=>W.dat (.int i)) (c.fmod 8)=some (.dat (.int (k:Int))):=by
  generalize c.fmod 8=i at d1 d2;have g:i=0\/i=1\/i=2\/i=3\/i=4\/i=5\/i=6\/i=7:=by omega
  rcases g with rfl | rfl | rfl | rfl | rfl | rfl | rfl | rfl
  .exact ⟨1,by decide,rfl⟩
  .exact ⟨1,by decide,rfl⟩
  .exact ⟨2,by decide,rfl⟩
  .exact ⟨1,by decide,rfl⟩
  .exact ⟨0,by decide,rfl⟩
  .exact ⟨1,by decide,rfl⟩
  .exact ⟨2,by decide,rfl⟩
  .exact ⟨1,by decide,rfl⟩
 refine zAI (zDV (zCU (m_ix (zBC rfl ?_))));refine zOQ ?_;(walk_at "w");refine zG1 rfl ?_;refine zBC rfl (zAl (zAJ (zAZ rfl zAq) (zAk (zBD (by decide) (zBb rfl (zAr zAO U ⟨_,rfl,by omega,?_⟩))))));rw[toNat_natCast];have kM:Kq G (G++[[]]++[(([1,1,2,1,0,1,2,1]:List Int).map λi=>W.dat (.int i))]):=zAU.app;have Z:(G++[[]]++[(([1,1,2,1,0,1,2,1]:List Int).map λi=>W.dat (.int i))])[G.length]?=some []:=zAT zAO;refine zCc (s:=⟨_,_⟩) ((rngL 0 k).map .dat) (shI c w h G) (λj s _=>rfl) ?_ ?_ ⟨_,none,none,none,none,_,[],[],rfl,kM,⟨⟨Z,λp o=>absurd o (by simp)⟩,λp o=>absurd o (by simp),le_refl _,rfl⟩,rfl,by simp⟩
 .rintro j y s B ⟨x3,T,S,b,u,G',l,rs,rfl,J,r,E,I⟩;obtain⟨rfl,N⟩:=idx B;refine⟨_,rfl,?_⟩;dsimp only;(walk_at "s");have ln:G.length < G'.length:=r.lt;have D:∀ (x3:Int) (a:List Int) (ps:List Pt) (b u:Option W),Six ps ->
    shI c w h G (j+1) ⟨[some (.dat (.int c)),some (.dat (.int (w:Int))),some (.dat (.int (h:Int))),some (.dat (.int x3)),some (.loc G.length),some (.dat (.int (j:Int))),some (.loc G'.length),b,u],List.set (G'++[zDi a]++[(ps.map ptD).map W.dat]) G.length (l.map (λp=>W.loc p.1)++[W.loc (G'++[zDi a]).length])⟩:=λx3 a ps b u h6=>by
   have O:=r.keep (μ2:=G'++[zDi a]++[(ps.map ptD).map .dat]) zAU.app;have ne:(G'++[zDi a]).length≠G.length:=by rw[qQ];omega
   refine⟨x3,_,_,b,u,_,l++[((G'++[zDi a]).length,ps.map ptD)],rs++[ps],rfl,(J.app.app).set (le_refl _),⟨zHR O.ll zAO ne,λp o=>?_,le_refl _,?_⟩,by rw[qQ,E];rfl,λx v=>?_⟩
   .rcases mem_append.mp o with z | z
    .exact r.lo p z
    .rw [mem_singleton.mp z];show G.length<=(G'++[zDi a]).length;rw[qQ];omega
   .rw [x8,r.snd,x8];rfl
   .rcases mem_append.mp v with z | z
    .exact I x z
    .rw [mem_singleton.mp z];exact h6
  refine zAI (zCw (zKT (zA4 ⟨zero_le _,zAn ?_⟩)));(walk_at "s");refine zAI (zDV (zCU (zBC rfl (zAk (zBb rfl ⟨_,rfl,by decide,?_⟩)))));refine zCc (s:=⟨_,_⟩) ((rngL 0 9).map .dat) (λi s=>∃ (x3:Int) (b:Option W) (a:List Int),s=⟨[some (.dat (.int c)),some (.dat (.int (w:Int))),some (.dat (.int (h:Int))),some (.dat (.int x3)),some (.loc G.length),some (.dat (.int (j:Int))),some (.loc G'.length),b,u],G'++[zDi a]⟩/\a.length=i) (λ_ _ _=>rfl) ?_ ?_ ⟨x3,b,[],rfl,rfl⟩
  .rintro i y s B ⟨x3,b,a,rfl,v⟩;obtain⟨rfl,X⟩:=idx B;refine⟨_,rfl,?_⟩;dsimp only;(walk_at "s");refine zAI (zCw (zBC rfl (zAl (zAl (zAJ (zAZ rfl zAq) (zAk (zAx (zEN (by decide)) (zAk (zBD (by decide) (zBb rfl (zAn ?_)))))))))));(walk_at "s");refine zAI (zDG (zAP rfl (zBC rfl (zAl (zAJ (zAZ rfl zAq) (zAk (zCK (zBU (by decide) (by decide)) (zBb rfl ⟨_,_,rfl,zAO,by rw[qy,qy];omega,zAn (zA6 ?_)⟩))))))));dsimp only;rw[zCr];exact⟨_,_,a++[((x3*48271).fmod 2147483647).fdiv 11],by simp only[zDi,x8,map_cons,map_nil];rfl,by rw[qQ,v];rfl⟩
  .rintro s ⟨x3,b,a,rfl,v⟩;rw[nrng] at v;obtain⟨Y,a1,a2,a3,a4,a5,a6,a7,C,F⟩:=nine v;have K:drW (G'++[zDi a]) (.loc G'.length)=some (.lst (a.map .int)):=zDR zAO;have top:(G'++[zDi a])[G.length]?=some (l.map λp=>.loc p.1):=zAT r.ll.top;have A:(l.map λp=>W.loc p.1).length<=10000:=by rw[qy,r.len,qy,E];omega
   refine zAn (zAI (zEF (zRH rfl (zDw (zAl (zAl (zAJ (zAZ rfl zAq) (zAk (zCK (zBU (by decide) (by decide)) (zAk (zBD (by decide) (zAk (zTm ?_)))))))))))));refine⟨_,rfl,λ_=>?_,λ_=>?_⟩
   .refine zAI (zDG (zAP rfl (zBC rfl (zAL rfl (zAH (zAJ (zAZ rfl K) (n_cl (zAH (zAJ (zAZ rfl zAq) (n_cl (zAH (zAJ (zAZ rfl zAq) (n_cl (zAs ?_))))))))))))));rw[F];refine h58 w h Y a1 a2 a3 _ _ M L λps h6=>?_
    refine n_fr (zG1 (zHL ps) ⟨_,_,rfl,zAT (by rw[<- F];exact top),A,zAn (zA6 (zAn (zA6 ?_)))⟩);dsimp only;rw[<- F];exact D x3 a ps _ _ h6
   .refine zAI (zCw (zKT (zA4 ⟨zero_le _,zAn ?_⟩)));(walk_at "s");have f:∀ P:Mem,drW (G'++[zDi a]++P) (.loc G'.length)=some (.lst (a.map .int)):=λP=>zDR (zAT zAO)
    have t:∀ (i:Nat) (x:Int),a[i]?=some x->∀ {Q:R->Prop},Q (.int x,.cl)->EvP (ixD (.lst (a.map .int)) (.int (i:Int))) Q:=λi x e {Q} q=>zAo (zAv (by rw[getElem?_map,e];rfl)) q
    have e1:=xY C (show (0:Int) < 2 by decide);have e2:=fmod_lt_of_pos C (show (0:Int) < 2 by decide);obtain⟨m,hm,V⟩:∃ m:Nat,m<=4/\3+C.fmod 2=(m:Int):=⟨(3+C.fmod 2).toNat,by omega,by omega⟩;refine zAI (zDV (zCU (zBC rfl (zAl (zAk (zAl (zBh (zAJ (zAZ rfl (f _)) (zAk (t 8 C (by rw[F];rfl) (zAk (zBD (by decide) (zJH (zBb rfl ⟨_,rfl,by omega,?_⟩))))))))))))));rw[V,toNat_natCast];refine zCc (s:=⟨_,_⟩) ((rngL 0 m).map .dat) (λi s=>∃ (b:Option W) (ps:List Pt),s=⟨[some (.dat (.int c)),some (.dat (.int (w:Int))),some (.dat (.int (h:Int))),some (.dat (.int x3)),some (.loc G.length),some (.dat (.int (j:Int))),some (.loc G'.length),b,some (.loc (G'++[zDi a]).length)],G'++[zDi a]++[(ps.map ptD).map .dat]⟩/\ps.length=i/\∀ p∈ps,PB 7 p) (λ_ _ _=>rfl) ?_ ?_ ⟨b,[],rfl,rfl,by simp⟩
    .rintro i y s B ⟨b,ps,rfl,o,H⟩;obtain⟨rfl,X⟩:=idx B;refine⟨_,rfl,?_⟩;dsimp only;(walk_at "s");have b1:2*i < a.length:=by omega
     have b2:2*i+1 < a.length:=by omega
     refine zAI (zDG (zAP rfl (zBC rfl (zIK (zAH (zAL rfl (zAH (zBh (zAJ (zAZ rfl (f _)) (zAl (zAk (zAJ (zAZ rfl zAq) (zAx (zCS (by decide)) ?_)))))))))))));rw[show (2:Int)*(i:Int)=((2*i:Nat):Int) by omega];refine t _ _ (getElem?_eq_getElem b1) (n_cl (zAH (zAJ (zAZ rfl zAq) (n_cl (zAs ?_)))));refine h57 _ w _ M λq1 r1=>n_cl (n_cl (zAH (zAL rfl (zAH (zBh (zAJ (zAZ rfl (f _)) (zAl (zAl (zAk (zAJ (zAZ rfl zAq) (zAx (zCS (by decide)) (zAk (zJH ?_)))))))))))))
     rw[show (2:Int)*(i:Int)+1=((2*i+1:Nat):Int) by omega];refine t _ _ (getElem?_eq_getElem b2) (n_cl (zAH (zAJ (zAZ rfl zAq) (n_cl (zAs ?_)))));refine h57 _ h _ L λq2 r2=>n_cl (n_cl (zAs ⟨by show 2<=10000;decide,zBb rfl ⟨_,_,rfl,zAO,by rw[qy,qy];omega,zAn (zA6 ?_)⟩⟩))
     dsimp only;rw[zCr];refine⟨_,ps++[(q1,q2)],by simp only[x8,map_cons,map_nil];rfl,by rw[qQ,o];rfl,λp hq=>?_⟩;rcases mem_append.mp hq with z | z
     .exact H p z
     .rw [mem_singleton.mp z];exact⟨r1.mono (by decide),r2.mono (by decide)⟩
    .rintro s ⟨b,ps,rfl,o,H⟩;rw[nrng] at o;refine zAn (zAI (zDG (zAP rfl (zAP rfl ⟨_,_,rfl,zAT top,A,zAn (zA6 (zAn (zA6 ?_)))⟩))));dsimp only;exact D x3 a ps _ _ ⟨by omega,H⟩
 .rintro s ⟨x3,T,S,b,u,G',l,rs,rfl,J,r,E,I⟩;rw[nrng] at E;exact zAn (zAI (zBz (zAP rfl (zDh (hQ G' _ l rs J r (by omega) I)))))
def zLI (e:O[i]?=some (some (.fn n x,false)))(c:J.fns[n]?=some (x,F))(h:EvP (evE J a O) λy=>y.2≠.dt/\EvP (F [y.1]) λr=>r.2≠.dt/\Q r):EvP (evE J (.callv i a) O) Q:=by
 obtain⟨y,f,g,r,b,j,q⟩:=h;refine⟨r,?_,q⟩;show zEk J.lm J.fns i _ O=_;unfold zEk;have d:fnvF J.fns n x [y.1]=some r:=by unfold fnvF;rw[c];exact(if_pos rfl).trans b
 simp_all
def CV (f d d':D):Prop:=∀ (O:Dst) (i j:Nat) (Q:R->Prop),O[i]?=some (some (f,false))->O[j]?=some (some (d,false))->Q (d',.cl)->EvP (evE GL2 (.callv i (.var j)) O) Q
def zTg (a:GL2.fns[n]?=some (x,F))(h:∀ Q:R->Prop,Q (d',.cl)->EvP (F [d]) Q):CV (.fn n x) d d':=λO i j Q b c q =>
 zLI b a (zAJ c ⟨(λz=>nomatch z),h _ ⟨(λz=>nomatch z),q⟩⟩)
def zLd (a:GL2.lm[J]?=some (L,FL))(h:∀ Q:R->Prop,Q (d',.cl)->EvP (FL (d::dl)) Q):CV (.lam J L dl) d d':=λO i j Q b c q =>
 zNH b a (zAJ c ⟨(λz=>nomatch z),h _ ⟨(λz=>nomatch z),q⟩⟩)
def m40 {f:D}(o:noL f=true){T:Type}{rows:List (List T)}{u v:T->D}{n b:Nat}{G:Mem}{l:Lp}{Q:MR->Prop}(e:Rw G n b l (rows.map (List.map u)))(i:rows.length<=100)(h:∀ qs∈rows,qs.length<=100/\∀ q∈qs,CV f (u q) (v q)/\noL (v q)=true)
  (k:∀ (P:Mem) (l':Lp),Rw (G++P) (G.length+rows.length) G.length l' (rows.map (List.map v))->Q (.loc (G.length+rows.length),G++P)):EvP (FM40 [.loc n,.dat f] G) Q:=by
 refine zBu rfl (by decide) ?_;unfold mb40;show EvP (evSs' GL2 D3 _ ⟨[some (.loc n),some (.dat f)],G⟩) _;refine zAI (zBz (zDW (as:=rows) (u:=List.map u) (v:=List.map v) (zAz (zAP rfl ⟨n,rfl,rfl⟩)) e rfl i (λP m qs hq g=>?_) λP l' c=>zDh (k P l' c)));show EvP (evM GL2 D3 _ ⟨[some (.loc n),some (.dat f),some (.loc m)],G++P⟩) _;obtain⟨h1,h2⟩:=h qs hq;refine zGQ (as:=qs) (u:=u) (v:=v) (zAz (zAP rfl ⟨m,rfl,rfl⟩)) g rfl h1 (λq a=>?_) rfl;obtain⟨d,j⟩:=h2 q a;exact zBC rfl (d _ 1 3 _ (zAZ rfl zAq) (zAZ rfl zAq) (zBb j rfl))
def zC7 {T M:Type}{f:T->M}{d:T}:∀ {n:Nat} {l:List T},l.length=n->l.map f=(List.range n).map λi=>f (l.getD i d):=λ{n l} e=>by
 subst e;refine ext_getElem? λi=>?_
 rw[getElem?_map,getElem?_map];by_cases h:i < l.length
 .rw [getElem?_range h,getElem?_eq_getElem h];simp[getD_eq_getElem?_getD,h]
 .rw [getElem?_eq_none (by omega),getElem?_eq_none (by simpa using h)];rfl
structure Fl (w h:Nat)(rs:List (List Pt)):Prop where
 w1:1<=w
 w2:w<=7
 h1:1<=h
 h2:h<=7
 rl:rs.length<=2
 six:∀ ps∈rs,Six ps
def Fl.fb (f:Fl w h rs):FlB 7 4 w h rs:=⟨by have:=f.w2;omega,by have:=f.h2;omega,by have:=f.rl;omega,by decide,by decide,f.six⟩
def TabR (w h:Nat)(rs:List (List Pt))(T:List (List Rat)):Prop:=(T.length=h/\∀ qs∈T,qs.length=w/\∀ q∈qs,RB 600000 q)/\∃ zs,ZOk F35 F32 F33 F36 w h (zBQ rs) zs λr=>(T.getD r []).map ratD
def tabR (w h:Nat)(rs:List (List Pt)):List (List Rat):=Classical.epsilon (TabR w h rs)
def zBM (f:Fl w h rs):TabR w h rs (tabR w h rs):=by
 have a:=f.w2;have h2:=f.h2;have m:=Nat.mul_le_mul f.rl (Nat.mul_le_mul_left 4 (show w+h+4<=18 by omega));generalize e:rs.length*(4*(w+h+4))=M at m;have k:=Nat.mul_le_mul (show w+1<=8 by omega) (show M*(48*7+161)+2<=72000 by omega);exact Classical.epsilon_spec (zRB h35 h32 (zML (ng:=0) (nt:=4) (nf:=32) (nm:=3) (nd:=28) rfl rfl rfl rfl rfl h4 h32 h3 h28) h36 f.fb (by rw[e];omega) (by rw[e];omega))
def zDE (f:Fl w h rs):(tabR w h rs).length=h:=(zBM f).1.1
def zDU (f:Fl w h rs):∀ qs∈tabR w h rs,qs.length<=100/\∀ q∈qs,RB 600000 q:=λqs hq=>by
 have:=(zBM f).1.2 qs hq;exact⟨by have:=f.w2;omega,this.2⟩
def zRV (f:TabR w h rs T)(dr:drW G x=some (zBQ rs))(c:∀ (P:Mem) (m:Nat) (l:Lp),Rw (G++P) m G.length l (T.map (List.map ratD))->Q (.loc m,G++P)):EvP (FM37 [.dat (.int (w:Int)),.dat (.int (h:Int)),x] G) Q:=by
 obtain⟨⟨a,_⟩,zs,ok⟩:=f;refine zJg (na:=35) (nf:=32) (nr:=33) (nw:=36) (ne:=1) rfl rfl rfl rfl rfl zNW ok dr λP=>?_
 have TT:=zSO (G++P) (λr=>(T.getD r []).map ratD) h;rw[q8,q8 G] at TT ⊢;refine c _ _ _ ⟨TT,λp b=>?_,by rw[qQ];omega,?_⟩
 .obtain ⟨r,d,rfl⟩:=zKV b;show G.length<=(G++P).length+r;rw[qQ];omega
 .unfold lpT;rw[map_map,zC7 a]
  rfl
def m42 (f:TabR w h rs T)(k:w<=10)(i:h<=10)(dr:drW G x=some (zBQ rs))(g:∀ (P:Mem) (m:Nat) (l:Lp),Rw (G++P) m G.length l (T.map (List.map λq=>ratD (cov q)))->Q (.loc m,G++P)):EvP (FM42 [.dat (.int (w:Int)),.dat (.int (h:Int)),x] G) Q:=by
 refine zBu rfl (by decide) ?_;unfold mb42;show EvP (evSs' GL2 D5 _ ⟨[some (.dat (.int (w:Int))),some (.dat (.int (h:Int))),some x],G⟩) _;refine zAI (zBz (zBK (F:=FM40) rfl (zAK (zBK (F:=FM37) rfl (zAK (zAP rfl (zAK (zAP rfl (zAK (zAP rfl (zA4 ?_)))))))))));refine(show EvP (FM37 [.dat (.int (w:Int)),.dat (.int (h:Int)),x] G) _ from ?_);refine zRV f dr λP m l c=>?_
 refine zAK (zBC rfl (zCE (d:=.fn 11 "cover") rfl (zBb rfl (zA4 ?_))));refine(show EvP (FM40 [.loc m,.dat (.fn 11 "cover")] (G++P)) _ from ?_);refine m40 (f:=.fn 11 "cover") rfl (rows:=T) (u:=ratD) (v:=λq=>ratD (cov q)) c (by rw[f.1.1];omega) (λqs hq=>⟨by rw[(f.1.2 qs hq).1];omega,λq a=>⟨zTg (F:=F11) rfl λQ b=>h11 q 600000 Q ((f.1.2 qs hq).2 q a) (by decide) (by decide) b,rfl⟩⟩) λP2 j R2=>zDh ?_
 rw[q8] at R2 ⊢;exact g _ _ _ (R2.below (by rw[qQ];omega))
def zKe (h1:ws.length=np)(h2:np<=nN)
  (h:EvP (gp ⟨ws.map some++List.replicate (nN - np) none,G⟩) λo=>∃ s,o=.nx s/\EvP (ge s) λw=>∃ ds,capD ix s.O=some ds/\noLs ds=true/\EvP (Fg [w.1,.dat (.lam j L ds)] w.2) Q):EvP (lamM Fg j L ix np nN gp ge ws G) Q:=by
 obtain⟨o,a,s,rfl,w,e,ds,b,c,r,d,q⟩:=h;refine zBu h1 h2 ⟨.rt r,?_,q⟩;rw[a,qx];unfold retM lamE
 simp_all
def m43 (f:Fl w h rs)(g:RB 80 t)(dr:drW G x=some (zBQ rs))(a:∀ (P:Mem) (m:Nat) (l:Lp),Rw (G++P) m G.length l ((tabR w h rs).map (List.map λq=>ratD (cov q*t)))->Q (.loc m,G++P)):EvP (FM43 [.dat (.int (w:Int)),.dat (.int (h:Int)),x,.dat (ratD t)] G) Q:=by
 refine zKe rfl (by decide) ⟨_,rfl,_,rfl,?_⟩;show EvP (evM GL2 D6 me0 ⟨[some (.dat (.int (w:Int))),some (.dat (.int (h:Int))),some x,some (.dat (ratD t))],G⟩) _;unfold me0;refine zBK (F:=FM42) rfl (zAK (zAP rfl (zAK (zAP rfl (zAK (zAP rfl (zA4 ?_)))))));refine(show EvP (FM42 [.dat (.int (w:Int)),.dat (.int (h:Int)),x] G) _ from ?_);refine m42 (zBM f) (by have:=f.w2;omega) (by have:=f.h2;omega) dr λP m l e=>⟨[ratD t],rfl,rfl,?_⟩
 refine m40 (f:=.lam 0 L0 [ratD t]) rfl (rows:=tabR w h rs) (u:=λq=>ratD (cov q)) (v:=λq=>ratD (cov q*t)) e (by rw[zDE f];have:=f.h2;omega) (λqs hq=>⟨(zDU f qs hq).1,λq c=>⟨zLd (FL:=FL0) rfl λQ b=>?_,rfl⟩⟩) λP2 i R2=>?_
 .refine zKd rfl rfl ?_;show EvP (evE G58 lb0 [some (ratD (cov q),false),some (ratD t,false)]) _;unfold lb0;(walk_at "w");refine h4 (cov q) t 600000 80 _ (zGn ((zDU f qs hq).2 q c) (by decide)) g (by decide) ?_;(walk_at "w");exact b
 rw[q8] at R2 ⊢;exact a _ _ _ (R2.below (by rw[qQ];omega))
abbrev zK8 (a:Nat) (ink:D) (t:Rat):W:=.obj "Fill" ["shape","ink","strength"] [.loc a,.dat ink,.dat (ratD t)]
abbrev rubW (a:Nat) (t:Rat):W:=.obj "Rub" ["shape","strength"] [.loc a,.dat (ratD t)]
def m38 (e:Rw G n b l rows)(h:rows.length<=100)(g:∀ ds∈rows,noLs ds=true)(i:∀ (P:Mem) (m:Nat) (l':Lp),Rw (G++P) m G.length l' rows->Q (.loc m,G++P)):EvP (FM38 [.loc n] G) Q:=by
 refine zBu rfl (by decide) ?_;unfold mb38;show EvP (evSs' GL2 D2 _ ⟨[some (.loc n)],G⟩) _;have d:Rw G n b l (rows.map id):=by rw[map_id];exact e
 refine zAI (zBz (zDW (as:=rows) (u:=id) (v:=id) (zAz (zAP rfl ⟨n,rfl,rfl⟩)) d rfl h (λP m ds f c=>?_) λP l' a=>zDh (i P _ l' (by rw[map_id] at a;exact a))));exact zBC rfl (zEb (zAJ (zAZ rfl (zDR c)) (zHv (zG1 (g ds f) rfl))))
def StO (o:D)(t:Rat):Prop:=(o=.non/\t=1)\/o=ratD t
def zJX (h:StO o t)(q:Q (ratD t,.cl)):EvP (F39 [o]) Q:=by
 rcases h with ⟨rfl,rfl⟩ | rfl
 .exact h39n Q q
 .exact h39 t Q q
def zSL (e:Rw G n b l rows)(g:rows.length<=100)(c:∀ ds∈rows,noLs ds=true)(f:StO o t)(a:∀ (P:Mem) (m:Nat) (l':Lp),Rw (G++P) m G.length l' rows->Q (zK8 m ink t,G++P)):EvP (zFR [.loc n,.dat ink,.dat o] G) Q:=by
 refine zFu rfl rfl ?_;show EvP (zD2 [("shape",evM GL2 D8 (.call 3 "own_shape" (.cons (.var 1) .nil))),("ink",evM GL2 D8 (.var 2)),("strength",evM GL2 D8 (.pur (.call 39 "strength_or_one" (.cons (.var 3) .nil))))] ⟨[none,some (.loc n),some (.dat ink),some (.dat o)],G⟩) _;refine zCA (zBK (F:=FM38) rfl (zAK (zAP rfl (zA4 ?_))));refine m38 e g c λP m l' d=>?_
 refine zCA (zAP rfl (zCA (zBC rfl (zAL rfl (zAH (zAJ (zAZ rfl zAq) (n_cl (zAs ?_))))))));exact zJX f (n_cl (zBb rfl (zIC (a P m l' d))))
def mRub (e:Rw G n b l rows)(c:rows.length<=100)(d:∀ ds∈rows,noLs ds=true)(f:StO o t)(g:∀ (P:Mem) (m:Nat) (l':Lp),Rw (G++P) m G.length l' rows->Q (rubW m t,G++P)):EvP (zG5 [.loc n,.dat o] G) Q:=by
 refine zFu rfl rfl ?_;show EvP (zD2 [("shape",evM GL2 D9 (.call 3 "own_shape" (.cons (.var 1) .nil))),("strength",evM GL2 D9 (.pur (.call 39 "strength_or_one" (.cons (.var 2) .nil))))] ⟨[none,some (.loc n),some (.dat o)],G⟩) _;refine zCA (zBK (F:=FM38) rfl (zAK (zAP rfl (zA4 ?_))));refine m38 e c d λP m l' a=>?_
 refine zCA (zBC rfl (zAL rfl (zAH (zAJ (zAZ rfl zAq) (n_cl (zAs ?_))))));exact zJX f (n_cl (zBb rfl (zIC (g P m l' a))))
def zK7 (F:MF)(ob:W)(w h:Nat)(G:Mem)(v:List (List D)):Prop:=∀ Q:MR->Prop,(∀ (P:Mem) (m:Nat) (l:Lp),Rw (G++P) m G.length l v->Q (.loc m,G++P))->EvP (F [ob,.dat (.int (w:Int)),.dat (.int (h:Int))] G) Q
def zUx (f:Fl w h rs)(c:RB 80 t)(h1:I255 r)(h2:I255 g)(h3:I255 b)(dr:drW G (.loc a)=some (zBQ rs)):zK7 zCN (zK8 a (inkD r g b) t) w h G ((tabR w h rs).map (List.map λq=>fmD (zFs (cov q*t) r g b))):=λQ j=>by
 refine zKe rfl (by decide) ?_;show EvP (evS' GL2 D12 (.set 3 _) ⟨[some (zK8 a (inkD r g b) t),some (.dat (.int (w:Int))),some (.dat (.int (h:Int))),none],G⟩) _;refine zCw (zBK (F:=FM43) rfl (zAK (zAP rfl (zAK (zAP rfl (zAK (zHP (zAP rfl ⟨_,_,_,_,rfl,by decide,rfl,zAK (zHP (zAP rfl ⟨_,_,_,_,rfl,by decide,rfl,zA4 ?_⟩))⟩))))))));refine(show EvP (FM43 [.dat (.int (w:Int)),.dat (.int (h:Int)),.loc a,.dat (ratD t)] G) _ from ?_);refine m43 f c dr λP m l k=>⟨_,rfl,?_⟩
 (walk_at "s");refine zAP rfl ⟨[.obj "Fill" ["ink","strength"] [inkD r g b,ratD t]],rfl,rfl,?_⟩;refine m40 (f:=.lam 1 L1 [.obj "Fill" ["ink","strength"] [inkD r g b,ratD t]]) rfl (rows:=tabR w h rs) (u:=λq=>ratD (cov q*t)) (v:=λq=>fmD (zFs (cov q*t) r g b)) k (by rw[zDE f];have:=f.h2;omega) (λqs hq=>⟨(zDU f qs hq).1,λq i=>⟨zLd (FL:=FL1) rfl λQ e=>?_,rfl⟩⟩) λP2 n R2=>?_
 .refine zKd rfl rfl ?_;show EvP (evE GL0 lb1 [some (ratD (cov q*t),false),some (.obj "Fill" ["ink","strength"] [inkD r g b,ratD t],false)]) _;unfold lb1;refine zAL rfl (zAH (zAJ rfl (n_cl (zAH (zOS (zAJ rfl ⟨_,_,_,_,rfl,by decide,rfl,n_cl (zAs ?_)⟩))))));refine (zSa rfl rfl h13 h14) (cov q*t) r g b 4000081 _ ((zAj (zGn ((zDU f qs hq).2 q i) (by decide)) c).mono (by decide)) (by decide) h1 h2 h3 ?_;exact n_cl e
 rw[q8] at R2 ⊢;exact j _ _ _ (R2.below (by rw[qQ];omega))
def fRub (f:Fl w h rs)(b:RB 80 t)(dr:drW G (.loc a)=some (zBQ rs)):zK7 zCl (rubW a t) w h G ((tabR w h rs).map (List.map λq=>fmD ⟨1 - cov q*t,0,0,0,0⟩)):=λQ j=>by
 refine zBu rfl (by decide) ?_;unfold zDu;show EvP (evSs' GL2 D13 _ ⟨[some (rubW a t),some (.dat (.int (w:Int))),some (.dat (.int (h:Int)))],G⟩) _;refine zAI (zBz (zBK (F:=FM40) rfl (zAK (zBK (F:=FM43) rfl (zAK (zAP rfl (zAK (zAP rfl (zAK (zHP (zAP rfl ⟨_,_,_,_,rfl,by decide,rfl,zAK (zHP (zAP rfl ⟨_,_,_,_,rfl,by decide,rfl,zA4 ?_⟩))⟩)))))))))));refine(show EvP (FM43 [.dat (.int (w:Int)),.dat (.int (h:Int)),.loc a,.dat (ratD t)] G) _ from ?_);refine m43 f b dr λP m l g=>?_
 refine zAK (zBC rfl (zCE (d:=.fn 17 "rub_film") rfl (zBb rfl (zA4 ?_))));refine(show EvP (FM40 [.loc m,.dat (.fn 17 "rub_film")] (G++P)) _ from ?_);refine m40 (f:=.fn 17 "rub_film") rfl (rows:=tabR w h rs) (u:=λq=>ratD (cov q*t)) (v:=λq=>fmD ⟨1 - cov q*t,0,0,0,0⟩) g (by rw[zDE f];have:=f.h2;omega) (λqs hq=>⟨(zDU f qs hq).1,λq c=>⟨zTg (F:=F17) rfl λQ e=>(zRY rfl rfl h13) (cov q*t) 4000081 Q ((zAj (zGn ((zDU f qs hq).2 q c) (by decide)) b).mono (by decide)) (by decide) e,rfl⟩⟩) λP2 k R2=>zDh ?_
 rw[q8] at R2 ⊢;exact j _ _ _ (R2.below (by rw[qQ];omega))
def idxs :∀ x∈rngL 0 n,∃ k:Nat,x=.int (k:Int)/\k < n:=λx a=>by
 obtain⟨k,rfl,b,c⟩:=zFa a;exact⟨k.toNat,by rw[show ((k.toNat:Nat):Int)=k by omega],by omega⟩
abbrev fsD (T:List (List (List Rat))):D:=.lst (T.map λr=>.lst (r.map rsD))
def h61 (T:List (List (List Rat)))(Q:R->Prop)(B:T.length<=100)(A:∀ r∈T,r.length<=100)(v:Q (.bl true,.cl)):EvP (F61 [fsD T,fsD T]) Q:=by
 (walk_at "d");unfold b61;(walk_at "st");refine zAD (zEc (zLD (zLE (zIL (zLH (zAJ rfl (zPt (x_bl (x_bl (cb_f ?_))))))))));refine zLF (zDw (zB3 (zAJ rfl (zGf (zB3 (zAJ rfl (zGf ?_)))))));refine zQw (x_bl (zLi (zDx rfl (zBH (k_nx ?_)))));refine zAD (zC9 (zIl (zB3 (zAJ rfl (zGf ⟨_,rfl,by rw[qy];omega,?_⟩)))));rw[qy,toNat_natCast];have c:∀ {i:Nat} {r:List (List Rat)},T[i]?=some r->atI (T.map λr=>D.lst (r.map rsD)) (i:Int)=some (.lst (r.map rsD)):=λ{i r} e=>zAv (by rw[getElem?_map,e];rfl)
 refine zDv (λxs O=>(∃ a b,O=[some (fsD T,false),some (fsD T,false),a,b])/\∀ x∈xs,∃ k:Nat,x=.int (k:Int)/\k < T.length) ?_ ?_ _ _ ⟨⟨none,none,rfl⟩,idxs⟩
 .rintro x xs O ⟨⟨a,b,rfl⟩,o⟩;obtain⟨i,rfl,t⟩:=o x q9;have f:T[i]?=some T[i]:=getElem?_eq_getElem t;have u:=A _ (mem_of_getElem? f);generalize T[i]=r at f u;refine⟨_,rfl,?_⟩;(walk_at "s");refine zAD (zEc (zLD (zLE (zIL (zLH (zBh (zAJ rfl (zAJ rfl (zAo (c f) (zPt (x_bl (x_bl (cb_f ?_)))))))))))));refine zLF (zDw (zB3 (zBh (zAJ rfl (zAJ rfl (zAo (c f) (zGf (zB3 (zBh (zAJ rfl (zAJ rfl (zAo (c f) (zGf ?_)))))))))))));refine zQw (x_bl (zLi (zDx rfl (zBH (k_nx ?_)))));refine zAD (zC9 (zIl (zB3 (zBh (zAJ rfl (zAJ rfl (zAo (c f) (zGf ⟨_,rfl,by rw[qy];omega,?_⟩))))))));rw[qy,toNat_natCast];have g:∀ {j:Nat} {p:List Rat},r[j]?=some p->atI (r.map rsD) (j:Int)=some (rsD p):=λ{j p} e=>zAv (by rw[getElem?_map,e];rfl)
  refine zDv (λys O=>(∃ b,O=[some (fsD T,false),some (fsD T,false),some (.int (i:Int),false),b])/\∀ x∈ys,∃ k:Nat,x=.int (k:Int)/\k < r.length) ?_ ?_ _ _ ⟨⟨b,rfl⟩,idxs⟩
  .rintro y ys O ⟨⟨b,rfl⟩,n⟩;obtain⟨j,rfl,l⟩:=n y q9;have h:r[j]?=some r[j]:=getElem?_eq_getElem l;generalize r[j]=p at h;refine⟨_,rfl,?_⟩;(walk_at "s");refine zAD (zEc (zIL (zAL rfl (zAH (zBh (zBh (zAJ rfl (zAJ rfl (zAo (c f) (zAJ rfl (zAo (g h) (n_cl (zAH (zBh (zBh (zAJ rfl (zAJ rfl (zAo (c f) (zAJ rfl (zAo (g h) (n_cl (zAs ?_))))))))))))))))))))));refine h53 p _ ?_;refine n_cl (x_bl (x_bl (cb_f (zBH (k_nx (zBH ?_))))));exact⟨⟨_,rfl⟩,λy m=>n y (qJ _ m)⟩
  .rintro O ⟨⟨b,rfl⟩,_⟩;refine k_nx (zBH ?_);exact⟨⟨_,_,rfl⟩,λy m=>o y (qJ _ m)⟩
 .rintro O ⟨⟨a,b,rfl⟩,_⟩;refine k_nx ?_;(walk_at "w");exact v
def zOt (top:G[n]?=some (news m rows.length))(d:∀ (i:Nat) ds,rows[i]?=some ds->G[m+i]?=some (ds.map .dat))(g:b<=n)(h:b<=m):∃ l,Rw G n b l rows:=by
 have f:∀ p∈(List.range rows.length).map (λj=>(m+j,(rows[j]?).getD [])),∃ j ds,rows[j]?=some ds/\p=(m+j,ds):=λp a=>by
  obtain⟨j,c,rfl⟩:=mem_map.mp a;have c:=mem_range.mp c;exact⟨j,rows[j],getElem?_eq_getElem c,by rw[getElem?_eq_getElem c];rfl⟩
 refine⟨(List.range rows.length).map λj=>(m+j,(rows[j]?).getD []),⟨by rw[map_map];exact top,λp a=>?_⟩,λp a=>?_,g,?_⟩
 .obtain ⟨j,ds,e,rfl⟩:=f p a;exact d j ds e
 .obtain ⟨j,ds,e,rfl⟩:=f p a;exact le_trans h (Nat.le_add_right _ _)
 .rw [map_map];apply ext_getElem?;intro i;rw[getElem?_map];by_cases q:i < rows.length
  .rw [getElem?_range q,getElem?_eq_getElem q];simp[getElem?_eq_getElem q]
  .rw [getElem?_eq_none (by rw[length_range];omega),getElem?_eq_none (by omega)]
   rfl
def zJo (rs:List (List Pt)):D.lst ((rs.map λps=>ps.map ptD).map .lst)=zBQ rs:=by
 unfold zBQ;rw[map_map]
 rfl
def Rw.shape (e:Rw G n b l (rs.map λps=>ps.map ptD)):drW G (.loc n)=some (zBQ rs):=by rw[e.dr,zJo]
def zCs {rs:List (List Pt)}:∀ ds∈rs.map (λps=>ps.map ptD),noLs ds=true:=λds a=>by
 obtain⟨ps,_,rfl⟩:=mem_map.mp a;exact zHL ps
def zQs {rs:List (List Pt)}(f:O[i]?=some (some (.loc n)))(c:O.length=N)(e:Rw G n b l (rs.map λps=>ps.map ptD))(g:rs.length<=100)(h:∀ (P:Mem) (m:Nat) (l':Lp),Rw (G++P) m G.length l' (rs.map λps=>ps.map ptD)->Q (.loc m,G++P)) :
  EvP (evM GL2 U (.comp N [] nm (.it (.var i)) (.pur (.list (.var N)))) ⟨O,G⟩) Q:=by
 have a:mask none [] O=O:=by unfold mask;simp
 refine zDW (as:=rs) (u:=λps=>ps.map ptD) (v:=λps=>ps.map ptD) (zAz (zAP f ⟨n,rfl,rfl⟩)) e (by rw[a];exact c) g (λP m ps o j=>?_) λP l' d=>h P _ l' d
 rw[a];have k:(O++[some (W.loc m)])[N]?=some (some (.loc m)):=by rw[getElem?_append_right (by omega),c,sub_self];rfl
 exact zBC rfl (zEb (zAJ (zAZ k (zDR j)) (zHv (zG1 (zHL ps) rfl))))
def h12:zOh F12:=zNf (n1:=2) (n0:=0) rfl rfl
def h18:zTs F18:=zPp (nt:=4) (ns:=15) rfl rfl h4 (zOr (nm:=14) (np:=2) rfl rfl h14 h2)
def h19:MixF F19:=zSD (np:=2) (nr:=13) (nt:=4) (nm:=14) rfl rfl rfl rfl h2 h13 h4 h14
def h56 (f:Fm)(t:Rat)(m n:Nat)(Q:R->Prop)(b:FB m f)(a:RB n t)(l:m+n<=10000000)(h:Q (fmD (mx f t),.cl)):EvP (F56 [fmD f,ratD t]) Q:=by
 (walk_at "d");unfold b56;(walk_at "st");refine zAD ?_;(walk_at "e");refine h51 1 t 1 n _ zBd a (by omega) ?_;(walk_at "e");refine fm_k ?_;(walk_at "e");refine h52 t f.k n m _ a b.k (by omega) ?_;(walk_at "e");refine (zMk (nr:=49) rfl h49) _ _ (1+n+1) (n+m) _ (zCW zBd a) (zAj a b.k) (by omega) ?_;(walk_at "e");refine zAD (zC9 (zIm (zHb rfl ?_)));refine w_tu (ds:=[ratD f.a,ratD f.r,ratD f.g,ratD f.b]) ?_;refine zCb rfl ?_;(walk_at "s");refine zAD (zCd rfl (by exact zzb rfl) ?_);(walk_at "e");refine h52 t f.a n m _ a b.a (by omega) ?_;(walk_at "e");refine zBH (zKg (zCb rfl ?_));(walk_at "s");refine zAD (zCd rfl (by exact zzb rfl) ?_);(walk_at "e");refine h52 t f.r n m _ a b.r (by omega) ?_;(walk_at "e");refine zBH (zKg (zCb rfl ?_));(walk_at "s");refine zAD (zCd rfl (by exact zzb rfl) ?_);(walk_at "e");refine h52 t f.g n m _ a b.g (by omega) ?_;(walk_at "e");refine zBH (zKg (zCb rfl ?_));(walk_at "s");refine zAD (zCd rfl (by exact zzb rfl) ?_);(walk_at "e");refine h52 t f.b n m _ a b.b (by omega) ?_;(walk_at "e");refine zBH (zKg (zIG (k_nx ?_)));refine zAD (zBL (zF3 ?_));(walk_at "w");refine zMA ?_;(walk_at "w");have e:mx f t=⟨1 - t+t*f.k,t*f.a,t*f.r,t*f.g,t*f.b⟩:=by
  unfold mx;rw[Rat.mul_comm f.a,Rat.mul_comm f.r,Rat.mul_comm f.g,Rat.mul_comm f.b]
 rw[e] at h;exact h
def crng {n:Nat}(P:Nat->Mem->List W->Prop)(p:EvP (evM J U a ⟨O,G⟩) λr=>r=(.dat (.int (n:Int)),G))(k:(mask none ms O).length=N)(A:n<=100)(h0:P 0 G [])(g:∀ j G' d,P j G' d->d.length=j)
  (step:∀ j G' d,j < n->P j G' d->EvP (evM J U el ⟨mask none ms O++[some (.dat (.int (j:Int)))],G'⟩) λr=>P (j+1) r.2 (d++[r.1])) (v:∀ G' d,P n G' d->Q (.loc G'.length,G'++[d])):EvP (evM J U (.comp N ms nm (.rng a) el) ⟨O,G⟩) Q:=by
 obtain⟨r,u,rfl⟩:=p;refine zEQ (zCU ⟨_,u,_,rfl,by omega,?_⟩);dsimp only;rw[toNat_natCast];obtain⟨y,B,M,z,⟨o,f⟩,p4⟩:=zEg (t:=tgM N) (e:=evM J U el) (src:=.items ((rngL 0 n).map .dat)) (s:=⟨mask none ms O++[none],G⟩) ((rngL 0 n).map .dat) (λj s d=>∃ o:Option W,s.O=mask none ms O++[o]/\P j s.G d) (λ_ _ _ _=>rfl) (λj w s d x b=>by
   obtain⟨o,q,c⟩:=b;obtain⟨rfl,i⟩:=idx x;obtain⟨r,l,m⟩:=step j s.G d i c;refine⟨by rw[g j _ _ c];omega,⟨mask none ms O++[some (.dat (.int (j:Int)))],s.G⟩,r,?_,l,_,rfl,m⟩;unfold tgM;rw[q,set_append_right _ _ (by omega),k,sub_self]
   rfl) ⟨none,rfl,h0⟩
 rw[nrng] at f;obtain⟨_,h⟩:=f;refine⟨y,M,z,by rw[g n _ _ h];omega,?_⟩;rw[<- p4];exact v _ _ h
abbrev rT (w:Nat) (A:Nat->Nat->Fm) (j:Nat):List D:=(List.range w).map λi=>fmD (A j i)
abbrev mT (w h:Nat) (A:Nat->Nat->Fm):List (List D):=(List.range h).map (rT w A)
structure TB (n w h:Nat)(A:Nat->Nat->Fm):Prop where
 b:∀ j i,j < h->i < w->FB n (A j i)
def TB.mono (t:TB m w h A)(l:m<=n):TB n w h A:=⟨λj i b a=>(t.b j i b a).mono l⟩
def zSK (a:j < h):atI ((mT w h A).map D.lst) (j:Int)=some (.lst (rT w A j)):=zAv (by rw[getElem?_map,getElem?_map,getElem?_range a];rfl)
def rrow {n:Nat}(f:EvP (evM J U a ⟨O,G⟩) λr=>r=(.dat (.int (n:Int)),G))(c:(mask none ms O).length=N)(g:n<=100)
  (l:∀ j,j < n->EvP (evM J U el ⟨mask none ms O++[some (.dat (.int (j:Int)))],G⟩) λr=>r=(.dat (v j),G)) (k:Q (.loc G.length,G++[((List.range n).map v).map .dat])):EvP (evM J U (.comp N ms nm (.rng a) el) ⟨O,G⟩) Q:=by
 refine crng (λj b d=>b=G/\d=((List.range j).map v).map .dat) f c g ⟨rfl,rfl⟩ (λj b d h=>by rw[h.2];simp) (λj b d i h=>?_) λG' d h=>by rw[h.1,h.2];exact k
 obtain⟨rfl,rfl⟩:=h;obtain⟨r,e,rfl⟩:=l j i;exact⟨_,e,rfl,by rw[range_succ,x8,x8];rfl⟩
def zDI (G:Mem)(b:Nat)(v:Nat->List D)(j:Nat)(G':Mem):Prop:=Kq G G'/\∃ l,Rw G' b G.length l ((List.range j).map v)
def zDI.snoc (h:zDI G b v j G'):∃ l:Lp,G'[b]?=some (l.map λp=>W.loc p.1)/\l.length=j/\zDI G b v (j+1) ((G'++[(v j).map W.dat]).set b (l.map (λp=>W.loc p.1)++[W.loc G'.length])):=by
 obtain⟨k,l,R⟩:=h;have lt:=R.lt;refine⟨l,R.ll.top,by rw[R.len];simp,k.app.set R.top,l++[(G'.length,v j)],⟨zHR (R.keep zAU).ll zAO (by omega),λp a=>?_,R.top,?_⟩⟩
 .rcases mem_append.mp a with z | z
  .exact R.lo p z
  .rw [mem_singleton.mp z];exact k.le
 .rw [x8,R.snd,range_succ,x8];rfl
def zDI.nil :zDI G G.length v 0 (G++[[]]):=⟨zAU,[],⟨zAO,λp a=>absurd a (by simp)⟩,λp a=>absurd a (by simp),le_refl _,rfl⟩
abbrev flK (F:MF) (ob:W) (w h:Nat) (G:Mem) (A:Nat->Nat->Fm):Prop:=∀ Q:MR->Prop,(∀ (G':Mem) (m:Nat) (l:Lp),Kq G G'->Rw G' m G.length l (mT w h A)->Q (.loc m,G'))->EvP (F [ob,.dat (.int (w:Int)),.dat (.int (h:Int))] G) Q
noncomputable def jT (A s:Nat->Nat->Fm):Nat->Nat->Fm:=λj i=>jn (A j i) (s j i)
def TB.jn (a:TB m w h A)(b:TB n w h s):TB (m+(n+m)+1) w h (jT A s):=⟨λj i c d=>zUw (a.b j i c d) (b.b j i c d)⟩
abbrev tD (w h:Nat) (d:Nat->Nat->D):List (List D):=(List.range h).map λj=>(List.range w).map (d j)
def r_at {w i:Nat}{d:Nat->D}(a:i < w):atI ((List.range w).map d) (i:Int)=some (d i):=zAv (by rw[getElem?_map,getElem?_range a];rfl)
def zMD (a:j < h):atI ((tD w h d).map D.lst) (j:Int)=some (.lst ((List.range w).map (d j))):=zAv (by rw[getElem?_map,getElem?_map,getElem?_range a];rfl)
def zRM :((tD w h d).map D.lst).length=h:=by simp
def zRN (x:∀ j i,j < h->i < w->d j i=e j i):tD w h d=tD w h e:=map_congr_left λj b=>map_congr_left λi a=>x j i (mem_range.mp b) (mem_range.mp a)
def zRg {b1 b2:Nat}(f:GL2.fns[nf]?=some (x,F))(o:Rw G n1 b1 l1 (tD w h d1))(R2:Rw G n2 b2 l2 (tD w h d2))(A:w<=10)(D:h<=10)(q:∀ j i,j < h->i < w->∀ Q:R->Prop,Q (d3 j i,.cl)->EvP (F [d1 j i,d2 j i]) Q)(p:∀ j i,noL (d3 j i)=true)
  (r:∀ (G':Mem) (m:Nat) (l:Lp),Kq G G'->Rw G' m G.length l (tD w h d3)->Q (.loc m,G')):EvP (FM41 [.loc n1,.loc n2,.dat (.fn nf x)] G) Q:=by
 refine zBu rfl (by decide) ?_;unfold mb41;show EvP (evSs' GL2 D4 _ ⟨[some (.loc n1),some (.loc n2),some (.dat (.fn nf x)),none,none],G⟩) _;have a:∀ {G'},Kq G G'->drW G' (.loc n1)=some (.lst ((tD w h d1).map .lst)):=λk=>(o.keep k).dr
 have d:∀ {G'},Kq G G'->drW G' (.loc n2)=some (.lst ((tD w h d2).map .lst)):=λk=>(R2.keep k).dr
 have D1:=a (zAU (P:=[[]]));(walk_at "m");rw[zRM];(walk_at "m");refine⟨_,rfl,by omega,?_⟩;rw[toNat_natCast];refine zCc (s:=⟨_,_⟩) ((rngL 0 h).map .dat) (λj s=>∃ (e:Option W) (G':Mem),s=⟨[some (.loc n1),some (.loc n2),some (.dat (.fn nf x)),some (.loc G.length),e],G'⟩/\zDI G G.length (λj=>(List.range w).map (d3 j)) j G') (λ_ _ _=>rfl) ?_ ?_ ⟨none,_,rfl,zDI.nil⟩
 .rintro j y s z ⟨e,G',rfl,I⟩;obtain⟨rfl,b⟩:=idx z;refine⟨_,rfl,?_⟩;dsimp only;(walk_at "s");obtain⟨g,u,E,t⟩:=I.snoc;have C:=a I.1;have B:=d I.1;refine zAI (zDG (zAP rfl (rrow (n:=w) (v:=d3 j) ?_ rfl (by omega) (λi c=>?_) ⟨_,_,rfl,zAT u,by rw[qy];omega,zAn (zA6 ⟨_,_,rfl,t⟩)⟩)))
  ·(walk_at "m");refine zAo (zMD b) ?_;(walk_at "m");rw[qy,length_range]
  .show EvP (evM GL2 D4 _ ⟨[some (.loc n1),some (.loc n2),some (.dat (.fn nf x)),some (.loc G.length),some (.dat (.int (j:Int))),some (.dat (.int (i:Int)))],G'⟩) _;refine zBC rfl (zNG (F:=F) (zAZ rfl zAq) f ?_);(walk_at "m");refine zAo (zMD b) ?_;(walk_at "m");refine zAo (r_at c) ?_;(walk_at "m");refine zAo (zMD b) ?_;(walk_at "m");refine zAo (r_at c) ?_;(walk_at "m");exact q j i b c _ (n_cl (zBb (p j i) rfl))
 .rintro s ⟨e,G',rfl,k,g,R⟩;rw[nrng] at R;exact zAn (zAI (zBz (zAP rfl (zDh (r _ _ _ k R)))))
def m41 {b1 b2:Nat}(f:Rw G n1 b1 l1 (mT w h A))(R2:Rw G n2 b2 l2 (mT w h s))(d:TB p w h A)(e:TB q w h s)(l:p+q<=10000000)(g:w<=10)(c:h<=10)
  (k:∀ (G':Mem) (m:Nat) (l:Lp),Kq G G'->Rw G' m G.length l (mT w h (jT A s))->Q (.loc m,G')):EvP (FM41 [.loc n1,.loc n2,.dat (.fn 18 "joined")] G) Q:=zRg (F:=F18) (d3:=λj i=>fmD (jT A s j i)) rfl f R2 g c (λj i a b Q n=>h18 _ _ p q _ (d.b j i a b) (e.b j i a b) l n) (λ_ _=>rfl) k
structure Tat (G:Mem)(a h:Nat)(v:Nat->List D):Prop where
 top:G[a+h]?=some (news a h)
 row:∀ j,j < h->G[a+j]?=some ((v j).map .dat)
theorem Tat.rw (t:Tat G a h v):∃ l,Rw G (a+h) a l ((List.range h).map v):=by
 refine zOt (by rw[qy,length_range];exact t.top) (λi ds e=>?_) (by omega) (le_refl _);rw[getElem?_map] at e;obtain⟨x,ex,rfl⟩:=yq.mp e;obtain⟨hi,rfl⟩:=zzg ex;rw[List.getElem_range];exact t.row i (by simpa using hi)
def tgo {n:Nat}(q:EvP (evM J U a ⟨O,G⟩) λr=>r=(.dat (.int (n:Int)),G))(l:(mask none ms O).length=N)(p:n<=100)
  (g:∀ j G',j < n->EvP (evM J U el ⟨mask none ms O++[some (.dat (.int (j:Int)))],G'⟩) λr=>r=(.loc G'.length,G'++[(v j).map .dat])) (o:∀ (G':Mem),Kq G G'->Tat G' G.length n v->Q (.loc (G.length+n),G')):EvP (evM J U (.comp N ms nm (.rng a) el) ⟨O,G⟩) Q:=by
 refine crng (λj G' d=>Kq G G'/\G'.length=G.length+j/\d=news G.length j/\∀ i,i < j->G'[G.length+i]?=some ((v i).map .dat)) q l p ⟨zKf,rfl,rfl,λi c=>absurd c (by omega)⟩ (λj G' d h=>by rw[h.2.2.1,zB8]) (λj G' d m h=>?_) λG' d h=>?_
 .obtain ⟨k,b,rfl,f⟩:=h;obtain⟨r,e,rfl⟩:=g j G' m;refine⟨_,e,k.app,by rw[qQ,b];rfl,by rw[zDN,b],λi c=>?_⟩;by_cases z:i < j
  .exact zAT (f i z)
  .obtain rfl:i=j:=by omega
   rw[<- b];exact zAO
 .obtain ⟨k,b,rfl,f⟩:=h;rw[b];exact o _ k.app ⟨by rw[<- b];exact zAO,λi c=>zAT (f i c)⟩
def m44 (c:w<=10)(d:h<=10)(a:∀ (G':Mem) (m:Nat) (l:Lp),Kq G G'->Rw G' m G.length l (mT w h λ_ _=>clr)->Q (.loc m,G')):EvP (FM44 [.dat (.int (w:Int)),.dat (.int (h:Int))] G) Q:=by
 refine zBu rfl (by decide) ?_;unfold mb44;show EvP (evSs' GL2 D7 _ ⟨[some (.dat (.int (w:Int))),some (.dat (.int (h:Int)))],G⟩) _;refine zAI (zBz (tgo (n:=h) (v:=rT w λ_ _=>clr) (zAP rfl rfl) rfl (by omega) (λj G' e=>?_) λG' k T=>by obtain⟨l,R⟩:=T.rw;exact zDh (a _ _ _ k R)));refine rrow (n:=w) (v:=λ_=>fmD clr) (zAP rfl rfl) rfl (by omega) (λi b=>?_) rfl;exact zBC rfl (zAL (F:=F12) rfl (zAs (h12 _ (n_cl (zBb rfl rfl)))))
noncomputable def mbJ (ix:List (Str×Nat)):MT:=.cons (.set 3 (.call 8 "clear_films" (.cons (.var 0) (.cons (.var 1) .nil)))) (.cons (.for1 4 (.it (.var 2)) (.cons (.set 3 (.call 5 "put_together" (.cons (.mth ix "films" (.var 4) (.cons (.var 0) (.cons (.var 1) .nil))) (.cons (.var 3) (.cons (.pur (.glob 4 "joined")) .nil))))) .nil)) (.cons (.ret (.var 3)) .nil))
noncomputable def aT (A:Nat->Nat->Nat->Fm):Nat->Nat->Nat->Fm
 | 0=>λ_ _=>clr
 | k+1=>jT (A k) (aT A k)
theorem aT_b (hb:∀ k,k < N->TB m w h (A k)):∀ k,k<=N->TB (1+k*(2*m+1)) w h (aT A k)
 | 0,_=>⟨λ_ _ _ _=>zTN.mono (Nat.le_add_right _ _)⟩
 | k+1,l=>((hb k l).jn (aT_b hb k (by omega))).mono (by have e:(k+1)*(2*m+1)=k*(2*m+1)+(2*m+1):=Nat.succ_mul k _;omega)
def Disp (U:Dm)(ix:List (Str×Nat))(o:W)(w h:Nat)(G:Mem)(A:Nat->Nat->Fm):Prop:=∃ c n y F,clsW "films" o=some c/\ix.lookup c=some n/\U[n]?=some (y,F)/\spec.lookup y=some (.mth c "films")/\flK F o w h G A
def zUZ {os:List W}(J:U[8]?=some (("clear_films":Str),FM44))(u:U[5]?=some (("put_together":Str),FM41))(D:G[nl]?=some os)(H:∀ k o,os[k]?=some o->∀ G',Kq G G'->Disp U ix o w h G' (A k))(g:∀ k,k < os.length->TB m w h (A k))
  (l:m+(1+os.length*(2*m+1))<=10000000) (i:w<=10) (f:h<=10) (C:∀ (G':Mem) (n:Nat) (l:Lp),Kq G G'->Rw G' n G.length l (mT w h (aT A os.length))->Q (.loc n,G')):EvP (zAi 3 5 (evSs' GL2 U (mbJ ix)) [.dat (.int (w:Int)),.dat (.int (h:Int)),.loc nl] G) Q:=by
 refine zBu rfl (by decide) ?_;unfold mbJ;show EvP (evSs' GL2 U _ ⟨[some (.dat (.int (w:Int))),some (.dat (.int (h:Int))),some (.loc nl),none,none],G⟩) _;refine zAI (zCw (zBK J (zAK (zAP rfl (zAK (zAP rfl (zA4 ?_)))))));refine(show EvP (FM44 [.dat (.int (w:Int)),.dat (.int (h:Int))] G) _ from ?_);refine m44 i f λO7 r x q t=>zAn ?_
 (walk_at "s");refine zAI (zDV (zAz (zAP rfl ⟨nl,rfl,?_⟩)));refine zCc (s:=⟨_,_⟩) os (λj s=>∃ (b:Option W) (G':Mem) (n:Nat) (l:Lp),s=⟨[some (.dat (.int (w:Int))),some (.dat (.int (h:Int))),some (.loc nl),some (.loc n),b],G'⟩/\Kq G G'/\Rw G' n G.length l (mT w h (aT A j))) (λj s E=>?_) ?_ ?_ ⟨none,O7,r,x,rfl,q,t⟩
 .obtain ⟨_,G',_,_,rfl,k,_⟩:=E;exact k.get D
 .rintro j o s a ⟨b,G',n,K,rfl,k,R⟩;refine⟨_,rfl,?_⟩;dsimp only;(walk_at "s");obtain⟨c,L,y,F,v,N,M,z,O⟩:=H j o a G' k;have e:j < os.length:=(zzg a).1;refine zAI (zCw (zBK u (zAK (zPi (zAP rfl ⟨c,L,y,F,v,N,M,z,zAK (zAP rfl (zAK (zAP rfl (zA4 ?_))))⟩)))));refine O _ fun μ2 n2 l2 k2 R2=>?_
  refine zAK (zAP rfl (zAK (zBC rfl (zCE (d:=.fn 18 "joined") rfl (zBb rfl (zA4 ?_))))));refine(show EvP (FM41 [.loc n2,.loc n,.dat (.fn 18 "joined")] μ2) _ from ?_);have:=mul_le_mul_right (2*m+1) (Nat.le_of_lt e);refine m41 R2 (R.keep k2) (g j e) (aT_b g j (Nat.le_of_lt e)) (by omega) i f λO8 I B p P=>zAn (zA6 ?_)
  exact⟨_,_,I,B,rfl,(k.trans k2).trans p,P.below (k.trans k2).le⟩
 .rintro s ⟨b,G',n,K,rfl,k,R⟩;exact zAn (zAI (zBz (zAP rfl (zDh (C _ _ _ k R)))))
noncomputable def meJ (n:Nat):ME:=.call n "joined_films" (.cons (.var 1) (.cons (.var 2) (.cons (.fld (.var 0) "layers") .nil)))
abbrev objW (c:Str) (nl:Nat) (t:Rat):W:=.obj c ["layers","strength"] [.loc nl,.dat (ratD t)]
def zUY {g:Fm->Fm}(r:U[n]?=some (("joined_films":Str),FJ))(d:(c,("layers":Str),(none:Option Bool))∈GL2.ob)(m:GL2.lm[J]?=some (L,FL))(x:∀ j i,j < h->i < w->∀ Q:R->Prop,Q (fmD (g (s j i)),.cl)->EvP (FL [fmD (s j i),.obj c ["strength"] [ratD t]]) Q)
  (C:w<=10) (E:h<=10) (k:∀ Q:MR->Prop,(∀ (G':Mem) (n:Nat) (l:Lp),Kq G G'->Rw G' n G.length l (mT w h s)->Q (.loc n,G'))->EvP (FJ [.dat (.int (w:Int)),.dat (.int (h:Int)),.loc nl] G) Q):flK (lamM FM40 J L [0] 3 3 (zF4 GL2 U .nil) (evM GL2 U (meJ n))) (objW c nl t) w h G (λj i=>g (s j i)):=λQ q=>by
 refine zKe rfl (by decide) ⟨_,rfl,_,rfl,?_⟩;show EvP (evM GL2 U (meJ n) ⟨[some (objW c nl t),some (.dat (.int (w:Int))),some (.dat (.int (h:Int)))],G⟩) _;refine zBK r (zAK (zAP rfl (zAK (zAP rfl (zAK (zHP (zAP rfl ⟨_,_,_,_,rfl,d,rfl,zA4 ?_⟩)))))));refine k _ λO7 A z a b=>⟨[.obj c ["strength"] [ratD t]],rfl,rfl,?_⟩
 have e:∀ u:Fm->D,((List.range h).map λj=>(List.range w).map λi=>s j i).map (List.map u)=(List.range h).map λj=>(List.range w).map λi=>u (s j i):=λu=>by rw[map_map];exact map_congr_left λj _=>map_map
 rw[show mT w h s=_ from (e fmD).symm] at b;refine m40 (f:=.lam J L [.obj c ["strength"] [ratD t]]) rfl (u:=fmD) (v:=λf=>fmD (g f)) b (by rw[qy,length_range];omega) (λqs hq=>?_) λP B R2=>?_
 .obtain ⟨j,p,rfl⟩:=mem_map.mp hq;refine⟨by rw[qy,length_range];omega,λq y=>?_⟩;obtain⟨i,o,rfl⟩:=mem_map.mp y;exact⟨zLd m (x j i (mem_range.mp p) (mem_range.mp o)),rfl⟩
 .rw [e λf=>fmD (g f)] at R2;exact q _ _ _ a.app (R2.below a.le)
def zUT (e:G[n]?=some ws)(a:StO o t)(b:Q (objW "Join" G.length t,G++[ws])):EvP (zDp [.loc n,.dat o] G) Q:=by
 refine zFu rfl rfl ?_;show EvP (zD2 [("layers",evM GL2 D11 (.lcp (.var 1))),("strength",evM GL2 D11 (.pur (.call 39 "strength_or_one" (.cons (.var 2) .nil))))] ⟨[none,some (.loc n),some (.dat o)],G⟩) _;refine zCA (zUQ (zAP rfl ⟨n,ws,rfl,e,?_⟩));refine zCA (zBC rfl (zAL rfl (zAH (zAJ (zAZ rfl zAq) (n_cl (zAs ?_))))));exact zJX a (n_cl (zBb rfl (zIC b)))
abbrev qT (w h:Nat) (rs:List (List Pt)) (j i:Nat):Rat:=cov (((tabR w h rs).getD j []).getD i 0)
def zG8 (f:Fl w h rs)(b:j < h):((tabR w h rs).getD j []).length=w/\∀ q∈(tabR w h rs).getD j [],RB 600000 q:=by
 obtain⟨⟨c,a⟩,_⟩:=zBM f;rw[getD_eq_getElem?_getD,getElem?_eq_getElem (by omega)];exact a _ (getElem_mem (by omega))
def zNv (f:Fl w h rs)(g:Rat->Fm):(tabR w h rs).map (List.map λq=>fmD (g (cov q)))=mT w h λj i=>g (qT w h rs j i):=by
 rw[zC7 (zDE f)];exact map_congr_left λj m=>zC7 (zG8 f (mem_range.mp m)).1
def zEt (f:Fl w h rs)(a:j < h)(b:i < w):RB 600000 (qT w h rs j i):=by
 obtain⟨e,r⟩:=zG8 f a;refine zGn ?_ (by decide);rw[getD_eq_getElem?_getD,getElem?_eq_getElem (by omega)];exact r _ (getElem_mem (by omega))
abbrev zGj (w h:Nat) (rs:List (List Pt)) (t:Rat) (r g b:Int) (j i:Nat):Fm:=zFs (qT w h rs j i*t) r g b
abbrev rubT (w h:Nat) (rs:List (List Pt)) (t:Rat) (j i:Nat):Fm:=⟨1 - qT w h rs j i*t,0,0,0,0⟩
def zTK (f:Fl w h rs)(a:RB 80 t)(h1:I255 r)(h2:I255 g)(h3:I255 b):TB 600100 w h (zGj w h rs t r g b):=⟨λj i d c=>(zTM (zAj (zEt f d c) a) h1 h2 h3).mono (by decide)⟩
def zUB (f:Fl w h rs)(c:RB 80 t):TB 600100 w h (rubT w h rs t):=⟨λj i a b=>⟨(zCW zBd (zAj (zEt f a b) c)).mono (by decide),zBB.mono (by decide),zBB.mono (by decide),zBB.mono (by decide),zBB.mono (by decide)⟩⟩
def zUX (f:Fl w h rs)(c:RB 80 t)(h1:I255 r)(h2:I255 g)(h3:I255 b)(dr:drW G (.loc a)=some (zBQ rs)):flK zCN (zK8 a (inkD r g b) t) w h G (zGj w h rs t r g b):=λQ q=>by
 refine zUx f c h1 h2 h3 dr Q λP m l R=>q _ _ l zAU ?_
 rw[zNv f λq=>zFs (q*t) r g b] at R;exact R
def kRub (f:Fl w h rs)(b:RB 80 t)(dr:drW G (.loc a)=some (zBQ rs)):flK zCl (rubW a t) w h G (rubT w h rs t):=λQ q=>by
 refine fRub f b dr Q λP m l R=>q _ _ l zAU ?_
 rw[zNv f λq=>⟨1 - q*t,0,0,0,0⟩] at R;exact R
def Rw.range {μ2:Mem}(e:Rw G n b l rows)(k:∀ x,b<=x->x < G.length->μ2[x]?=G[x]?):Rw μ2 n b l rows :=
 ⟨e.ll.keep (k n e.top e.lt) λp a=>k p.1 (e.lo p a) (e.ll.lt.2 p a),e.lo,e.top,e.snd⟩
noncomputable def mtl:Nat->MT->MT
 | 0,s=>s
 | n+1,.cons _ b=>mtl n b
 | _+1,s=>s
def zUR :D.lst ((mT w h A).map .lst)=fsD ((List.range h).map λj=>(List.range w).map λi=>[(A j i).k,(A j i).a,(A j i).r,(A j i).g,(A j i).b]):=by
 rw[map_map,fsD,map_map];congr 1;exact map_congr_left λj _=>by show D.lst _=D.lst _;rw[map_map];rfl
def zCD (c:w<=10)(b:h<=10)(q:Q (.bl true,.cl)):EvP (F61 [.lst ((mT w h A).map .lst),.lst ((mT w h A).map .lst)]) Q:=by
 rw[zUR];refine h61 _ _ (by rw[qy,length_range];omega) (λr a=>?_) q;obtain⟨j,_,rfl⟩:=mem_map.mp a;rw[qy,length_range];omega
def zT5 (h:EvP (evT J U a s) λr=>r.1=false/\EvP (evT J U b ⟨s.O,r.2⟩) Q):EvP (evT J U (.orl (.cons a (.cons b .nil))) s) Q:=by
 obtain⟨_,e,d,z,c,q⟩:=h;refine⟨z,?_,q⟩;show orB _ (evT J U b) s=_;unfold orB;grind
abbrev qD (w h:Nat) (rs:List (List Pt)):List (List D):=tD w h λj i=>ratD (qT w h rs j i)
def zPU (q:Rat):(q.num < 0)<->q < 0:=by rw[Rat.lt_iff];simp
def zQ0 (q:Rat):((q.den:Int) < q.num)<->1 < q:=by
 rw[Rat.lt_iff];simp
def Rw.at' (R:Rw G n b l (tD w h d))(e:(l.map λp=>W.loc p.1)[j]?=some y):j < h/\∃ m,y=.loc m/\G[m]?=some (((List.range w).map (d j)).map .dat):=by
 rw[getElem?_map] at e;obtain⟨p,a,rfl⟩:=yq.mp e;have c:j < h:=by
  have:=(zzg a).1;rw[R.len] at this;simpa using this
 refine⟨c,p.1,rfl,?_⟩;have h1:(l.map λp=>p.2)[j]?=some p.2:=by rw[getElem?_map,a];rfl
 rw[R.snd,getElem?_map,getElem?_range c] at h1;rw[R.ll.row p (mem_of_getElem? a),<- xQ h1]
structure RI (M:Mem)(a:Nat)(v:Nat->List D)(j:Nat)(G':Mem):Prop where
 le:M.length<=G'.length
 kp:∀ x,x < M.length->x≠a->G'[x]?=M[x]?
 rw:∃ l,Rw G' a a l ((List.range j).map v)
def RI.snoc (h:RI M a v j G')(e:a<=M.length):∃ l:Lp,G'[a]?=some (l.map λp=>W.loc p.1)/\l.length=j/\RI M a v (j+1) ((G'++[(v j).map W.dat]).set a (l.map (λp=>W.loc p.1)++[W.loc G'.length])):=by
 obtain⟨l,R⟩:=h.rw;have lt:=R.lt;have d:=h.le;refine⟨l,R.ll.top,by rw[R.len];simp,by rw[length_set,qQ];omega,λx b z=>?_,l++[(G'.length,v j)],⟨zHR (R.keep zAU).ll zAO (by omega),λp c=>?_,R.top,?_⟩⟩
 .rw [getElem?_set_ne (Ne.symm z)];exact(getElem?_append_left (by omega)).trans (h.kp x b z)
 .rcases mem_append.mp c with z | z
  .exact R.lo p z
  .rw [mem_singleton.mp z];show a<=G'.length;omega
 .rw [x8,R.snd,range_succ,x8];rfl
abbrev pT (w h:Nat) (rs:List (List Pt)) (j i:Nat):Rat:=((tabR w h rs).getD j []).getD i 0
def zRF (f:Fl w h rs):(tabR w h rs).map (List.map ratD)=tD w h λj i=>ratD (pT w h rs j i):=by
 rw[zC7 (zDE f)];exact map_congr_left λj m=>zC7 (zG8 f (mem_range.mp m)).1
def zRZ {T:Type}{f:Nat->T}{i:Nat}:(List.range (i+1)).map f=(List.range i).map f++[f i]:=by rw[range_succ,x8];rfl
def zOu {T:Type}{f:Nat->T}{n i:Nat}{y:T}(e:((List.range n).map f)[i]?=some y):i < n/\y=f i:=by
 have a:i < n:=by have:=(zzg e).1;simpa using this
 rw[getElem?_map,getElem?_range a] at e;exact⟨a,(xQ e).symm⟩
def m60 (f:Fl w h rs)(e:Rw G n b l (rs.map λps=>ps.map ptD))(K:∀ (G':Mem) (m:Nat) (l':Lp),Kq G G'->Rw G' m G.length l' (qD w h rs)->Q (.loc m,G')):EvP (FM60 [.dat (.int (w:Int)),.dat (.int (h:Int)),.loc n] G) Q:=by
 refine zBu rfl (by decide) ?_;unfold mb60;show EvP (evSs' GL2 D22 _ ⟨[some (.dat (.int (w:Int))),some (.dat (.int (h:Int))),some (.loc n),none,none,none,none],G⟩) _;have O:=f.rl;have H:=f.w2;have R:=f.h2;(walk_at "m");refine zQs (i:=2) rfl rfl (e.keep zAU) (by omega) λP1 X P N=>?_
 (walk_at "m");refine zRV (zBM f) N.shape λP2 D C R2=>⟨D,rfl,?_⟩
 rw[zRF f] at R2;have v:(G++[[]]++P1++P2)[G.length]?=some []:=zAT (zAT zAO);have t:Kq G (G++[[]]++P1++P2):=zAU.app.app;have b2:G.length < (G++[[]]++P1).length:=by simp only[qQ,length_singleton];omega
 generalize (G++[[]]++P1).length=b1 at R2 b2;generalize G++[[]]++P1++P2=M at v t R2;have T:G.length < M.length:=(zzg v).1;have E:∀ {j G'},RI M G.length (λj=>(List.range w).map λi=>ratD (qT w h rs j i)) j G'->Rw G' D b1 C (tD w h λj i=>ratD (pT w h rs j i)):=λI=>R2.range λx A J=>I.kp x J (by omega)
 refine zCc (s:=⟨_,_⟩) (C.map λp=>.loc p.1) (λj s=>∃ (g o a:Option W) (G':Mem),s=⟨[some (.dat (.int (w:Int))),some (.dat (.int (h:Int))),some (.loc n),some (.loc G.length),g,o,a],G'⟩/\RI M G.length (λj=>(List.range w).map λi=>ratD (qT w h rs j i)) j G') ?_ ?_ ?_ ⟨none,none,none,M,rfl,le_refl _,λ_ _ _=>rfl,[],⟨v,λp r=>absurd r (by simp)⟩,λp r=>absurd r (by simp),le_refl _,rfl⟩
 .rintro j s ⟨g,o,a,G',rfl,I⟩;exact(E I).ll.top
 .rintro j y s q ⟨g,o,a,G',rfl,I⟩;obtain⟨V,m,rfl,S⟩:=(E I).at' q;refine⟨_,rfl,?_⟩;dsimp only;(walk_at "s");(walk_at "m");refine⟨_,rfl,?_⟩;refine zCc (s:=⟨_,_⟩) (((List.range w).map λi=>ratD (pT w h rs j i)).map .dat) (λi s=>∃ a,s=⟨[some (.dat (.int (w:Int))),some (.dat (.int (h:Int))),some (.loc n),some (.loc G.length),some (.loc m),some (.loc G'.length),a],G'++[((List.range i).map λi=>ratD (qT w h rs j i)).map W.dat]⟩) (λi s c=>by obtain⟨a,es⟩:=c;subst es;exact zAT S) ?_ ?_ ⟨a,rfl⟩
  .rintro i y s q ⟨a,rfl⟩;rw[getElem?_map] at q;obtain⟨d,u,rfl⟩:=yq.mp q;obtain⟨Y,rfl⟩:=zOu u;refine⟨_,rfl,?_⟩;dsimp only;(walk_at "s");rw[zRZ,x8,show ratD (qT w h rs j i)=ratD (cov (pT w h rs j i)) from rfl];unfold cov;(walk_at "m");simp only[zPU];by_cases c1:pT w h rs j i < 0
   .rw [decide_eq_true c1,if_pos c1];refine⟨λ_=>?_,(λz=>nomatch z)⟩;(walk_at "m");refine⟨(λz=>nomatch z),λ_=>?_⟩;(walk_at "m");refine⟨_,_,rfl,zAO,by simp;omega,?_⟩;(walk_at "m");exact⟨some (.dat _),by rw[zCr];rfl⟩
   .rw [decide_eq_false c1,if_neg c1];refine⟨(λz=>nomatch z),λ_=>?_⟩;(walk_at "m");simp only[zQ0];by_cases c2:1 < pT w h rs j i
    .rw [decide_eq_true c2,if_pos c2];refine⟨λ_=>?_,(λz=>nomatch z)⟩;(walk_at "m");refine⟨_,_,rfl,zAO,by simp;omega,?_⟩;(walk_at "m");exact⟨some (.dat _),by rw[zCr];rfl⟩
    .rw [decide_eq_false c2,if_neg c2];refine⟨(λz=>nomatch z),λ_=>?_⟩;(walk_at "m");refine⟨_,_,rfl,zAO,by simp;omega,?_⟩;(walk_at "m");exact⟨some (.dat _),by rw[zCr];rfl⟩
  .rintro s ⟨a,rfl⟩;rw[qy,qy,length_range];obtain⟨Z,u,U,F⟩:=I.snoc (Nat.le_of_lt T);(walk_at "m");have P:j<=100:=by omega
   refine⟨_,_,rfl,zAT u,by rw[qy];omega,zAn (zA6 ⟨_,_,_,_,rfl,F⟩)⟩
 .rintro s ⟨g,o,a,G',rfl,I⟩;have ll:=R2.len;simp only[qy,length_range] at ll;rw[qy,ll] at I;obtain⟨l',L⟩:=I.rw;(walk_at "m");exact K _ _ l' ⟨le_trans t.le I.le,λx A=>(I.kp x (by omega) (by omega)).trans (t.kp x A)⟩ L
def h55 (s:Rat)(r g b:Int)(n:Nat)(Q:R->Prop)(a:RB n s)(l:n<=10000000)(h1:I255 r)(h2:I255 g)(h3:I255 b)(h:Q (fmD (zFs s r g b),.cl)):EvP (F55 [ratD s,inkD r g b]) Q:=by
 have i:=zDQ h1.1 h1.2;have c:=zDQ h2.1 h2.2;have e:=zDQ h3.1 h3.2;have f:fmD (zFs s r g b)=rsD [1 - s,s,s*(r:Rat),s*(g:Rat),s*(b:Rat)]:=by unfold fmD zFs;simp only[Rat.mul_comm s]
 rw[f] at h;(walk_at "d");unfold b55 inkD;(walk_at "st");(walk_at "w");refine h51 1 s 1 n _ zBd a (by omega) ?_;(walk_at "w");refine zCd rfl (by exact zzb rfl) ?_;(walk_at "w");refine h52 s (r:Rat) n 8 _ a i (by omega) ?_;(walk_at "w");refine zCd rfl (by exact zzb rfl) ?_;(walk_at "w");refine h52 s (g:Rat) n 8 _ a c (by omega) ?_;(walk_at "w");refine zCd rfl (by exact zzb rfl) ?_;(walk_at "w");refine h52 s (b:Rat) n 8 _ a e (by omega) ?_;(walk_at "w");refine zF3 ?_;(walk_at "w");refine zMA ?_;(walk_at "w");exact h
def zDX :(List.range n).length=n:=length_range
def m62 {b0:Nat}(f:Fl w h rs)(d:RB 80 t)(h1:I255 r)(h2:I255 g)(h3:I255 b)(e:Rw G n b0 l (qD w h rs))(k:∀ (G':Mem) (m:Nat) (l':Lp),Kq G G'->Rw G' m G.length l' (mT w h (zGj w h rs t r g b))->Q (.loc m,G')):EvP (FM62 [.loc n,.dat (inkD r g b),.dat (ratD t)] G) Q:=by
 have x:=f.w2;have s:=f.h2;refine zBu rfl (by decide) ?_;unfold mb62;show EvP (evSs' GL2 D23 _ ⟨[some (.loc n),some (.dat (inkD r g b)),some (.dat (ratD t))],G⟩) _;refine zAI (zBz (zDW (as:=List.range h) (u:=λj=>(List.range w).map λi=>ratD (qT w h rs j i)) (v:=rT w (zGj w h rs t r g b)) (zAz (zAP rfl ⟨n,rfl,rfl⟩)) e rfl (by rw[zDX];omega) (λP m j a q=>?_) λP l' o=>zDh (k _ _ l' zAU o)));have a:=mem_range.mp a;show EvP (evM GL2 D23 _ ⟨[some (.loc n),some (.dat (inkD r g b)),some (.dat (ratD t)),some (.loc m)],G++P⟩) _;refine zGQ (as:=List.range w) (u:=λi=>ratD (qT w h rs j i)) (v:=λi=>fmD (zGj w h rs t r g b j i)) (zAz (zAP rfl ⟨m,rfl,rfl⟩)) q rfl (by rw[zDX];omega) (λi p=>?_) rfl;have c:=zEt f a (mem_range.mp p);show EvP (evM GL2 D23 _ ⟨[some (.loc n),some (.dat (inkD r g b)),some (.dat (ratD t)),some (.loc m),some (.dat (ratD (qT w h rs j i)))],G++P⟩) _;(walk_at "m");refine h52 _ t 600000 80 _ c d (by decide) ?_;(walk_at "m");refine h55 _ r g b 600081 _ ((zAj c d).mono (by decide)) (by decide) h1 h2 h3 ?_;(walk_at "m")
 rfl
def zDI.app (h:zDI G b v j G'):zDI G b v j (G'++P):=⟨h.1.app,h.2.imp λ_ R=>R.keep zAU⟩
def m63 {b0:Nat}(f:Fl w h rs)(d:RB 80 t)(e:Rw G n b0 l (qD w h rs))(r:∀ (G':Mem) (m:Nat) (l':Lp),Kq G G'->Rw G' m G.length l' (mT w h (rubT w h rs t))->Q (.loc m,G')):EvP (FM63 [.loc n,.dat (ratD t)] G) Q:=by
 have E:=f.w2;have C:=f.h2;refine zBu rfl (by decide) ?_;unfold mb63;show EvP (evSs' GL2 D24 _ ⟨[some (.loc n),some (.dat (ratD t)),none,none,none],G⟩) _;(walk_at "m");refine⟨n,rfl,?_⟩;refine zCc (s:=⟨_,_⟩) (l.map λp=>.loc p.1) (λj s=>∃ (b a:Option W) (G':Mem),s=⟨[some (.loc n),some (.dat (ratD t)),some (.loc G.length),b,a],G'⟩/\zDI G G.length (rT w (rubT w h rs t)) j G') ?_ ?_ ?_ ⟨none,none,_,rfl,zDI.nil⟩
 .rintro j s ⟨b,a,G',rfl,I⟩;exact I.1.get e.ll.top
 .rintro j y s A ⟨b,a,G',rfl,I⟩;obtain⟨q,m,rfl,B⟩:=(e.keep I.1).at' A;refine⟨_,rfl,?_⟩;dsimp only;(walk_at "s");refine zAI (zEE (zGQ (as:=List.range w) (u:=λi=>ratD (qT w h rs j i)) (v:=λi=>ratD (1 - qT w h rs j i*t)) (zAz (zAP rfl ⟨m,rfl,rfl⟩)) B rfl (by rw[zDX];omega) (λi c=>?_) (zAn ?_)))
  .have g:=zEt f q (mem_range.mp c);show EvP (evM GL2 D24 _ ⟨[some (.loc n),some (.dat (ratD t)),some (.loc G.length),some (.loc m),a,some (.dat (ratD (qT w h rs j i)))],G'⟩) _;(walk_at "m");refine h52 _ t 600000 80 _ g d (by decide) ?_;(walk_at "m");refine h51 1 _ 1 600081 _ zBd ((zAj g d).mono (by decide)) (by decide) ?_;(walk_at "m")
   rfl
  (walk_at "s");obtain⟨o,z,D,x⟩:=(I.app (P:=[((List.range w).map λi=>ratD (1 - qT w h rs j i*t)).map W.dat])).snoc;refine zAI (zDG (zAP rfl (zGQ (as:=List.range w) (u:=λi=>ratD (1 - qT w h rs j i*t)) (v:=λi=>fmD (rubT w h rs t j i)) (zAz (zAP rfl ⟨_,rfl,rfl⟩)) zAO rfl (by rw[zDX];omega) (λi c=>?_) ⟨_,_,rfl,zAT z,by rw[qy];omega,zAn (zA6 ⟨_,_,_,rfl,x⟩)⟩)));show EvP (evM GL2 D24 _ ⟨[some (.loc n),some (.dat (ratD t)),some (.loc G.length),some (.loc m),some (.loc G'.length),some (.dat (ratD (1 - qT w h rs j i*t)))],_⟩) _;(walk_at "m")
  rfl
 .rintro s ⟨b,a,G',rfl,k,o,R⟩;have ll:=e.len;simp only[qy,length_range] at ll;rw[qy,ll] at R;(walk_at "m");exact r _ _ o k R
noncomputable def mxT (A:Nat->Nat->Fm)(q:Nat->Nat->Rat):Nat->Nat->Fm:=λj i=>mx (A j i) (q j i)
def m65 {b1 b2:Nat}(r:Rw G n1 b1 l1 (mT w h A))(R2:Rw G n2 b2 l2 (tD w h λj i=>ratD (q j i)))(x:TB m w h A)(t:∀ j i,j < h->i < w->RB 600000 (q j i))(p:m+600000<=10000000)(E:w<=10)(C:h<=10)
  (z:∀ (G':Mem) (m:Nat) (l:Lp),Kq G G'->Rw G' m G.length l (mT w h (mxT A q))->Q (.loc m,G')):EvP (FM65 [.loc n1,.loc n2] G) Q:=by
 refine zBu rfl (by decide) ?_;unfold mb65;show EvP (evSs' GL2 D25 _ ⟨[some (.loc n1),some (.loc n2),none,none,none,none],G⟩) _;have b:∀ {G'},Kq G G'->drW G' (.loc n1)=some (.lst ((mT w h A).map .lst)):=λk=>(r.keep k).dr
 have f:∀ {G'},Kq G G'->drW G' (.loc n2)=some (.lst ((tD w h λj i=>ratD (q j i)).map .lst)):=λk=>(R2.keep k).dr
 have D1:=b (zAU (P:=[[]]));(walk_at "m");rw[qy,qy,length_range];(walk_at "m");refine⟨_,rfl,by omega,?_⟩;rw[toNat_natCast];refine zCc (s:=⟨_,_⟩) ((rngL 0 h).map .dat) (λj s=>∃ (e n a:Option W) (G':Mem),s=⟨[some (.loc n1),some (.loc n2),some (.loc G.length),e,n,a],G'⟩/\zDI G G.length (rT w (mxT A q)) j G') (λ_ _ _=>rfl) ?_ ?_ ⟨none,none,none,_,rfl,zDI.nil⟩
 .rintro j y s g ⟨e,n,a,G',rfl,I⟩;obtain⟨rfl,c⟩:=idx g;refine⟨_,rfl,?_⟩;dsimp only;(walk_at "s");have D2:=b (I.1.app (P:=[[]]));(walk_at "m");refine zAo (zSK c) ?_;(walk_at "m");rw[qy,length_range];refine⟨_,rfl,by omega,?_⟩;rw[toNat_natCast];refine zCc (s:=⟨_,_⟩) ((rngL 0 w).map .dat) (λi s=>∃ (a:Option W),s=⟨[some (.loc n1),some (.loc n2),some (.loc G.length),some (.dat (.int (j:Int))),some (.loc G'.length),a],G'++[((List.range i).map λi=>fmD (mxT A q j i)).map W.dat]⟩) (λ_ _ _=>rfl) ?_ ?_ ⟨a,rfl⟩
  .rintro i y s g ⟨a,rfl⟩;obtain⟨rfl,d⟩:=idx g;refine⟨_,rfl,?_⟩;dsimp only;(walk_at "s");have F:=b (I.1.app (P:=[((List.range i).map λi=>fmD (mxT A q j i)).map W.dat]));have B:=f (I.1.app (P:=[((List.range i).map λi=>fmD (mxT A q j i)).map W.dat]));(walk_at "m");refine zAo (zSK c) ?_;(walk_at "m");refine zAo ((zAv (by rw[getElem?_map,getElem?_range d];rfl))) ?_;(walk_at "m");refine zAo (zMD c) ?_;(walk_at "m");refine zAo (r_at d) ?_;(walk_at "m");refine h56 _ _ m 600000 _ (x.b j i c d) (t j i c d) p ?_;(walk_at "m");refine⟨_,_,rfl,zAO,by simp;omega,?_⟩;(walk_at "m");exact⟨some (.dat _),by rw[zCr,zRZ,x8];rfl⟩
  .rintro s ⟨a,rfl⟩;rw[nrng];obtain⟨o,v,D,u⟩:=I.snoc;(walk_at "m");exact⟨_,_,rfl,zAT v,by rw[qy];omega,zAn (zA6 ⟨_,_,_,_,rfl,u⟩)⟩
 .rintro s ⟨e,n,a,G',rfl,k,o,R⟩;rw[nrng] at R;(walk_at "m");exact z _ _ o k R
def zSZ (f:Fm):jn f clr=f:=by
 unfold jn clr;cases f;simp only[Fm.mk.injEq];refine⟨?_,?_,?_,?_,?_⟩<;>grind
def zOF (f:Fm):mx f 1=f:=by
 unfold mx;cases f;simp only[Fm.mk.injEq];refine⟨?_,?_,?_,?_,?_⟩<;>grind
def zPY (f:Fm):mx f 0=clr:=by
 unfold mx clr;cases f;simp only[Fm.mk.injEq];refine⟨?_,?_,?_,?_,?_⟩<;>grind
def zUL (f:Fm)(s t:Rat):mx (mx f s) t=mx (mx f t) s:=by
 unfold mx;cases f;simp only[Fm.mk.injEq];refine⟨?_,?_,?_,?_,?_⟩<;>grind
def zSJ (e:∀ j i,j < h->i < w->A j i=s j i):mT w h A=mT w h s:=zRN λj i b a=>by rw[e j i b a]
def TB.mx (c:TB m w h A)(hq:∀ j i,j < h->i < w->RB 600000 (q j i)):TB (m+1200003) w h (mxT A q):=⟨λj i b a=>(zUv (c.b j i b a) (hq j i b a)).mono (by omega)⟩
abbrev cT (T:List (List Rat)) (j i:Nat):Rat:=cov ((T.getD j []).getD i 0)
def TabR.get (f:TabR w h rs T)(c:j < h):(T.getD j []).length=w/\∀ q∈T.getD j [],RB 600000 q:=by
 obtain⟨⟨b,a⟩,_⟩:=f;rw[getD_eq_getElem?_getD,getElem?_eq_getElem (by omega)];exact a _ (getElem_mem (by omega))
theorem TabR.tD (f:TabR w h rs T):T.map (List.map λq=>ratD (cov q))=tD w h λj i=>ratD (cT T j i):=by
 rw[zC7 f.1.1];exact map_congr_left λj m=>zC7 (f.get (mem_range.mp m)).1
def TabR.rb (f:TabR w h rs T)(a:j < h)(b:i < w):RB 600000 (cT T j i):=by
 obtain⟨e,r⟩:=f.get a;refine zGn ?_ (by decide);rw[getD_eq_getElem?_getD,getElem?_eq_getElem (by omega)];exact r _ (getElem_mem (by omega))
abbrev zDO (a:Nat) (o:W):W:=.obj "Masked" ["shape","layer"] [.loc a,o]
noncomputable def mbM (ix:List (Str×Nat)):MT:=.cons (.ret (.call 5 "put_together" (.cons (.mth ix "films" (.fld (.var 0) "layer") (.cons (.var 1) (.cons (.var 2) .nil))) (.cons (.call 6 "covers" (.cons (.var 1) (.cons (.var 2) (.cons (.fld (.var 0) "shape") .nil)))) (.cons (.pur (.glob 6 "mixed")) .nil))))) .nil
def zPe (C:U[5]?=some (("put_together":Str),FM41))(t:U[6]?=some (("covers":Str),FM42))(d:Disp U ix o w h G A)(ok:TabR w h rs T)(R:Rw G a b l (rs.map λps=>ps.map ptD))(z:TB m w h A)(M:m+600000<=10000000)(p:w<=10)(g:h<=10) :
  flK (zAi 3 3 (evSs' GL2 U (mbM ix))) (zDO a o) w h G (mxT A (cT T)):=λQ x=>by
 refine zBu rfl (by decide) ?_;unfold mbM;show EvP (evSs' GL2 U _ ⟨[some (zDO a o),some (.dat (.int (w:Int))),some (.dat (.int (h:Int)))],G⟩) _;obtain⟨c,n,y,F,s,v,d3,E,u⟩:=d;refine zAI (zBz (zBK C (zAK (zPi (zHP (zAP rfl ⟨_,_,_,_,rfl,by decide,rfl,c,n,y,F,s,v,d3,E,zAK (zAP rfl (zAK (zAP rfl (zA4 ?_))))⟩))))));refine u _ λO7 L N e B=>?_
 refine zAK (zBK t (zAK (zAP rfl (zAK (zAP rfl (zAK (zHP (zAP rfl ⟨_,_,_,_,rfl,by decide,rfl,zA4 ?_⟩))))))));refine m42 ok p g (R.keep e).shape λP O I R2=>?_
 refine zAK (zBC rfl (zCE (d:=.fn 19 "mixed") rfl (zBb rfl (zA4 ?_))));rw[ok.tD] at R2;refine zRg (F:=F19) (d3:=λj i=>fmD (mxT A (cT T) j i)) rfl (B.keep zAU) R2 p g (λj i f r Q q=>h19 _ _ m 600000 _ (z.b j i f r) (ok.rb f r) (by omega) q) (λ_ _=>rfl) λO8 K J D H=>zDh (x _ _ _ (e.app.trans D) (H.below (e.app.le)))
def Disp.ext (d:Disp U ix o w h G A)(e:∀ j i,j < h->i < w->A j i=s j i):Disp U ix o w h G s:=by
 obtain⟨c,n,y,F,f,a,g,p,b⟩:=d;exact⟨c,n,y,F,f,a,g,p,λQ q=>b Q λG' m l k R=>q G' m l k (by rw[<- zSJ e];exact R)⟩
abbrev ix0:List (Str×Nat):=[("Fill",13),("Rub",14)]
def Disp.up (d:Disp D14 ix0 o w h G A)(h1:ix.lookup ("Fill":Str)=some 13)(h2:ix.lookup ("Rub":Str)=some 14)(j:U[13]?=D14[13]?)(i:U[14]?=D14[14]?):Disp U ix o w h G A:=by
 obtain⟨c,n,y,F,f,a,e,g,b⟩:=d;simp only[lookup_cons,List.lookup_nil] at a;split at a
 .rename_i z;cases a;obtain rfl:c = "Fill":=by simpa using z
  exact⟨_,13,y,F,f,h1,j.trans e,g,b⟩
 split at a
 .rename_i z;cases a;obtain rfl:c = "Rub":=by simpa using z
  exact⟨_,14,y,F,f,h2,i.trans e,g,b⟩
 .cases a
def mkd (e:ix'.lookup ("Masked":Str)=some n)(i:U'[n]?=some (("Masked.films":Str),zAi 3 3 (evSs' GL2 U (mbM ix))))(j:U[5]?=some (("put_together":Str),FM41))(g:U[6]?=some (("covers":Str),FM42))(d:Disp U ix o w h G A)(ok:TabR w h rs T)(R:Rw G a b l (rs.map λps=>ps.map ptD))(p:TB m w h A)(f:m+600000<=10000000)(k:w<=10)(c:h<=10) :
  Disp U' ix' (zDO a o) w h G (mxT A (cT T)):=⟨_,n,_,_,rfl,e,i,by decide +kernel,zPe j g d ok R p f k c⟩
def gJ (b:FB m f)(a:RB 80 t)(l:m+80<=10000000)(q:Q (fmD (mx f t),.cl)):EvP (FL2 [fmD f,.obj "Join" ["strength"] [ratD t]]) Q:=by
 refine zKd rfl rfl ?_;show EvP (evE GL1 lb2 [some (fmD f,false),some (.obj "Join" ["strength"] [ratD t],false)]) _;unfold lb2;refine zAL rfl (zAH (zAJ rfl (n_cl (zAH (zOS (zAJ rfl ⟨_,_,_,_,rfl,by decide,rfl,n_cl (zAs ?_)⟩))))));exact h19 f t m 80 _ b a l (n_cl q)
def jnd {ΔJ ΔF:Dm}(t:ix'.lookup ("Join":Str)=some n)(s:U'[n]?=some (("Join.films":Str),lamM FM40 2 L2 [0] 3 3 (zF4 GL2 ΔJ .nil) (evM GL2 ΔJ (meJ nJ))))(u:ΔJ[nJ]?=some (("joined_films":Str),zAi 3 5 (evSs' GL2 ΔF (mbJ ixF))))(x:ΔF[8]?=some (("clear_films":Str),FM44))(v:ΔF[5]?=some (("put_together":Str),FM41))(z:G[a]?=some [o])(p:∀ G',Kq G G'->Disp ΔF ixF o w h G' A)(c:TB m w h A)(C:3*m+100<=10000000)(l:w<=10)(b:h<=10) :
  Disp U' ix' (objW "Join" a 1) w h G A:=by
 have d:Disp U' ix' (objW "Join" a 1) w h G λj i=>mx (aT (λ_=>A) 1 j i) 1:=by
  refine⟨_,n,_,_,rfl,t,s,by decide +kernel,zUY (g:=λf=>mx f 1) u (by decide +kernel) (FL:=FL2) rfl (λj i y r Q q=>gJ (m:=m+m+3) ?_ (zBd.mono (by decide)) (by omega) q) l b λQ q=>zUZ (os:=[o]) (A:=λ_=>A) (m:=m) x v z (λk D e G' B=>?_) (λk _=>c) (by show m+(1+1*(2*m+1))<=_;omega) l b q⟩
  .exact ((aT_b (A:=λ_=>A) (N:=1) (λk _=>c) 1 (le_refl _)).b j i y r).mono (by omega)
  .match k,e with
   | 0,e=>cases e;exact p G' B
   | k+1,e=>cases e
 exact d.ext λj i _ _=>by
  rw[zOF];exact zSZ _
def zUS (e:Rw G n b l rows)(f:rows.length<=100)(d:∀ ds∈rows,noLs ds=true)(c:∀ (P:Mem) (m:Nat) (l':Lp),Rw (G++P) m G.length l' rows->Q (zDO m o,G++P)):EvP (zCm [.loc n,o] G) Q:=by
 refine zFu rfl rfl ?_;show EvP (zD2 [("shape",evM GL2 D10 (.call 3 "own_shape" (.cons (.var 1) .nil))),("layer",evM GL2 D10 (.var 2))] ⟨[none,some (.loc n),some o],G⟩) _;refine zCA (zBK (F:=FM38) rfl (zAK (zAP rfl (zA4 ?_))));refine m38 e f d λP m l' a=>?_
 exact zCA (zAP rfl (zIC (c P m l' a)))
def lfT (c:Int)(rs:List (List Pt))(t:Rat)(r g b:Int)(w h j i:Nat):Fm:=if c.fmod 2=1 then rubT w h rs t j i else zGj w h rs t r g b j i
def zKc (f:Fl w h rs)(d:RB 80 t)(h1:I255 r)(h2:I255 g)(h3:I255 b):TB 600100 w h (lfT c rs t r g b w h):=by
 have a:=zTK f d h1 h2 h3;have b:=zUB f d;exact⟨λj i k e=>by unfold lfT;split;exact b.b j i k e;exact a.b j i k e⟩
def m67 {b0:Nat}(f:Fl w h rs)(d:RB 80 t)(h1:I255 r)(h2:I255 g)(h3:I255 b)(e:Rw G n b0 l (qD w h rs))(a:∀ (G':Mem) (m:Nat) (l':Lp),Kq G G'->Rw G' m G.length l' (mT w h (lfT c rs t r g b w h))->Q (.loc m,G')):EvP (FM67 [.dat (.int c),.dat (inkD r g b),.dat (ratD t),.loc n] G) Q:=by
 refine zBu rfl (by decide) ?_;unfold mb67;show EvP (evSs' GL2 D27 _ ⟨[some (.dat (.int c)),some (.dat (inkD r g b)),some (.dat (ratD t)),some (.loc n)],G⟩) _;(walk_at "m");by_cases z:c.fmod 2=1
 .rw [show lfT c rs t r g b w h=rubT w h rs t from funext λj=>funext λi=>if_pos z] at a;refine⟨λ_=>?_,λy=>absurd z (by simpa using y)⟩;(walk_at "m");exact m63 f d e λG' m l' k R=>zDh (a G' m l' k R)
 .rw [show lfT c rs t r g b w h=zGj w h rs t r g b from funext λj=>funext λi=>if_neg z] at a;refine⟨λy=>absurd (by simpa using y) z,λ_=>?_⟩;(walk_at "m");exact m62 f d h1 h2 h3 e λG' m l' k R=>zDh (a G' m l' k R)
def Leaf (G:Mem)(o:W)(c:Int)(rs:List (List Pt))(t:Rat)(r g b:Int):Prop:=∀ w h,Fl w h rs->∀ G',Kq G G'->Disp D14 ix0 o w h G' (lfT c rs t r g b w h)
def zSQ {b0:Nat}(z:¬ c.fmod 2=1)(d:RB 80 t)(h1:I255 r)(h2:I255 g)(h3:I255 b)(R:Rw G a b0 l (rs.map λps=>ps.map ptD)):Leaf G (zK8 a (inkD r g b) t) c rs t r g b:=λw h f e k=>by
 rw[show lfT c rs t r g b w h=zGj w h rs t r g b from funext λj=>funext λi=>if_neg z];exact⟨_,13,_,_,rfl,rfl,rfl,by decide +kernel,zUX f d h1 h2 h3 (R.keep k).shape⟩
def zSP {b0:Nat}(z:c.fmod 2=1)(d:RB 80 t)(R:Rw G a b0 l (rs.map λps=>ps.map ptD)):Leaf G (rubW a t) c rs t r g b:=λw h f e k=>by
 rw[show lfT c rs t r g b w h=rubT w h rs t from funext λj=>funext λi=>if_pos z];exact⟨_,14,_,_,rfl,rfl,rfl,by decide +kernel,kRub f d (R.keep k).shape⟩
def Leaf.keep {μ2:Mem}(L:Leaf G o c rs t r g b)(k:Kq G μ2):Leaf μ2 o c rs t r g b:=λw h f a d=>L w h f a (k.trans d)
def cmap (X:Nat->W->Mem->Prop)(mono:∀ {k x G G'},Kq G G'->X k x G->X k x G')(B:EvP (evSrc J U src ⟨O,G⟩) λr=>r=(.live n,G))(p:G[n]?=some ws)(F:(mask none ms O).length=N)(K:ws.length<=100)
  (H:∀ j x G',ws[j]?=some x->Kq G G'->EvP (evM J U el ⟨mask none ms O++[some x],G'⟩) λr=>Kq G' r.2/\X j r.1 r.2) (z:∀ G' d,Kq G G'->d.length=ws.length->(∀ k x,d[k]?=some x->X k x G')->Q (.loc G'.length,G'++[d])):EvP (evM J U (.comp N ms nm src el) ⟨O,G⟩) Q:=by
 obtain⟨r,D,rfl⟩:=B;refine zEQ ⟨_,D,?_⟩;obtain⟨y,I,M,m,⟨o,L,E,u,l⟩,p4⟩:=zEg (t:=tgM N) (e:=evM J U el) (src:=.live n) (s:=⟨mask none ms O++[none],G⟩) ws (λj s d=>∃ o:Option W,s.O=mask none ms O++[o]/\Kq G s.G/\d.length=j/\∀ k x,d[k]?=some x->X k x s.G) (λj s d a=>by obtain⟨o,_,k,_⟩:=a;exact k.get p) (λj w s d h b=>by
   obtain⟨o,A,g,i,v⟩:=b;have P:=(zzg h).1;obtain⟨r,q,f,C⟩:=H j w s.G h g;refine⟨by omega,⟨mask none ms O++[some w],s.G⟩,r,?_,q,_,rfl,g.trans f,by rw[qQ,i];rfl,λk x e=>?_⟩
   .unfold tgM;rw[A,set_append_right _ _ (by omega),F,sub_self]
    rfl
   .by_cases hk:k < d.length
    .rw [getElem?_append_left hk] at e;exact mono f (v k x e)
    .rw [getElem?_append_right (by omega)] at e;have c:k - d.length=0:=by have:=(zzg e).1;simpa using this
     rw[c] at e;cases e;rw[show k=j by omega];exact C) ⟨none,rfl,zKf,rfl,λk x e=>by simp at e⟩
 refine⟨y,M,m,by omega,?_⟩;rw[<- p4];exact z _ _ E u l
abbrev ixL:List (Str×Nat):=[("Fill",13),("Rub",14),("Masked",21),("Join",20)]
abbrev ix2:List (Str×Nat):=[("Fill",13),("Rub",14),("Masked",18),("Join",20)]
abbrev ix1:List (Str×Nat):=[("Fill",13),("Rub",14),("Masked",15),("Join",17)]
abbrev jx1:List (Str×Nat):=[("Fill",13),("Rub",14),("Masked",18),("Join",17)]
abbrev jx0:List (Str×Nat):=[("Fill",13),("Rub",14),("Masked",15)]
def zFp (c:drW G w1=some d1)(a:drW G w2=some d2)(h:EvP (F [d1,d2]) λr=>EvP (zD5 r G) Q):EvP (zKb F [w1,w2] G) Q:=by
 obtain⟨r,g,z,b,q⟩:=h;refine⟨z,?_,q⟩;unfold zKb;have e:sbL (drN G 6) [w1,w2]=some [d1,d2]:=by
  have f:sbW (drN G 6) w1=some d1:=c;have d:sbW (drN G 6) w2=some d2:=a;rw[sbL,f,qx,sbL,d,qx,sbL]
  rfl
 rw[e,qx,g,qx];exact b
def Shp (rs:List (List Pt))(x:W)(G:Mem):Prop:=rs.length<=2/\(∀ ps∈rs,Six ps)/\∃ n b l,x=.loc n/\Rw G n b l (rs.map λps=>ps.map ptD)
def Shp.keep (k:Kq G G'):Shp rs x G->Shp rs x G':=λzy139=>by obtain⟨a,b,n,c,l,e,R⟩:=zy139;exact⟨a,b,n,c,l,e,R.keep k⟩
def Tb (d:Nat->Nat->D)(w h:Nat)(x:W)(G:Mem):Prop:=∃ n b l,x=.loc n/\Rw G n b l (tD w h d)
def Tb.keep (k:Kq G G'):Tb d w h x G->Tb d w h x G':=λzy140=>by obtain⟨n,c,l,e,R⟩:=zy140;exact⟨n,c,l,e,R.keep k⟩
def zPl {T:Type}{d:List T}(h:d.length=3):∃ a b c,d=[a,b,c]:=by
 match d,h with
 | [a,b,c],_=>exact⟨a,b,c,rfl⟩
def shps {U:Dm}{nm:Str}{N n w h:Nat}{m:List Nat}{src a b:ME}{O:List (Option W)}{G:Mem}{x0 x1 x2:Int}{Q:MR->Prop}(o:U[22]?=some (("_law_shape":Str),FM59))(i:EvP (evSrc GL2 U src ⟨O,G⟩) λr=>r=(.live n,G))(q:G[n]?=some [.dat (.int x0),.dat (.int x1),.dat (.int x2)])(A:(mask none m O).length=N)(u:w<=10)(v:h<=10)
  (p:∀ {x G'} {Q:List W×Mem->Prop},Q ([x,.dat (.int (w:Int)),.dat (.int (h:Int))],G')->EvP (evMs GL2 U (.cons (.var N) (.cons a (.cons b .nil))) ⟨mask none m O++[some x],G'⟩) Q)
  (z:∀ G' rs0 rs1 rs2 s0 s1 s2,Kq G G'->Shp rs0 s0 G'->Shp rs1 s1 G'->Shp rs2 s2 G'->Q (.loc G'.length,G'++[[s0,s1,s2]])):EvP (evM GL2 U (.comp N m nm src (.call 22 "_law_shape" (.cons (.var N) (.cons a (.cons b .nil))))) ⟨O,G⟩) Q:=by
 refine cmap (λ_ x G=>∃ g,Shp g x G) (λk f=>by obtain⟨g,s⟩:=f;exact⟨g,s.keep k⟩) i q A (by show 3<=100;decide) (λj x G' t k=>?_) λG' d k l X=>?_
 .have e:∃ y:Int,x=.dat (.int y):=by
   match j,t with
   | 0,e=>cases e;exact⟨_,rfl⟩
   | 1,e=>cases e;exact⟨_,rfl⟩
   | 2,e=>cases e;exact⟨_,rfl⟩
   | _+3,e=>cases e
  obtain⟨y,rfl⟩:=e;refine zBK o (p ?_);exact m59 y w h u v G' _ fun μ2 n l g k2 R lr i=>⟨k2,g,lr,i,n,_,l,rfl,R⟩
 .obtain ⟨s0,s1,s2,rfl⟩:=zPl l;obtain⟨_,a⟩:=X 0 s0 rfl;obtain⟨_,b⟩:=X 1 s1 rfl;obtain⟨_,c⟩:=X 2 s2 rfl;exact z _ _ _ _ _ _ _ k a b c
def covs (g:U[23]?=some (("_law_covers":Str),FM60))(v:EvP (evSrc GL2 U src ⟨O,G⟩) λr=>r=(.live n,G))(t:G[n]?=some [s0,s1,s2])(q:(mask none ms O).length=N)(y:Shp rs0 s0 G)(z:Shp rs1 s1 G)(m:Shp rs2 s2 G)(B:Fl w h rs0)(A:Fl w h rs1)(u:Fl w h rs2)
  (C:∀ {x G'} {Q:List W×Mem->Prop},Q ([.dat (.int (w:Int)),.dat (.int (h:Int)),x],G')->EvP (evMs GL2 U (.cons a (.cons b (.cons (.var N) .nil))) ⟨mask none ms O++[some x],G'⟩) Q)
  (o:∀ G' c0 c1 c2,Kq G G'->Tb (λj i=>ratD (qT w h rs0 j i)) w h c0 G'->Tb (λj i=>ratD (qT w h rs1 j i)) w h c1 G'->Tb (λj i=>ratD (qT w h rs2 j i)) w h c2 G'->Q (.loc G'.length,G'++[[c0,c1,c2]])):EvP (evM GL2 U (.comp N ms nm src (.call 23 "_law_covers" (.cons a (.cons b (.cons (.var N) .nil))))) ⟨O,G⟩) Q:=by
 refine cmap (λk x G=>Tb (λj i=>ratD (qT w h (([rs0,rs1,rs2][k]?).getD []) j i)) w h x G) (λk=>Tb.keep k) v t q (by show 3<=100;decide) (λj x G' p k=>?_) λG' d k l X=>?_
 .have e:∃ c,([rs0,rs1,rs2][j]?).getD []=c/\Shp c x G'/\Fl w h c:=by
   match j,p with
   | 0,e=>cases e;exact⟨_,rfl,y.keep k,B⟩
   | 1,e=>cases e;exact⟨_,rfl,z.keep k,A⟩
   | 2,e=>cases e;exact⟨_,rfl,m.keep k,u⟩
   | _+3,e=>cases e
  obtain⟨c,s,⟨_,_,n,b,l,rfl,R⟩,f⟩:=e;rw[s];refine zBK g (C ?_);exact m60 f R fun μ2 n l k2 R=>⟨k2,n,_,l,rfl,R⟩
 .obtain ⟨c0,c1,c2,rfl⟩:=zPl l;exact o _ _ _ _ k (X 0 c0 rfl) (X 1 c1 rfl) (X 2 c2 rfl)
abbrev ptR (rs:List (List Pt)):List (List D):=rs.map λps=>ps.map ptD
def zDZ (h:rs.length<=2):(ptR rs).length<=100:=by rw[qy];omega
def mK (e:Rw G n b l (ptR rs))(c:rs.length<=2)(a:∀ (G':Mem) (m:Nat) (l':Lp),Kq G G'->Rw G' m G.length l' (ptR rs)->Q (zDO m o,G')):EvP (zCm [.loc n,o] G) Q:=zUS e (zDZ c) zCs λP m l' R=>a _ m l' zAU R
def mJ (e:G[n]?=some ws)(b:∀ (G':Mem) (a:Nat),Kq G G'->G'[a]?=some ws->Q (objW "Join" a 1,G')):EvP (zDp [.loc n,.dat .non] G) Q:=zUT e (.inl ⟨rfl,rfl⟩) (b _ _ zAU zAO)
def m69 (e:G[nd]?=some [.dat (.int x0),.dat (.int x1),.dat (.int x2)])(ht:RB 80 t)(h1:I255 r)(h2:I255 g)(h3:I255 b)(hQ:∀ G',Kq G G'->Q (.dat (.bl true),G')):EvP (FM69 [.loc nd,.dat (.int c),.dat (inkD r g b),.dat (ratD t)] G) Q:=by
 refine zBu rfl (by decide) ?_;unfold mb69;show EvP (evSs' GL2 D29 _ ⟨[some (.loc nd),some (.dat (.int c)),some (.dat (inkD r g b)),some (.dat (ratD t)),none,none,none,none,none,none],G⟩) _;refine zAI (zEE (shps (w:=7) (h:=6) rfl (zAz (zAP rfl ⟨nd,rfl,rfl⟩)) e rfl (by decide) (by decide) (λq=>?_) λO7 s J a9 V S T k1 F B x=>?_))
 ·(walk_at "m");exact q
 (walk_at "m");have F:=F.keep (zAU (P:=[[V,S,T]]));have B:=B.keep (zAU (P:=[[V,S,T]]));have x:=x.keep (zAU (P:=[[V,S,T]]));have a:=zAO (G:=O7) (ws:=[V,S,T]);have k1:Kq G (O7++[[V,S,T]]):=k1.app;generalize O7.length=n4 at a;generalize O7++[[V,S,T]]=μ2 at *;have p:Fl 7 6 s:=⟨by decide,by decide,by decide,by decide,F.1,F.2.1⟩;have O:Fl 7 6 J:=⟨by decide,by decide,by decide,by decide,B.1,B.2.1⟩;have f2:Fl 7 6 a9:=⟨by decide,by decide,by decide,by decide,x.1,x.2.1⟩;refine(covs (w:=7) (h:=6) rfl (zAz (zAP rfl ⟨n4,rfl,rfl⟩)) a rfl F B x p O f2 (λq=>?_) λO8 c0 I K d C0 C1 C2=>?_)
 ·(walk_at "m");exact q
 (walk_at "m");have C0:=C0.keep (zAU (P:=[[c0,I,K]]));have C1:=C1.keep (zAU (P:=[[c0,I,K]]));have C2:=C2.keep (zAU (P:=[[c0,I,K]]));have X:=zAO (G:=O8) (ws:=[c0,I,K]);have d:Kq μ2 (O8++[[c0,I,K]]):=d.app;have a:=d.get a;have k1:Kq G (O8++[[c0,I,K]]):=k1.trans d;generalize O8.length=n5 at X;obtain⟨_,_,a0,b0,l0,rfl,R0⟩:=F.keep d;obtain⟨_,_,a1,b1,l1,rfl,R1⟩:=B.keep d;obtain⟨_,_,a2,b2,l2,rfl,R2⟩:=x.keep d;clear d F B x;generalize O8++[[c0,I,K]]=Y8 at *;obtain⟨d0,b3,l3,rfl,T0⟩:=C0;obtain⟨d1,b4,l4,rfl,T1⟩:=C1;obtain⟨d2,b5,l5,rfl,T2⟩:=C2;have q0:=(λ{j i} hj Y=>zEt (j:=j) (i:=i) p hj Y);have f:=(λj i hj Y=>zEt (j:=j) (i:=i) O hj Y);have q2:=(λj i hj Y=>zEt (j:=j) (i:=i) f2 hj Y);have k:=zKc (c:=c) p ht h1 h2 h3;have b6:∀ (o:W) (Gx:Mem),Kq Y8 Gx->Leaf Gx o c s t r g b->EvP (evSs' GL2 D29 (mtl 4 mb69) ⟨[some (.loc nd),some (.dat (.int c)),some (.dat (inkD r g b)),some (.dat (ratD t)),some (.loc n4),some (.loc n5),some o,none,none,none],Gx⟩) (KFM Q):=by
  intro o Gx kx L;dsimp only[mtl,mb69];(walk_at "m");refine zAr (kx.get a) rfl ?_;(walk_at "m");refine mK (R1.keep kx) O.rl λGa m1 g4 ka M1=>?_
  (walk_at "m");refine mJ zAO λGb j1 kb E1=>?_
  have a8:Kq Ga Gb:=zAU.trans kb;have Z:Kq Gx Gb:=ka.trans a8;have H:Kq Y8 Gb:=kx.trans Z;(walk_at "m");refine zAr (H.get a) rfl ?_;(walk_at "m");refine mK (R2.keep H) f2.rl λGc m2 g2 kc M2=>?_
  (walk_at "m");refine mJ zAO λGd j2 kd E2=>?_
  have a6:Kq Gc Gd:=zAU.trans kd;have a4:Kq Gb Gd:=kc.trans a6;have A:Kq Y8 Gd:=H.trans a4;(walk_at "m");refine zAr (A.get X) rfl ?_;(walk_at "m");refine m67 p ht h1 h2 h3 (T0.keep A) λGe n6 l6 ke F0=>?_
  (walk_at "m");have N:=A.trans ke;refine zAr (N.get X) rfl ?_;(walk_at "m");refine m65 F0 (T1.keep N) k f (by decide) (by decide) (by decide) λGf n7 l7 kf F1=>?_
  (walk_at "m");have u:=N.trans kf;refine zAr (u.get X) rfl ?_;(walk_at "m");refine m65 F1 (T2.keep u) (k.mx f) q2 (by decide) (by decide) (by decide) λGg n8 l8 kg F2=>?_
  (walk_at "m");have C:=u.trans kg;refine zAr (C.get a) rfl ?_;(walk_at "m");refine mK (R1.keep C) O.rl λGh m3 h8 kh M3=>?_
  have v:Kq Gd Gh:=((ke.trans kf).trans kg).trans kh;have E:=a4.trans v;have D:Disp D29 ixL (zDO m3 (objW "Join" j2 1)) 7 6 Gh (mxT (mxT (mxT (lfT c s t r g b 7 6) (qT 7 6 J)) (qT 7 6 a9)) (qT 7 6 J)) :=
   mkd (U:=D20) (ix:=ix2) (n:=21) rfl rfl rfl rfl (jnd (n:=20) (ΔJ:=D19) (nJ:=19) (ΔF:=D18) (ixF:=jx1) rfl rfl rfl rfl rfl (v.get E2) (λGy ky=>mkd (U:=D17) (ix:=ix1) (n:=18) rfl rfl rfl rfl (jnd (n:=17) (ΔJ:=D16) (nJ:=16) (ΔF:=D15) (ixF:=jx0) rfl rfl rfl rfl rfl ((E.trans ky).get E1) (λGz kz=>mkd (U:=D14) (ix:=ix0) (n:=15) rfl rfl rfl rfl (L 7 6 p Gz ((Z.trans (E.trans ky)).trans kz)) (zBM O) (M1.keep ((a8.trans (E.trans ky)).trans kz)) k (by decide) (by decide) (by decide)) (k.mx f) (by decide) (by decide) (by decide)) (zBM f2) (M2.keep ((a6.trans v).trans ky)) (k.mx f) (by decide) (by decide) (by decide)) ((k.mx f).mx q2) (by decide) (by decide) (by decide)) (zBM O) M3 ((k.mx f).mx q2) (by decide) (by decide) (by decide)
  obtain⟨c',n',y',F',d8,d9,d7,d3,c5⟩:=D;refine⟨c',n',y',F',d8,d9,d7,d3,?_⟩;(walk_at "m");refine c5 _ λGi n9 l9 ki F9=>?_
  (walk_at "m");have M:=(C.trans kh).trans ki;refine zAr (M.get X) rfl ?_;(walk_at "m");refine m65 (F2.keep (kh.trans ki)) (T1.keep M) ((k.mx f).mx q2) f (by decide) (by decide) (by decide) λGj nA lA kj F3=>?_
  (walk_at "m");refine zFp (F9.keep kj).dr F3.dr ?_;refine zCD (by decide) (by decide) ?_;(walk_at "m");exact hQ _ (k1.trans (M.trans kj))
 refine zAr a rfl ?_;(walk_at "m");refine zSL R0 (zDZ p.rl) zCs (.inr rfl) λP m l R=>?_
 (walk_at "m");by_cases z:c.fmod 2=1
 .refine ⟨λ_=>?_,λy=>absurd z (by simpa using y)⟩;(walk_at "m");refine zAr (zAT a) rfl ?_;(walk_at "m");refine mRub (R0.keep zAU) (zDZ p.rl) zCs (.inr rfl) λU7 m' l' R'=>zAn (zA6 (zAn ?_))
  exact b6 _ _ zAU.app (zSP z ht R')
 .refine ⟨λy=>absurd (by simpa using y) z,λ_=>?_⟩;exact zA6 (zAn (b6 _ _ zAU (zSQ z ht h1 h2 h3 R)))
structure CE (G:Gm) where
 C:Gm
 le:GLe C G
def CE.a {G:Gm}{x:Str}{np nN:Nat}{b:S}(c:CE G):CE (G.add x (dFun np nN (evSs G b))):=⟨c.C.ad x (dFun np nN (cvSs c.C b)),zHY c.le (zE9 c.le b)⟩
noncomputable def CE.n {G:Gm}{x:Str}{F:List D->Option R}(c:CE G):CE (G.add x F):=⟨c.C.ad x λ_=>none,zHY c.le zAB⟩
def CE.r {G G1:Gm}{x:Str}{np nN:Nat}{b:S}(c:CE G)(d:CE G1):CE (G.add x (dFun np nN (evSs G1 b))):=⟨c.C.ad x (dFun np nN (cvSs d.C b)),zHY c.le (zE9 d.le b)⟩
noncomputable def c0:CE G0:=⟨G0,rfl,rfl,λn x F e=>⟨F,e,zAh⟩⟩
def c11:CE G11:=.a (.a (.a (.a (.a (.a (.a (.a (.a (.a (.a c0))))))))))
def c21:CE G21:=.a (.n (.n (.n (.n (.n (.n (.n (.n (.n c11)))))))))
def c22:CE G22:=c21.r (c21.r c21.n)
def c36:CE G36:=.a (.n (.a (.a (.a (.a (.a (.a (.a (.a (.a (.a (.a (.a c22)))))))))))))
def c32:CE G32:=.a (.a (.a (.a (.a (.a (.a (.a (.a (.a c22)))))))))
def c35:CE G35:=.n (.a (.a c32))
def E35:List D->Option R:=dFun 3 6 (cvSs c35.C b35)
def E36:List D->Option R:=dFun 2 5 (cvSs c36.C b36)
def e36:Le E36 F36:=zE9 c36.le b36
def E32:List D->Option R:=dFun 1 1 (cvSs c32.C b32)
def c33:CE G33:=.a c32
def E33:List D->Option R:=dFun 1 2 (cvSs c33.C b33)
abbrev pI (x y:Int):Pt:=((x:Rat),(y:Rat))
noncomputable def boxR (w h:Int):List (List Pt):=[[pI (-1) (-1),pI (w+1) (-1),pI (w+1) (h+1),pI (-1) (h+1)]]
noncomputable def gt:Option R->D
 | some (d,.cl)=>d
 | _=>.non
def mkz (c r:Int)(x y:D):Pz:=⟨c,r,x,y,gt (E32 [.tup [.int c,.int r,x,y]]),gt (E33 [.tup [.int c,.int r,x,y]])⟩
noncomputable def pzOf:D->Pz
 | .tup [.int c,.int r,x,y]=>mkz c r x y
 | _=>mkz 0 0 .non .non
noncomputable def shR (s:Bool)(w h:Nat):List (List Pt):=cond s (boxR w h) []
noncomputable def zsR (s:Bool)(w h:Nat):List Pz:=match E35 [.int w,.int h,zBQ (shR s w h)] with
 | some (.lst ds,.fr)=>ds.map pzOf
 | _=>[]
noncomputable def isS:Option R->Bool
 | some (_,.cl)=>true
 | _=>false
theorem zOK:∀ {o:Option R},isS o=true->o=some (gt o,.cl)
 | some (_,.cl),_=>rfl
 | some (_,.fr),z=>nomatch z
 | some (_,.dt),z=>nomatch z
 | none,z=>nomatch z
def zs_f (hz:z∈zsR s w h):z.f=gt (E32 [z.d])/\z.g=gt (E33 [z.d]):=by
 unfold zsR at hz;split at hz
 .obtain ⟨d,_,rfl⟩:=mem_map.mp hz;unfold pzOf;split<;>exact⟨rfl,rfl⟩
 .cases hz
def okz (w h:Nat)(z:Pz):Bool:=decide (0<=z.r)&&decide (z.r < h)&&decide (-1<=z.c)&&decide (z.c < w)&&noL z.d&&noL z.f&&noL z.g&&isS (E32 [z.d])&&isS (E33 [z.d])
abbrev oz (s:Bool):Rat:=cond s 1 0
def flo {P:Nat->Nat->Prop}(h11:P 1 1)(h12:P 1 2)(h21:P 2 1)(h22:P 2 2)(h31:P 3 1)(h32:P 3 2)(a:1<=w/\w<=3)(b:1<=h/\h<=2):P w h:=by
 have c:w=1\/w=2\/w=3:=by omega
 have d:h=1\/h=2:=by omega
 rcases c with rfl | rfl | rfl<;>rcases d with rfl | rfl<;>assumption
noncomputable def T1 (s:Bool)(w h:Nat):List (List Rat):=(List.range h).map λ_=>(List.range w).map λ_=>oz s
def zR (s:Bool)(w h r:Nat):List D:=[.lst ((List.range (w+1)).map λc=>.lst (fc Pz.f (zsR s w h) r c)),.lst ((List.range (w+1)).map λc=>.lst (fc Pz.g (zsR s w h) r c))]
def xx (s:Bool){w h:Nat}(a:1<=w/\w<=3)(b:1<=h/\h<=2):E35 [.int w,.int h,zBQ (shR s w h)]=some (.lst ((zsR s w h).map Pz.d),.fr)/\(zsR s w h).all (okz w h)=true/\decide ((zsR s w h).length<=5000)=true/\E36 (zR s w h 0)=some (.lst (((T1 s w h).getD 0 []).map ratD),.fr)/\E36 (zR s w h (h - 1))=some (.lst (((T1 s w h).getD (h - 1) []).map ratD),.fr):=by
 cases s<;>revert a b<;>apply flo<;>exact⟨by kernel_rfl,by kernel_rfl,by kernel_rfl,by kernel_rfl,by kernel_rfl⟩
def zU3 (a:j < h):(T1 s w h).getD j []=(List.range w).map λ_=>oz s:=by
 unfold T1;rw[getD_eq_getElem?_getD,getElem?_map,getElem?_range a]
 rfl
def tabB (s:Bool)(a:1<=w/\w<=3)(b:1<=h/\h<=2):TabR w h (shR s w h) (T1 s w h):=by
 obtain⟨i,g,f,n,m⟩:=xx s a b;have ok:∀ z∈zsR s w h,okz w h z=true:=λz c=>all_eq_true.mp g z c
 simp only[okz,x9,qj] at ok;refine⟨⟨by simp[T1],λqs hq=>?_⟩,zsR s w h,by omega,by omega,of_decide_eq_true f,(zE9 c35.le b35) _ _ i,λz c=>?_,λz c=>?_,λz c=>?_,λr j=>?_,λr j=>?_⟩
 .obtain ⟨_,_,rfl⟩:=mem_map.mp hq;refine⟨by simp,λq k=>?_⟩;obtain⟨_,_,rfl⟩:=mem_map.mp k;cases s
  .exact zBB.mono (by decide)
  .exact zBd.mono (by decide)
 .obtain ⟨⟨⟨⟨⟨⟨⟨⟨e,l⟩,k3⟩,k4⟩,k5⟩,k6⟩,k7⟩,_⟩,_⟩:=ok z c;exact⟨e,l,k3,k4,k5,k6,k7⟩
 .rw [(zs_f c).1];exact (zE9 c32.le b32) _ _ (zOK (ok z c).1.2)
 .rw [(zs_f c).2];exact (zE9 c33.le b33) _ _ (zOK (ok z c).2)
 .rcases (show r=0\/r=h - 1 by omega) with rfl | rfl
  .exact e36 _ _ n
  .exact e36 _ _ m
 .refine zHM λd d=>?_
  obtain⟨_,_,rfl⟩:=mem_map.mp d
  rfl
def cT1 (a:j < h)(b:i < w):cT (T1 s w h) j i=oz s:=by
 show cov (((T1 s w h).getD j []).getD i 0)=_;rw[zU3 a,getD_eq_getElem?_getD,getElem?_map,getElem?_range b];show cov (oz s)=oz s;cases s<;>decide
def m66 {w h:Nat}{G:Mem}{Q:MR->Prop}(b:∀ (G':Mem) (n:Nat) (l:Lp),Kq G G'->Rw G' n G.length l (ptR (boxR w h))->Q (.loc n,G')):EvP (FM66 [.dat (.int (w:Int)),.dat (.int (h:Int))] G) Q:=by
 refine zBu rfl (by decide) ?_;unfold mb66;show EvP (evSs' GL2 D26 _ ⟨[some (.dat (.int (w:Int))),some (.dat (.int (h:Int))),none],G⟩) _;(walk_at "m");refine b _ _ [(G.length,(boxR w h).flatten.map ptD)] zAU.app ⟨⟨zAO,λp a=>?_⟩,λp a=>?_,by rw[qQ];omega,rfl⟩
 .rw [mem_singleton.mp a];exact zAT zAO
 .rw [mem_singleton.mp a];exact le_refl _
def zC2 (h:EvP (evM J U (.call n f es) s) λr=>r.1=.dat (.bl true)/\Q (false,r.2)):EvP (evT J U (.not (.call n f es)) s) Q:=by
 obtain⟨⟨x,m⟩,e,rfl,q⟩:=h;refine⟨_,?_,q⟩;show notB (asBM (evM J U (.call n f es))) s=_;unfold notB asBM;rw[e]
 rfl
def m68 {b0:Nat}(V:1<=w/\w<=3)(T:1<=h/\h<=2)(f:Fl w h rs)(ht:RB 80 t)(h1:I255 r)(h2:I255 g)(h3:I255 b)(L:Leaf G o c rs t r g b)(R:Rw G nf b0 l (mT w h (lfT c rs t r g b w h)))(hQ:∀ G',Kq G G'->Q (.dat (.bl true),G')):EvP (FM68 [o,.loc nf,.dat (.int (w:Int)),.dat (.int (h:Int))] G) Q:=by
 have B:=zKc (c:=c) f ht h1 h2 h3;refine zBu rfl (by decide) ?_;unfold mb68;show EvP (evSs' GL2 D28 _ ⟨[some o,some (.loc nf),some (.dat (.int (w:Int))),some (.dat (.int (h:Int))),none,none],G⟩) _;refine zAI (zEF (zC2 ?_));(walk_at "m");refine m66 λO7 n1 l1 k1 R1=>?_
 (walk_at "m");refine mK R1 (by show 1<=2;decide) fun μ2 m2 l2 k2 M2=>?_
 have E:=k1.trans k2;have D:Disp D28 ixL (zDO m2 o) w h μ2 (lfT c rs t r g b w h):=(mkd (U:=D20) (ix:=ix2) (n:=21) rfl rfl rfl rfl ((L w h f _ E).up rfl rfl rfl rfl) (tabB true V T) M2 B (by decide) (by omega) (by omega)).ext λj i K M=>by
  show mx _ (cT _ j i)=_;rw[cT1 K M];exact zOF _
 obtain⟨I,H,J,F,e,p,d,a,k⟩:=D;refine⟨I,H,J,F,e,p,d,a,?_⟩;(walk_at "m");refine k _ λO8 n3 l3 X F3=>?_
 (walk_at "m");have x:=E.trans X;refine zFp F3.dr (R.keep x).dr ?_;refine zCD (by omega) (by omega) ?_;(walk_at "m");refine⟨rfl,(λz=>nomatch z),λ_=>?_⟩;(walk_at "m");refine zDW (as:=List.range h) (u:=rT w (lfT c rs t r g b w h)) (v:=rT w λ_ _=>clr) (zAz (zAP rfl ⟨nf,rfl,rfl⟩)) (R.keep x) rfl (by rw[zDX];omega) (λP m j K Z=>?_) λP l' Y=>?_
 .show EvP (evM GL2 D28 _ ⟨[some o,some (.loc nf),some (.dat (.int (w:Int))),some (.dat (.int (h:Int))),some (.dat (ratD 0)),none,some (.loc m)],O8++P⟩) _;refine zGQ (as:=List.range w) (u:=λi=>fmD (lfT c rs t r g b w h j i)) (v:=λ_=>fmD clr) (zAz (zAP rfl ⟨m,rfl,rfl⟩)) Z rfl (by rw[zDX];omega) (λi M=>?_) rfl;show EvP (evM GL2 D28 _ ⟨[some o,some (.loc nf),some (.dat (.int (w:Int))),some (.dat (.int (h:Int))),some (.dat (ratD 0)),none,some (.loc m),some (.dat (fmD (lfT c rs t r g b w h j i)))],O8++P⟩) _;(walk_at "m")
  rfl
 have C:Kq G (O8++P):=x.app;have O:Rw (O8++P) (O8.length+(List.range h).length) O8.length l' (mT w h λ_ _=>clr):=Y;generalize O8.length+(List.range h).length=n5 at O;generalize O8++P=Y8 at C O;refine zAn ?_;(walk_at "s");refine zAI (zEF (zC2 ?_));(walk_at "m");refine mK (rs:=[]) (l:=[]) (b:=0) ⟨⟨zAO,λp N=>absurd N (by simp)⟩,λp N=>absurd N (by simp),zero_le _,rfl⟩ (by decide) λU1 m6 l6 k6 M6=>?_
 have q:Kq Y8 U1:=zAU.trans k6;have D:Disp D28 ixL (zDO m6 o) w h U1 (λ_ _=>clr):=(mkd (rs:=shR false w h) (U:=D20) (ix:=ix2) (n:=21) rfl rfl rfl rfl ((L w h f _ (C.trans q)).up rfl rfl rfl rfl) (tabB false V T) M6 B (by decide) (by omega) (by omega)).ext λj i K M=>by
  show mx _ (cT _ j i)=_;rw[cT1 K M];exact zPY _
 obtain⟨I,H,J,F,e,p,d,a,k⟩:=D;refine⟨I,H,J,F,e,p,d,a,?_⟩;(walk_at "m");refine k _ λC3 n7 l7 S F7=>?_
 (walk_at "m");refine zFp F7.dr (O.keep (q.trans S)).dr ?_;refine zCD (by omega) (by omega) ?_;(walk_at "m");refine⟨rfl,(λz=>nomatch z),λ_=>?_⟩;(walk_at "m");have y:=(C.trans q).trans S;obtain⟨I,H,J,F,e,p,d,a,k⟩:=(L w h f _ y).up (U:=D28) (ix:=ixL) rfl rfl rfl rfl;refine⟨I,H,J,F,e,p,d,a,?_⟩;(walk_at "m");refine k _ λC4 n8 l8 W F8=>?_
 (walk_at "m");refine zFp F8.dr (R.keep (y.trans W)).dr ?_;refine zCD (by omega) (by omega) ?_;(walk_at "m");exact hQ _ (y.trans W)
def zSM (h1:0<=t/\t<=7)(h2:7<=b/\b<=8):RB 80 (Rat.divInt t b):=zEH (by omega) (zCx (k:=8) (by omega) (by decide)) (zCx (k:=8) (by omega) (by decide))
def zEO {x:Int}(h:0 < m):0<=x.fmod m/\x.fmod m < m:=⟨xY x h,fmod_lt_of_pos x h⟩
def zSc {d:Mem}{pts:List W}(f:d.length<=Gb.length)(a:Rw Ga nH d.length lH (ptR rs))(c:∀ ps∈rs,Six ps)(k:Kq Ga Gb)(h:pts.length<=10) :
  ∃ r ds,(lH.map (λp=>W.loc p.1)++[W.loc Gb.length])[0]?=some (.loc r)/\((Gb++[pts]).set nH (lH.map (λp=>W.loc p.1)++[W.loc Gb.length]))[r]?=some ds/\ds.length<=100/\d.length<=r/\(r < Ga.length\/r=Gb.length):=by
 have lt:=a.lt;have i:=k.le
 match lH,a with
 | [],a=>exact⟨_,pts,rfl,by rw[getElem?_set_ne (by omega)];exact zAO,by omega,f,.inr rfl⟩
 | p::l,a =>
  have b:=zIB a.ll p (by simp);have m:p.2∈ptR rs:=by rw[<- a.snd];simp
  obtain⟨ps,g,e⟩:=mem_map.mp m;refine⟨p.1,p.2.map .dat,rfl,by rw[getElem?_set_ne (Ne.symm b)];exact zAT (k.get (a.ll.row p (by simp))),?_,a.lo p (by simp),.inl (a.ll.lt.2 p (by simp))⟩;rw[<- e,qy,qy];have:=(c ps g).1;omega
abbrev hdM (Gb:Mem) (nH rH:Nat) (lH:Lp) (dH:List W):Mem:=((Gb++[[W.dat (ptD (pI 0 0)),W.dat (ptD (pI 9 0)),W.dat (ptD (pI 9 9))]]).set nH (lH.map (λp=>W.loc p.1)++[W.loc Gb.length])).set rH (dH++[W.dat (ptD (pI 5 7))])
def dfl (d:Disp U ix o w h G A)(g:∀ {Q:List W×Mem->Prop},Q ([.dat (.int (w:Int)),.dat (.int (h:Int))],G)->EvP (evMs J U es ⟨O,G⟩) Q)(q:∀ G' m l,Kq G G'->Rw G' m G.length l (mT w h A)->Q (.loc m,G')) :
  ∃ c n y F,clsW "films" o=some c/\ix.lookup c=some n/\U[n]?=some (y,F)/\spec.lookup y=some (.mth c "films")/\EvP (evMs J U es ⟨O,G⟩) λws=>EvP (F (o::ws.1) ws.2) Q:=by
 obtain⟨c,n,y,F,e,b,a,i,f⟩:=d;exact⟨c,n,y,F,e,b,a,i,g (f _ q)⟩
def zSR (ns:List Int):EvP (FM70 [.dat (scr ns)] []) λx=>x.1=.dat (.bl true):=by
 refine zBu rfl (by decide) ?_;show EvP (evSs' GL2 D30 mb70 ⟨[some (.dat (scr ns)),none,none,none,none,none,none,none,none,none,none,none,none,none,none,none],[]⟩) _;unfold mb70;(walk_at "m");refine h46 ns 0 _ (by decide) ?_;(walk_at "m");refine h46 ns 1 _ (by decide) ?_;(walk_at "m");obtain⟨w,ew⟩:∃ w:Nat,1+(cel ns 0).fmod 3=(w:Int):=⟨(1+(cel ns 0).fmod 3).toNat,by have:=zEO (x:=cel ns 0) (m:=3) (by decide);omega⟩;obtain⟨h,eh⟩:∃ h:Nat,1+(cel ns 1).fmod 2=(h:Int):=⟨(1+(cel ns 1).fmod 2).toNat,by have:=zEO (x:=cel ns 1) (m:=2) (by decide);omega⟩;have w1:=zEO (x:=cel ns 0) (m:=3) (by decide);have h1:=zEO (x:=cel ns 1) (m:=2) (by decide);rw[ew,eh];have ww:1<=w/\w<=3:=by omega
 have hh:1<=h/\h<=2:=by omega
 clear w1 h1 ew eh;refine crng (n:=3) (λj G' d=>G'=[]/\d.length=j/\∀ x∈d,∃ y:Int,x=.dat (.int y)) ?_ rfl (by decide) ⟨rfl,rfl,by simp⟩ (λ_ _ _ h=>h.2.1) (λj G' d hj q=>?_) λG' d q=>?_
 ·(walk_at "m")
  rfl
 .obtain ⟨rfl,S,q3⟩:=q;show EvP (evM GL2 D30 _ ⟨[some (.dat (scr ns)),some (.dat (.int (w:Int))),some (.dat (.int (h:Int))),none,none,none,none,none,none,none,none,none,none,none,none,none,some (.dat (.int (j:Int)))],[]⟩) _;(walk_at "m");refine h46 ns _ _ (by omega) ?_;(walk_at "m");refine h48 _ _ _ (by omega) (by omega) λx=>?_
  (walk_at "m");refine⟨rfl,by rw[qQ,S];rfl,λy hy=>?_⟩;rcases mem_append.mp hy with z | z
  .exact q3 y z
  .exact ⟨x,mem_singleton.mp z⟩
 obtain⟨rfl,S,q3⟩:=q;obtain⟨y0,y1,y2,rfl⟩:=zPl S;obtain⟨x0,rfl⟩:=q3 y0 (by simp);obtain⟨x1,rfl⟩:=q3 y1 (by simp);obtain⟨x2,rfl⟩:=q3 y2 (by simp);clear S q3;(walk_at "m");refine h46 ns 0 _ (by decide) ?_;(walk_at "m");refine⟨λ_=>?_,λ_=>?_⟩
 ·(walk_at "m");refine h46 ns 5 _ (by decide) ?_;(walk_at "m");refine h48 _ 5 _ (by decide) (by decide) λc=>?_
  (walk_at "m");refine h64 _ _ λr g b M F H=>?_
  (walk_at "m");refine h49 _ _ _ (by have:=zEO (x:=c.fdiv 3) (m:=2) (by decide);omega) ?_;(walk_at "m");refine m69 (nd:=0) rfl (zSM ?_ ?_) M F H λG' _=>?_
  .have:=zEO (x:=c.fdiv 2) (m:=7) (by decide);omega
  .have:=zEO (x:=c.fdiv 3) (m:=2) (by decide);omega
  (walk_at "m")
  rfl
 ·(walk_at "m");refine shps (w:=w) (h:=h) rfl (zAz (zAP rfl ⟨0,rfl,rfl⟩)) (x0:=x0) (x1:=x1) (x2:=x2) rfl rfl (by omega) (by omega) (λq=>?_) λO7 f e a6 s0 s1 s2 k1 K I X=>?_
  ·(walk_at "m");exact q
  (walk_at "m");have K:=K.keep (zAU (P:=[[s0,s1,s2]]));have I:=I.keep (zAU (P:=[[s0,s1,s2]]));have X:=X.keep (zAU (P:=[[s0,s1,s2]]));have s:=zAO (G:=O7) (ws:=[s0,s1,s2]);generalize O7.length=n5 at s;generalize O7++[[s0,s1,s2]]=μ2 at *;have D:Fl w h f:=⟨by omega,by omega,by omega,by omega,K.1,K.2.1⟩;have A:Fl w h e:=⟨by omega,by omega,by omega,by omega,I.1,I.2.1⟩;have f2:Fl w h a6:=⟨by omega,by omega,by omega,by omega,X.1,X.2.1⟩;have g0:Fl (h+1) w f:=⟨by omega,by omega,by omega,by omega,K.1,K.2.1⟩;have g1:Fl (h+1) w e:=⟨by omega,by omega,by omega,by omega,I.1,I.2.1⟩;refine(covs (w:=w) (h:=h) rfl (zAz (zAP rfl ⟨n5,rfl,rfl⟩)) s rfl K I X D A f2 (λq=>?_) λO8 c0 c1 c2 Y C0 C1 C2=>?_)
  ·(walk_at "m");exact q
  (walk_at "m");have C0:=C0.keep (zAU (P:=[[c0,c1,c2]]));have C1:=C1.keep (zAU (P:=[[c0,c1,c2]]));have C2:=C2.keep (zAU (P:=[[c0,c1,c2]]));have e6:=zAO (G:=O8) (ws:=[c0,c1,c2]);have Y:Kq μ2 (O8++[[c0,c1,c2]]):=Y.app;have s:=Y.get s;generalize O8.length=n6 at e6;obtain⟨_,_,a0,b0,l0,rfl,R0⟩:=K.keep Y;obtain⟨_,_,a1,b1,l1,rfl,R1⟩:=I.keep Y;obtain⟨_,_,a2,b2,l2,rfl,R2⟩:=X.keep Y;clear Y K I X;generalize O8++[[c0,c1,c2]]=Y8 at *;obtain⟨d0,b3,l3,rfl,T0⟩:=C0;obtain⟨d1,b4,l4,rfl,T1⟩:=C1;obtain⟨d2,b5,l5,rfl,T2⟩:=C2;have q1:=(λj i hj hi=>zEt (j:=j) (i:=i) A hj hi);have S:=(λj i hj hi=>zEt (j:=j) (i:=i) f2 hj hi);have p1:=(λj i hj hi=>zEt (j:=j) (i:=i) g1 hj hi);refine h46 ns 5 _ (by decide) ?_;(walk_at "m");refine h48 _ 5 _ (by decide) (by decide) λc=>?_
  (walk_at "m");refine h46 ns 6 _ (by decide) ?_;(walk_at "m");refine h48 _ 6 _ (by decide) (by decide) λc'=>?_
  (walk_at "m");refine (zND (nl:=49) rfl h49) _ _ λt Q _ _=>?_
  (walk_at "m");refine h64 _ _ λr g b M F H=>?_
  (walk_at "m");have B0:=zKc (c:=c) D Q M F H;have A0:=zKc (c:=c) g0 Q M F H;have e2:∀ (o:W) (Gx:Mem),Kq Y8 Gx->Leaf Gx o c f t r g b->EvP (evSs' GL2 D30 (mtl 11 mb70) ⟨[some (.dat (scr ns)),some (.dat (.int (w:Int))),some (.dat (.int (h:Int))),some (.loc 0),some (.dat (.int c)),some (.loc n5),some (.loc n6),some (.dat (ratD t)),some (.dat (inkD r g b)),some o,none,none,none,none,none,none],Gx⟩) (KFM λx=>x.1=.dat (.bl true)):=by
   intro o Gx kx L;dsimp only[mtl,mb70];(walk_at "m");refine zAr (kx.get e6) rfl ?_;(walk_at "m");refine m67 D Q M F H (T0.keep kx) λGe nF lF ke F0=>?_
   (walk_at "m");have a9:=kx.trans ke;refine zAr (a9.get e6) rfl ?_;(walk_at "m");refine m65 F0 (T1.keep a9) B0 q1 (by decide) (by omega) (by omega) λGf nG lG kf F1=>?_
   (walk_at "m");have T:=a9.trans kf;refine zAr (T.get e6) rfl ?_;(walk_at "m");refine m65 F1 (T2.keep T) (B0.mx q1) S (by decide) (by omega) (by omega) λGg nI lI kg F2=>?_
   (walk_at "m");have a4:=T.trans kg;have h5:=(ke.trans kf).trans kg;refine zDW (as:=ptR e) (u:=id) (v:=id) (n:=a1) (b:=b1) (l:=l1) (G:=Gg) (zAz ?_) (by rw[map_id];exact R1.keep a4) rfl (zDZ A.rl) (λP m ds hd em=>?_) λP lH E=>?_
   ·(walk_at "m");exact zAr (a4.get s) rfl ⟨a1,rfl,rfl⟩
   .exact zBC rfl (zEb (zAJ (zAZ rfl (zDR em)) (zHv (zG1 (zCs ds hd) rfl))))
   rw[map_id] at E;have N:Kq Gg (Gg++P):=zAU;generalize Gg.length+(ptR e).length=nH at E;generalize Gg++P=Ga at E N;(walk_at "m");refine mK E A.rl λGb m1 lM C M1=>?_
   have a7:=N.trans C;have c9:=E.len;rw[qy] at c9;have p4:=A.rl;(walk_at "m");refine⟨_,_,rfl,zAT (C.get E.ll.top),by rw[qy];omega,?_⟩;(walk_at "m");obtain⟨rH,dH,e7,e1,g4,d5,g9⟩:=zSc (pts:=[.dat (ptD (pI 0 0)),.dat (ptD (pI 9 0)),.dat (ptD (pI 9 9))]) a7.le E A.six C (by show 3<=10;decide);have g8:=E.lt;have e3:=C.le;have e0:=N.le;have O:=E.top;refine zAr (getElem?_set_self (by rw[qQ];omega)) (zAv (j:=0) e7) ?_;(walk_at "m");refine⟨_,_,rfl,e1,by omega,zAn ?_⟩;have p:Kq Gg (hdM Gb nH rH lH dH):=(a7.app.set O).set d5;have M1:Rw (hdM Gb nH rH lH dH) m1 Ga.length lM (ptR e):=M1.range λx hx hl=>by
    rw[getElem?_set_ne (by omega),getElem?_set_ne (by omega)];exact getElem?_append_left hl
   refine(show EvP (evSs' GL2 D30 _ ⟨[some (.dat (scr ns)),some (.dat (.int (w:Int))),some (.dat (.int (h:Int))),some (.loc 0),some (.dat (.int c)),some (.loc n5),some (.loc n6),some (.dat (ratD t)),some (.dat (inkD r g b)),some o,some (.loc nF),some (.loc nG),some (.loc nI),some (.loc nH),some (zDO m1 o),none],hdM Gb nH rH lH dH⟩) _ from ?_);generalize hdM Gb nH rH lH dH=Gd at p M1;clear e7 e1 g4 d5 g9 E C N a7 c9 g8 e3 e0 O;have L:=L.keep (h5.trans p);have B:=a4.trans p;have F0:=F0.keep ((kf.trans kg).trans p);have F1:=F1.keep (kg.trans p);have F2:=F2.keep p;have one:∀ {w' h':Nat} {Gy:Mem} (_:Fl w' h' f) (_:Fl w' h' e) (_:Kq Gd Gy),Disp D30 ixL (zDO m1 o) w' h' Gy (mxT (lfT c f t r g b w' h') (qT w' h' e)):=λu0 u1 k=>by
    have a:=u0.w2;have b:=u0.h2;exact mkd (U:=D20) (ix:=ix2) (n:=21) rfl rfl rfl rfl ((L _ _ u0 _ k).up rfl rfl rfl rfl) (zBM u1) (M1.keep k) (zKc u0 Q M F H) (by decide) (by omega) (by omega)
   refine zAI (zEF (zC2 ?_));(walk_at "m");refine dfl (one D A zKf) (λq=>?_) λGh nh lh kh Fh=>?_
   ·(walk_at "m");exact q
   (walk_at "m");refine zFp Fh.dr (F1.keep kh).dr ?_;refine zCD (by omega) (by omega) ?_;(walk_at "m");refine⟨rfl,(λz=>nomatch z),λ_=>zA6 (zAn ?_)⟩;refine zAI (zEF (zC2 ?_));(walk_at "m");have e4:=B.trans kh;refine zAr (e4.get s) rfl ?_;(walk_at "m");refine mK (R2.keep e4) f2.rl λGi m2 m7 ki M2=>?_
   have V:=kh.trans ki;have two:Disp D30 ixL (zDO m2 (zDO m1 o)) w h Gi (mxT (mxT (lfT c f t r g b w h) (qT w h e)) (qT w h a6)):=mkd (U:=D20) (ix:=ix2) (n:=21) rfl rfl rfl rfl (mkd (U:=D17) (ix:=ix1) (n:=18) rfl rfl rfl rfl ((L _ _ D _ V).up rfl rfl rfl rfl) (zBM A) (M1.keep V) B0 (by decide) (by omega) (by omega)) (zBM f2) M2 (B0.mx q1) (by decide) (by omega) (by omega);refine dfl two (λq=>?_) λGj nj lj kj Fj=>?_
   ·(walk_at "m");exact q
   (walk_at "m");have a3:=V.trans kj;refine zFp Fj.dr (F2.keep a3).dr ?_;refine zCD (by omega) (by omega) ?_;(walk_at "m");refine⟨rfl,(λz=>nomatch z),λ_=>zA6 (zAn ?_)⟩;refine zAI (zEF (zC2 ?_));(walk_at "m");have J:=B.trans a3;refine zAr (J.get s) rfl ?_;(walk_at "m");refine zAr (J.get s) rfl ?_;(walk_at "m");refine mK (R2.keep J) f2.rl λGk m3 p7 kk M3=>?_
   (walk_at "m");refine mK (R1.keep (J.trans kk)) A.rl λU8 m4 l6 kl M4=>?_
   have i0:=kk.trans kl;have c8:=a3.trans i0;have h0:Disp D30 ixL (zDO m4 (zDO m3 o)) w h U8 (mxT (mxT (lfT c f t r g b w h) (qT w h e)) (qT w h a6)):=(mkd (U:=D20) (ix:=ix2) (n:=21) rfl rfl rfl rfl (mkd (U:=D17) (ix:=ix1) (n:=18) rfl rfl rfl rfl ((L _ _ D _ c8).up rfl rfl rfl rfl) (zBM f2) (M3.keep kl) B0 (by decide) (by omega) (by omega)) (zBM A) M4 (B0.mx S) (by decide) (by omega) (by omega)).ext λj i _ _=>zUL _ _ _
   refine dfl h0 (λq=>?_) λC5 nm lm km Fm=>?_
   ·(walk_at "m");exact q
   (walk_at "m");have a8:=c8.trans km;refine zFp Fm.dr (F2.keep a8).dr ?_;refine zCD (by omega) (by omega) ?_;(walk_at "m");refine⟨rfl,(λz=>nomatch z),λ_=>zA6 (zAn ?_)⟩;(walk_at "m");have d4:=B.trans a8;refine zAr (d4.get s) rfl ?_;(walk_at "m");refine m60 (w:=h+1) (h:=w) g0 (R0.keep d4) λGn nn ln kn Tn=>?_
   (walk_at "m");refine m67 g0 Q M F H Tn λGo no lo ko Fo=>?_
   (walk_at "m");have Z:=(a8.trans kn).trans ko;refine zAr ((B.trans Z).get s) rfl ?_;(walk_at "m");refine m60 (w:=h+1) (h:=w) g1 (R1.keep (B.trans Z)) λGp np lp kp Tp=>?_
   (walk_at "m");refine m65 (Fo.keep kp) Tp A0 p1 (by decide) (by omega) (by omega) λGq nq lq kq Fq=>?_
   (walk_at "m");have d8:=(Z.trans kp).trans kq;refine zT5 (zC2 ?_);(walk_at "m");refine dfl (one g0 g1 d8) (λq=>?_) λC6 nr lr kr Fr=>?_
   ·(walk_at "m");exact q
   (walk_at "m");refine zFp Fr.dr (Fq.keep kr).dr ?_;refine zCD (by omega) (by omega) ?_;(walk_at "m");refine⟨rfl,rfl,zC2 ?_⟩;(walk_at "m");have c5:=d8.trans kr;refine dfl (one D A c5) (λq=>?_) λGs k0 ls ks Fs=>?_
   ·(walk_at "m");exact q
   (walk_at "m");have a5:=c5.trans ks;refine zFp Fs.dr (F1.keep a5).dr ?_;refine zCD (by omega) (by omega) ?_;(walk_at "m");refine⟨rfl,(λz=>nomatch z),λ_=>zA6 (zAn ?_)⟩;(walk_at "m");refine m68 ww hh D Q M F H (L.keep a5) (F0.keep a5) λC7 _=>?_
   (walk_at "m")
   rfl
  refine zAr s rfl ?_;(walk_at "m");refine zSL R0 (zDZ D.rl) zCs (.inr rfl) λP m l R=>?_
  (walk_at "m");by_cases z:c.fmod 2=1
  .refine ⟨λ_=>?_,λy=>absurd z (by simpa using y)⟩;(walk_at "m");refine zAr (zAT s) rfl ?_;(walk_at "m");refine mRub (R0.keep zAU) (zDZ D.rl) zCs (.inr rfl) λU7 m' l' R'=>zAn (zA6 (zAn ?_))
   exact e2 _ _ zAU.app (zSP z Q R')
  .refine ⟨λy=>absurd (by simpa using y) z,λ_=>?_⟩;exact zA6 (zAn (e2 _ _ zAU (zSQ z Q M F H R)))
def law_true (ns:List Int)(a:ns.length<=63):∃ G,FM70 [.dat (.lst (ns.map D.int))] []=some (.dat (.bl true),G):=by
 obtain⟨⟨w,G⟩,e,q⟩:=zSR ns;cases q;exact⟨G,e⟩
end Q
end
namespace PySem.W.Fast
abbrev P:=True
def tw10064175884971374066:=P
def tw10088630306862019685:=P
def tw10109244502447413734:=P
def tw10132239455372498489:=P
def tw10170122645522962276:=P
def tw10177531375641784506:=P
def tw10244539307440224254:=P
def tw10245972081958896451:=P
def tw10285622725933661679:=P
def tw10332091367510706635:=P
def tw10342784432944775941:=P
def tw10347680921177484937:=P
def tw10350682465853162466:=P
def tw10366152087910620054:=P
def tw10387551159669136241:=P
def tw10423150137529587856:=P
def tw10456211499439907422:=P
def tw10485517221820894766:=P
def tw10497193130177034569:=P
def tw10546726022654624992:=P
def tw10587764522350330569:=P
def tw1059943641448432665:=P
def tw10613190602050271953:=P
def tw10628916177622226395:=P
def tw10700946682867793427:=P
def tw10722132904186240774:=P
def tw10790682537024907415:=P
def tw10898196895772329137:=P
def tw10934589972776292873:=P
def tw10938718757531895566:=P
def tw10966253777361960298:=P
def tw10967732129388685268:=P
def tw11011190134366990133:=P
def tw11018997513845859055:=P
def tw11053011250124391220:=P
def tw11083455662858475126:=P
def tw11114944866607648823:=P
def tw11143502887611067428:=P
def tw11180523636478083387:=P
def tw11200209154356566545:=P
def tw1122686664527146952:=P
def tw11234362757649765117:=P
def tw11265086022354366863:=P
def tw11357025243511052126:=P
def tw11401905635890927404:=P
def tw11437128428984900487:=P
def tw11442746479693481157:=P
def tw11459990514064239855:=P
def tw11495210321984477873:=P
def tw11505197400401302223:=P
def tw11554987361056153045:=P
def tw11574618967028983214:=P
def tw11583400290838414818:=P
def tw11591490907705660768:=P
def tw11628568218975994464:=P
def tw11635201213327314035:=P
def tw1164538541895216999:=P
def tw11656958399105242950:=P
def tw1166831976279622032:=P
def tw11696952509530436340:=P
def tw11699194360976951647:=P
def tw11740103307124955661:=P
def tw11756519000261963608:=P
def tw11757406506704890824:=P
def tw11782450676891191776:=P
def tw11832219903074979011:=P
def tw11863968040396214318:=P
def tw11877234474343485639:=P
def tw11893539044046596763:=P
def tw12019896820969552143:=P
def tw12069889389204965554:=P
def tw12094520601103939837:=P
def tw12103038566870237851:=P
def tw12150566282557212634:=P
def tw12153034113523313102:=P
def tw12224728622363566756:=P
def tw12240524939175323428:=P
def tw12254302907464790798:=P
def tw12263614001130818284:=P
def tw12310317286269381483:=P
def tw12394911553319744524:=P
def tw12431583799978739162:=P
def tw12468125413131052772:=P
def tw12518441834716798642:=P
def tw12542987955862326333:=P
def tw12543982975963242016:=P
def tw12569675340288368230:=P
def tw12608109195642573179:=P
def tw12659633050632006179:=P
def tw12668575829765616286:=P
def tw12702259377342899811:=P
def tw12748711473457967823:=P
def tw12783666001300568790:=P
def tw12844358842072510309:=P
def tw12892253058238261487:=P
def tw12898771881091851421:=P
def tw12919868202522320207:=P
def tw12969271009166429688:=P
def tw12988853072738327497:=P
def tw12992826942003021416:=P
def tw1300229644843526073:=P
def tw13010745766576174042:=P
def tw13037110045431695604:=P
def tw13048423670279718391:=P
def tw13060487828441036650:=P
def tw13061856126770705579:=P
def tw13072187184721227449:=P
def tw13073680892835997690:=P
def tw13094959844391961408:=P
def tw1311677305053537184:=P
def tw13150054044148560736:=P
def tw13165708988165148938:=P
def tw13167760062848167453:=P
def tw13201058263490212685:=P
def tw13234093034043568746:=P
def tw1339956085444145283:=P
def tw13410408072683642915:=P
def tw13431814221336259823:=P
def tw13434093028674028764:=P
def tw13437268219117412494:=P
def tw13496484771216118361:=P
def tw13607929368437604882:=P
def tw1361130568071507562:=P
def tw13651066810845074245:=P
def tw13710493908026943771:=P
def tw13742143481709995920:=P
def tw13767447610597535317:=P
def tw13788614133639223395:=P
def tw13818196750277567938:=P
def tw13834350877025977719:=P
def tw13840053320981001679:=P
def tw13924036599628775131:=P
def tw13959767967124764700:=P
def tw13984554176599704601:=P
def tw13996456918513283658:=P
def tw14006831502476117375:=P
def tw14084843972466910712:=P
def tw14140973144723418555:=P
def tw141462500139816028:=P
def tw14168491785709586194:=P
def tw14233553240455627257:=P
def tw14246058412160534275:=P
def tw14297070768143230947:=P
def tw1431598381330014054:=P
def tw1431894880207133086:=P
def tw14518558141686783242:=P
def tw14535635559927194133:=P
def tw14559076260220846964:=P
def tw14593853276228888220:=P
def tw14620126394134439500:=P
def tw14626447188291245819:=P
def tw14658121197211392693:=P
def tw14697054949781394572:=P
def tw14793328410173334220:=P
def tw14822084556790531432:=P
def tw14854432460945177833:=P
def tw14912413541080066090:=P
def tw1494439841716894971:=P
def tw14982497399196222429:=P
def tw14985999151239413103:=P
def tw15102629352521849574:=P
def tw15102924819521514817:=P
def tw15183966572441126895:=P
def tw15247938241385775587:=P
def tw15316645274546210122:=P
def tw15316829622062349124:=P
def tw15328900922973446630:=P
def tw1534460976973274392:=P
def tw15380066447051613106:=P
def tw15391077547190424665:=P
def tw15435121916337750128:=P
def tw15486526879848341770:=P
def tw15499195273403917932:=P
def tw15507176103335011469:=P
def tw15523345149972493537:=P
def tw15534395521548153187:=P
def tw1554525247102000398:=P
def tw15573397489219775228:=P
def tw15576999835301614798:=P
def tw1558246381485010995:=P
def tw15610248658169716855:=P
def tw15641628803199461089:=P
def tw15671745695649286467:=P
def tw15675275357880089190:=P
def tw15693966414240863141:=P
def tw15719878056844998999:=P
def tw15737423161281233748:=P
def tw15742294710922934266:=P
def tw15752906242694989019:=P
def tw15769242983023105564:=P
def tw15773287367927405773:=P
def tw15787675680654491654:=P
def tw15840759243902299786:=P
def tw15845715789827652292:=P
def tw15902963503880500544:=P
def tw15956068319480580426:=P
def tw15984578893913275721:=P
def tw16018701152171316304:=P
def tw16083706413527148363:=P
def tw16092592044104428432:=P
def tw16099037528770780703:=P
def tw16138268473043800228:=P
def tw16155611324741284738:=P
def tw16201383792390117992:=P
def tw16347367395504082322:=P
def tw16365569076374523140:=P
def tw16390765029670454351:=P
def tw1639864584968499437:=P
def tw16420949477701670659:=P
def tw16428227769597630813:=P
def tw16480772854266776568:=P
def tw16489492997831050219:=P
def tw16512944137488754770:=P
def tw1652914254799490106:=P
def tw16534061613593894904:=P
def tw16550969428266830415:=P
def tw16563194060263244914:=P
def tw16578947227870129027:=P
def tw1657950744758912052:=P
def tw16608516573201522204:=P
def tw1660914375818410694:=P
def tw16609555843964216603:=P
def tw1664084164847605119:=P
def tw16660310655358443848:=P
def tw16675639862635460706:=P
def tw16738566339643015008:=P
def tw16744465315995790799:=P
def tw16760453527087529639:=P
def tw16763026193768200321:=P
def tw16778275301212935680:=P
def tw16781419410295906825:=P
def tw1679791250270426901:=P
def tw16845572544988033673:=P
def tw16853352832043852889:=P
def tw16853515758031811984:=P
def tw16853576019291720503:=P
def tw16862217869829524517:=P
def tw16938057908001719934:=P
def tw16968367202030984115:=P
def tw17015005747423731481:=P
def tw17047532407102457011:=P
def tw1708788397995820660:=P
def tw1709297724597889960:=P
def tw17104062441398010183:=P
def tw17127533689511025213:=P
def tw17127735580282924142:=P
def tw17131745048583699828:=P
def tw17139473080622194260:=P
def tw17149691153731207778:=P
def tw17163940647268592212:=P
def tw17176379715184733680:=P
def tw17215149946203750431:=P
def tw17242167109005684399:=P
def tw17277735229383888828:=P
def tw17291199239416676454:=P
def tw1731338312032101240:=P
def tw17322108630826614765:=P
def tw17365790347995456752:=P
def tw17376757889621317032:=P
def tw17390496065555398657:=P
def tw1739475416095169521:=P
def tw17404289964153252442:=P
def tw17452340095413666539:=P
def tw17457310313345805246:=P
def tw17505167518818572146:=P
def tw17515395039363303271:=P
def tw17537897078561220447:=P
def tw17541340387075726973:=P
def tw17556333935761684674:=P
def tw17562558700148867448:=P
def tw17563535992337798:=P
def tw1758433580555312181:=P
def tw17585651380435095468:=P
def tw17625093857976314970:=P
def tw17635182282964887285:=P
def tw17659857535958338541:=P
def tw17729652347345790495:=P
def tw17747674975326025750:=P
def tw17756869192996840654:=P
def tw17781743164360675211:=P
def tw17798723018749245436:=P
def tw17828242766416356882:=P
def tw17955533267475933171:=P
def tw1799777475858306362:=P
def tw18081391452769457546:=P
def tw18108929430668253602:=P
def tw18143784006508622228:=P
def tw18149402594406346525:=P
def tw18206134499291717609:=P
def tw18239638243390102454:=P
def tw18301063293043690246:=P
def tw18313258468437300505:=P
def tw18378366279269017050:=P
def tw18397810381387815161:=P
def tw18409654132713887347:=P
def tw1890282132976057007:=P
def tw1922492958766789096:=P
def tw194630198531983462:=P
def tw1963257084200427463:=P
def tw1970564155719213536:=P
def tw199414209854604157:=P
def tw208689377846426941:=P
def tw2100224254774048894:=P
def tw2126457556849981418:=P
def tw2192668957666090984:=P
def tw2204381435906930296:=P
def tw2223427746561161302:=P
def tw2225371728617123732:=P
def tw228783791603666275:=P
def tw2291393477133277760:=P
def tw2305303153190344160:=P
def tw2305899322388281988:=P
def tw231277913176768368:=P
def tw2334916539112154181:=P
def tw2391501566966570967:=P
def tw2393779761108387482:=P
def tw2407709209841516306:=P
def tw2412167372449791614:=P
def tw2432438262825261149:=P
def tw2451663379042176593:=P
def tw2561965919394978616:=P
def tw2581556156515621471:=P
def tw2586450625316559928:=P
def tw2592973297009468297:=P
def tw2615821109423253737:=P
def tw2646549395642651163:=P
def tw2714320228092944124:=P
def tw2736225869310073940:=P
def tw2757583369249718794:=P
def tw2793286752482364576:=P
def tw2823246809369904200:=P
def tw283404033415590101:=P
def tw2861617491673542722:=P
def tw2904354398692079950:=P
def tw291962933920078891:=P
def tw2945892390238183311:=P
def tw2969769952414089166:=P
def tw3068105389412671091:=P
def tw3099094003389921700:=P
def tw3126515978681519202:=P
def tw3134466944278849923:=P
def tw3255270074072517042:=P
def tw3284790974456197994:=P
def tw328913580265712849:=P
def tw3315733106966767673:=P
def tw3324850999378604803:=P
def tw3326688814859005534:=P
def tw3395651272243517037:=P
def tw3409445899950574547:=P
def tw3439226063307535720:=P
def tw344150158682374205:=P
def tw3504890769205781689:=P
def tw3509304910049585432:=P
def tw3597511161630604197:=P
def tw3628087407932424006:=P
def tw362953685614926511:=P
def tw3647854050308178106:=P
def tw3654784281182353600:=P
def tw3662657757070977582:=P
def tw3671855390950526433:=P
def tw3682866407784600771:=P
def tw3691246220054550745:=P
def tw3719951104968111305:=P
def tw3809693650584833857:=P
def tw3833769146025354422:=P
def tw3857612526333711747:=P
def tw385958922433992360:=P
def tw3877447242691540412:=P
def tw3904212731955187521:=P
def tw3953048649783080762:=P
def tw3961696712510817497:=P
def tw3998131649652380276:=P
def tw4081058153740504201:=P
def tw4110952528519024224:=P
def tw4129046909901139097:=P
def tw4157095244087252758:=P
def tw4183611647273623418:=P
def tw4219045331634484625:=P
def tw4221995038732080255:=P
def tw428747726372046963:=P
def tw4299819397895760406:=P
def tw4353115253216620911:=P
def tw4357111275224395793:=P
def tw4365366933849414760:=P
def tw4380049233344582783:=P
def tw4424806461989466125:=P
def tw4448580664296642474:=P
def tw446056506126171927:=P
def tw4471212670504538618:=P
def tw4514424640685570455:=P
def tw4542365580435702698:=P
def tw4545812455220625131:=P
def tw4619630543895097958:=P
def tw463319832750556932:=P
def tw4694536298043459534:=P
def tw4703498047996603569:=P
def tw4719672469855172457:=P
def tw471984584413934923:=P
def tw4806762753762472316:=P
def tw4863425398019100135:=P
def tw4863455649182482231:=P
def tw4885738157645057988:=P
def tw489467033816023354:=P
def tw4903013434083072369:=P
def tw490814431151801201:=P
def tw4951265713192041240:=P
def tw495246468895073132:=P
def tw4961356660544224615:=P
def tw4983511053487293886:=P
def tw4985979474196449469:=P
def tw498937393143347903:=P
def tw4991805801043923721:=P
def tw500336231931676662:=P
def tw5027302685103547685:=P
def tw5053698348135421086:=P
def tw5117331750454791667:=P
def tw524290468104899022:=P
def tw5274681208178272822:=P
def tw5308631536536064369:=P
def tw5354230564302274948:=P
def tw5357889432561818423:=P
def tw5358811502936719022:=P
def tw5363746130391504878:=P
def tw5372973269886404352:=P
def tw5405570715230801925:=P
def tw5454312154195049475:=P
def tw5484382733904344427:=P
def tw5514420029055432971:=P
def tw5545463530535035257:=P
def tw5576581953077549831:=P
def tw5578018881083756143:=P
def tw5583998252972112283:=P
def tw5627673367804344719:=P
def tw5735227111486593980:=P
def tw5789840887682513018:=P
def tw5839668107270803982:=P
def tw5844451145328632030:=P
def tw5871096988859320399:=P
def tw5881952941235297363:=P
def tw5888944274677530767:=P
def tw5917650579039179969:=P
def tw5952858130587001686:=P
def tw6019466407372198947:=P
def tw6037599087179936641:=P
def tw6062216957595953058:=P
def tw6072129961738142986:=P
def tw6081903870941455174:=P
def tw6087840174100869101:=P
def tw6207994294566337874:=P
def tw6217936773413443523:=P
def tw6280266096714461072:=P
def tw6287991311320804749:=P
def tw6309668393317019063:=P
def tw6316267345157020921:=P
def tw6324312630794562728:=P
def tw6353177217863437705:=P
def tw6362426195048652568:=P
def tw6367391574480252193:=P
def tw6375161245500186222:=P
def tw6389655973430777396:=P
def tw6582586981484622223:=P
def tw6677736687114937743:=P
def tw6696583969465018311:=P
def tw6709549244597898335:=P
def tw6773723545502907063:=P
def tw6785214089323407822:=P
def tw6803801890632522940:=P
def tw6807474446531248235:=P
def tw6846263596212994814:=P
def tw6921663119551082330:=P
def tw6932354110464667093:=P
def tw696757709714669262:=P
def tw6973774317598668347:=P
def tw6983197363360016025:=P
def tw7034160992641433647:=P
def tw7044697286397526387:=P
def tw7061091986215861936:=P
def tw7093368513321197590:=P
def tw7122845848744857975:=P
def tw7133910982362604932:=P
def tw7147580298074572647:=P
def tw7165131928032565240:=P
def tw7201440440999608494:=P
def tw7214432816520767096:=P
def tw7225876036522623834:=P
def tw7238327350348267122:=P
def tw7239568211439738296:=P
def tw724512608148529064:=P
def tw7250041227752212829:=P
def tw7278346493444508698:=P
def tw7315216536993231485:=P
def tw7361053598120318186:=P
def tw7376068622060473032:=P
def tw7432571436275055788:=P
def tw7452277857007385535:=P
def tw7517733658461156890:=P
def tw7539145445534824535:=P
def tw7544203782331439018:=P
def tw7633760029034503785:=P
def tw7667069253044532669:=P
def tw7742208988384491359:=P
def tw774436830089299804:=P
def tw7765120426211448617:=P
def tw7789960924226011145:=P
def tw780296188484450783:=P
def tw7831581514322465928:=P
def tw7880722448002007914:=P
def tw7881847741348653854:=P
def tw7886982666326414745:=P
def tw7891090868818666106:=P
def tw8006312120335778196:=P
def tw805572276935041210:=P
def tw8062857002604685301:=P
def tw8134162055874735700:=P
def tw816222274799663738:=P
def tw8165563542372688849:=P
def tw8176409524654397904:=P
def tw8214613021621300106:=P
def tw8219077073841621575:=P
def tw8266979002993900914:=P
def tw8321079852939556572:=P
def tw835426039863748066:=P
def tw8359067847363211431:=P
def tw8369189655352916117:=P
def tw8416042314501176694:=P
def tw8418450826866386871:=P
def tw8418497760178520097:=P
def tw8419498437155306166:=P
def tw843413222166348577:=P
def tw8512663239717433368:=P
def tw8513889393229987388:=P
def tw8531271967889576260:=P
def tw8531310212782623817:=P
def tw8558269846552892:=P
def tw8568100880387932359:=P
def tw8569886569357941592:=P
def tw8590246735459910129:=P
def tw8625376496413507938:=P
def tw862617613209002668:=P
def tw8631540638684837147:=P
def tw8661324150302408811:=P
def tw8676811862973046471:=P
def tw876195858740270427:=P
def tw877083842997549720:=P
def tw8786892203430456295:=P
def tw8787300702487143706:=P
def tw8823260923306191497:=P
def tw8831561399101272638:=P
def tw8849410332181723883:=P
def tw8871352068460050398:=P
def tw8874485081714245724:=P
def tw8876698675118595547:=P
def tw8884354027897599908:=P
def tw896258486581371424:=P
def tw899652070110920027:=P
def tw9005220666742395764:=P
def tw9024121449955353166:=P
def tw9126181080979145742:=P
def tw9141640234174717483:=P
def tw9192559652419801408:=P
def tw9203611576175833597:=P
def tw9219367739913475046:=P
def tw9221925794926811447:=P
def tw9225429715545558804:=P
def tw9231747818151677620:=P
def tw9243895788690097237:=P
def tw929229309957815115:=P
def tw930550345205202888:=P
def tw9324858575564884007:=P
def tw9382895965488805553:=P
def tw9389556445412433176:=P
def tw9489284732856607070:=P
def tw9520543067483935575:=P
def tw9541005856674597363:=P
def tw9580740690869992736:=P
def tw959742398290168447:=P
def tw960030966600524181:=P
def tw9679405336453281919:=P
def tw9741242052717375281:=P
def tw9766693564922024995:=P
def tw9810377356979067290:=P
def tw983222196664501474:=P
def tw9879588709253126959:=P
def tw9880827907942575220:=P
def tw9888459674218678917:=P
def tw9936902137667367567:=P
def tw9948076177519746282:=P
def tw9952575400912573941:=P
end PySem.W.Fast
open PySem PySem.W PyProof.Rows
set_option maxRecDepth 100000 in
set_option maxHeartbeats 0 in
theorem PySem.Challenge.cw_coverfill_k32_masked_holds : PySem.Challenge.rw_coverfill_k32_masked.Holds := by
  w_on; o_law; k_head; (case hw => w_witness2)
  k_fill
  refine DL.walkM (k := 92) (F := Q.FM70) (l := PySem.Challenge.rw_coverfill_k32_masked) rfl rfl (by decide +kernel) (λ_ => rfl) ⟨rfl, by decide, by decide⟩ [(("thinned_covers" : PySem.Str), 328, 324), (("Fill.films" : PySem.Str), 390, 386), (("Join.films" : PySem.Str), 470, 466)] ?hrec ?htl ?htk ?hnd ?hnt (λw h Y => PySem.W.km_in_of Y) ?F Q.law_true
  case hrec =>
    intro w h Y t ht
    simp only[List.mem_cons, List.not_mem_nil, or_false] at ht
    rcases ht with rfl | rfl | rfl
    · exact⟨PySem.W.codeHd_of_K (PySem.W.km_in_of Y) (by kernel_rfl), PySem.W.km_tabs_of Y _ (by decide)⟩
    · exact⟨PySem.W.codeHd_of_K (PySem.W.km_in_of Y) (by kernel_rfl), PySem.W.km_tabs_of Y _ (by decide)⟩
    · exact⟨PySem.W.codeHd_of_K (PySem.W.km_in_of Y) (by kernel_rfl), PySem.W.km_tabs_of Y _ (by decide)⟩
  case htl => exact λ_ => DL.tabs_of (by kernel_rfl) (by kernel_rfl) (by kernel_rfl) (by kernel_rfl)
  case htk => exact by decide
  case hnd => exact by decide
  case hnt => exact λ_ => by kernel_rfl
  case F =>
    intro w mg fa h KX G hmg
    refine' Q.all_mk KX G hmg (lc0 := 328) (lp0 := 324) (by kernel_rfl) (lc1 := 390) (lp1 := 386) (by kernel_rfl) (lc2 := 470) (lp2 := 466) (by kernel_rfl) (DL.ft ?_ ?_ ?_ ?_) (DL.ft ?_ ?_ ?_ ?_) (DL.ft ?_ ?_ ?_ ?_) (DL.ft ?_ ?_ ?_ ?_) (DL.ft ?_ ?_ ?_ ?_) (DL.ft ?_ ?_ ?_ ?_) (DL.ft ?_ ?_ ?_ ?_) (DL.ft ?_ ?_ ?_ ?_) (DL.ft ?_ ?_ ?_ ?_) (DL.ft ?_ ?_ ?_ ?_) (DL.ft ?_ ?_ ?_ ?_) (DL.ft ?_ ?_ ?_ ?_) (DL.ft ?_ ?_ ?_ ?_) (DL.ft ?_ ?_ ?_ ?_) (DL.ft ?_ ?_ ?_ ?_) (DL.ft ?_ ?_ ?_ ?_) (DL.ft ?_ ?_ ?_ ?_) (DL.ft ?_ ?_ ?_ ?_) (DL.ft ?_ ?_ ?_ ?_) (DL.ft ?_ ?_ ?_ ?_) (DL.ft ?_ ?_ ?_ ?_) (DL.ft ?_ ?_ ?_ ?_) (DL.ft ?_ ?_ ?_ ?_) (DL.ft ?_ ?_ ?_ ?_) (DL.ft ?_ ?_ ?_ ?_) (DL.ft ?_ ?_ ?_ ?_) (DL.ft ?_ ?_ ?_ ?_) (DL.ft ?_ ?_ ?_ ?_) (DL.ft ?_ ?_ ?_ ?_) (DL.ft ?_ ?_ ?_ ?_) (DL.ft ?_ ?_ ?_ ?_) (DL.ft ?_ ?_ ?_ ?_) (DL.ft ?_ ?_ ?_ ?_) (DL.ft ?_ ?_ ?_ ?_) (DL.ft ?_ ?_ ?_ ?_) (DL.ft ?_ ?_ ?_ ?_) (DL.ft ?_ ?_ ?_ ?_) (DL.ft ?_ ?_ ?_ ?_) (DL.ft ?_ ?_ ?_ ?_) (DL.ft ?_ ?_ ?_ ?_) (DL.ft ?_ ?_ ?_ ?_) (DL.ft ?_ ?_ ?_ ?_) (DL.ft ?_ ?_ ?_ ?_) (DL.ft ?_ ?_ ?_ ?_) (DL.ft ?_ ?_ ?_ ?_) (DL.ft ?_ ?_ ?_ ?_) (DL.ft ?_ ?_ ?_ ?_) (DL.ft ?_ ?_ ?_ ?_) (DL.ft ?_ ?_ ?_ ?_) (DL.ft ?_ ?_ ?_ ?_) (DL.ft ?_ ?_ ?_ ?_) (DL.ft ?_ ?_ ?_ ?_) (DL.ft ?_ ?_ ?_ ?_) (DL.ft ?_ ?_ ?_ ?_) (DL.ft ?_ ?_ ?_ ?_) (DL.ft ?_ ?_ ?_ ?_) (DL.ft ?_ ?_ ?_ ?_) (DL.ft ?_ ?_ ?_ ?_) (DL.ft ?_ ?_ ?_ ?_) (DL.ft ?_ ?_ ?_ ?_) (DL.ft ?_ ?_ ?_ ?_) (DL.ft ?_ ?_ ?_ ?_) (DL.ft ?_ ?_ ?_ ?_) (DL.ft ?_ ?_ ?_ ?_) (DL.ft ?_ ?_ ?_ ?_) (DL.ft ?_ ?_ ?_ ?_) (DL.ft ?_ ?_ ?_ ?_) (DL.ft ?_ ?_ ?_ ?_) (DL.ft ?_ ?_ ?_ ?_) (DL.ft ?_ ?_ ?_ ?_) ?a70 ?l70 ?c70 ?k70 ?z0 ?z1 ?z2 ?z3 ?z4 ?z5 ?z6 ?z7 ?z8 ?z9 ?z10 ?ca0 ?cl0 ?cv0 ?ca1 ?cl1 ?cv1 ?ca2 ?cl2 ?cv2 (DL.uc ?_ ?_ ?_ ?_ ?_ ?_ ?_ (DL.nfc ?_ (DL.nfc ?_ (DL.nfc ?_ DL.nf0)))) (DL.uc ?_ ?_ ?_ ?_ ?_ ?_ ?_ (DL.nfc ?_ (DL.nfc ?_ DL.nf0))) (DL.uc ?_ ?_ ?_ ?_ ?_ ?_ ?_ (DL.nfc ?_ (DL.nfc ?_ DL.nf0))) (DL.uc ?_ ?_ ?_ ?_ ?_ ?_ ?_ (DL.nfc ?_ (DL.nfc ?_ DL.nf0))) ?m_q0 ?i_q0 ?l_q0 ?c_q0 ?k_q0 ?lT_q0 (DL.fq ?_ ?_ ?_ ?_ ?_) ?m_q2 ?i_q2 ?l_q2 ?c_q2 ?k_q2 ?lT_q2 (DL.fq ?_ ?_ ?_ ?_ ?_) ?m_q4 ?i_q4 ?l_q4 ?c_q4 ?k_q4 (DL.fq ?_ ?_ ?_ ?_ ?_) ?m_q6 ?i_q6 ?l_q6 ?c_q6 ?k_q6 ?lT_q6 (DL.fq ?_ ?_ ?_ ?_ ?_)
    all_goals try k_is
    all_goals try k_is
    all_goals first | rfl | decide +kernel | k_exc | kit_is | kts_exm
