import PyProof.Rows.All
import Wide.All
import OpenK.AllK
import Wide.FinOn
import Lean
import PySem.Challenge.RW_coverfill_k34_touched
set_option Elab.async false
set_option linter.all false
set_option maxRecDepth 100000
set_option maxHeartbeats 8000000
set_option compiler.extract_closed false
def zzf {p:Prop}(h:false=true):p:=nomatch h
def zzb (h:Nat.ble a b=true):a<=b:=Nat.le_of_ble_eq_true h
def zzg {O:Type _}{l:List O}{i:Nat}{a:O}(h:l[i]?=some a):∃ w:i<l.length,l[i]=a:=List.getElem?_eq_some_iff.mp h
noncomputable section
set_option hygiene false
local macro_rules | `(tactic| omega)=>`(tactic| first | with_reducible assumption | with_reducible (first | exact Nat.le_of_lt ‹_› | exact Nat.lt_of_lt_of_le ‹_› ‹_› | exact Nat.lt_of_le_of_lt ‹_› ‹_› | exact Nat.le_trans ‹_› ‹_› | exact Nat.succ_le_of_lt ‹_› | exact Nat.lt_succ_of_le ‹_› | exact Nat.le_succ_of_le ‹_› | exact Nat.lt_succ_of_lt ‹_› | exact Nat.ne_of_lt ‹_› | exact Nat.ne_of_gt ‹_› | exact Nat.lt_of_lt_of_le ‹_› (by decide) | exact Nat.le_trans ‹_› (by decide) | exact Nat.le_trans (Nat.le_of_lt ‹_›) ‹_› | exact Nat.le_trans (Nat.le_of_lt ‹_›) (by decide)) | lia)
local macro_rules | `(tactic| walk_at "i")=>`(tactic| first | exact .inl rfl | exact .inr rfl | assumption)
open Bool (and_eq_true)
open PySem.Heap (lt_size get?_push_of_some get?_push_size)
open Nat (le_refl le_trans ne_of_lt lt_irrefl zero_le lt_of_lt_of_le mul_le_mul_right sub_self)
open Option (map_eq_some_iff)
open Classical (choose_spec)
open Int (toNat_natCast fmod_nonneg_of_pos fmod_lt_of_pos)
open List (all_eq_true append_assoc append_nil cons_append drop_eq_nil_of_le ext_getElem? filter_cons flatten_cons forIn_cons getD_eq_getElem?_getD getElem?_append_left getElem?_append_right getElem?_eq_getElem getElem?_eq_none getElem?_map getElem?_range getElem?_replicate getElem?_set_ne getElem?_set_self getElem_mem length_cons length_drop length_map length_range length_replicate length_set length_singleton length_take lookup_cons map_append map_congr_left map_cons map_map map_nil mem_append mem_append_left mem_append_right mem_cons mem_cons_of_mem mem_cons_self mem_filter mem_map mem_of_getElem? mem_range mem_singleton nil_append nodup_cons not_mem_nil of_mem_zip range_succ replicate_succ reverse_cons set_append_right size_toArray take_of_length_le take_succ_cons take_zero)
def qx:=@Option.bind_some
def qy:=@length_map
def qj:=@decide_eq_true_eq
def qQ:=@PySem.wpAny_bind
def qX:=@Bool.false_ne_true
def qY:=@mem_cons_of_mem
def qJ:=@append_assoc
def q0:=@mem_cons_self
def q8:=@PySem.wpAny_pure
def q9:=@mem_append_right
def xq:=@size_toArray
def xy:=@Option.some.inj
def xj:=@lt_of_lt_of_le
def xQ:=@fmod_nonneg_of_pos
def xX:=@length_cons
def xY:=@map_append
def xJ:=@mem_append_left
def x8:=@and_eq_true
def x9:=@map_eq_some_iff
section
namespace L2
open PySem Spec PyProof.Rows
abbrev Key:=Sum Int Str
noncomputable def zSI:Key->Value->Bool
 | .inl k,v=>Value.isInt k v
 | .inr x,v=>Value.isStrOf x v
noncomputable def keyH (w:World):Key->Int
 | .inl k=>hashInt k
 | .inr x=>hashStr w x
def zAt:∀ {k:Key} {v:Value},zSI k v=true->(∃ i t,k=Sum.inl i/\v=Value.int i t)\/(∃ x t,k=Sum.inr x/\v=Value.str x t)
 | .inl i,v,h=>by
  obtain⟨t,e⟩:=Value.isInt_shape (k:=i) (v:=v) h;exact .inl ⟨i,t,rfl,e⟩
 | .inr x,v,h=>by
  obtain⟨t,e⟩:=Value.isStrOf_shape (x:=x) (v:=v) h;exact .inr ⟨x,t,rfl,e⟩
def zSH (a b:Int):decide ((Sum.inl a:Key)=Sum.inl b)=(a==b):=by grind
def zSE (a b:Str):decide ((Sum.inr a:Key)=Sum.inr b)=decide (a=b):=by simp
def zSG (a:Int)(b:Str):decide ((Sum.inl a:Key)=Sum.inr b)=false:=rfl
def zSF (a:Str)(b:Int):decide ((Sum.inr a:Key)=Sum.inl b)=false:=rfl
noncomputable def zKZ (prog:Program)(w:World):PySem.KeyKind prog w Key where
 is:=zSI
 hash:=keyH w
 inj:=λv a b ha hb=>by
  rcases zAt ha with ⟨i,t,rfl,rfl⟩ | ⟨x,t,rfl,rfl⟩
  .rcases zAt hb with ⟨j,u,rfl,e⟩ | ⟨y,u,rfl,e⟩
   .injection e with e1 _;rw[e1]
   .exact nomatch e
  .rcases zAt hb with ⟨j,u,rfl,e⟩ | ⟨y,u,rfl,e⟩
   .exact nomatch e
   .injection e with e1 _;rw[e1]
 byValue:=λk v h=>by
  rcases zAt h with ⟨i,t,rfl,rfl⟩ | ⟨x,t,rfl,rfl⟩<;>rfl
 pyHash:=λhv h=>by
  rcases zAt hv with ⟨i,t,rfl,rfl⟩ | ⟨x,t,rfl,rfl⟩
  .exact wpAny_pyHash_int h
  .exact wpAny_pyHash_str h
 eqBool:=λhu hv h=>by
  rcases zAt hu with ⟨i,t,rfl,rfl⟩ | ⟨x,t,rfl,rfl⟩
  .rcases zAt hv with ⟨j,u,rfl,rfl⟩ | ⟨y,u,rfl,rfl⟩
   .rw [zSH] at h;exact wpAny_eqBool_int h
   .rw [zSG] at h;exact SeqAt.EqAt.int_str i t y u _ _ _ _ h
  .rcases zAt hv with ⟨j,u,rfl,rfl⟩ | ⟨y,u,rfl,rfl⟩
   .rw [zSF] at h;exact SeqAt.EqAt.str_int x t j u _ _ _ _ h
   .rw [zSE] at h;exact wpAny_eqBool_str h
 «strs»:=λk x t v h=>by
  rcases zAt h with ⟨i,u,rfl,e⟩ | ⟨y,u,rfl,e⟩
  .exact nomatch e
  .injection e with e1 _
   subst e1;cases v<;>rfl
end L2
namespace L2
open PySem Spec PyProof.Rows
inductive V where
 | non | bl (b:Bool) | int (i:Int) | str (x:Str) | byt (b:Array UInt8) | flt (b:UInt64) | ref (a:Addr) | ty (n:String)
 deriving DecidableEq
def RelV:V->Value->Prop
 | .non,u=>u=Value.none
 | .bl b,u=>u=Value.bool b
 | .int i,u=>∃ t,u=Value.int i t
 | .str x,u=>∃ t,u=Value.str x t
 | .byt b,u=>∃ t,u=Value.bytes b t
 | .flt b,u=>∃ t,u=Value.float b t
 | .ref a,u=>u=Value.ref a
 | .ty n,u=>u=Value.type n
abbrev Vals:List V->List Value->Prop:=Paired RelV
def Vals.length (r:Vals xs us):xs.length=us.length:=Paired.length r
def Vals.get:∀ {xs:List V} {us:List Value} {i:Nat} {x:V},Vals xs us->xs[i]?=some x->∃ u,us[i]?=some u/\RelV x u
 | _,_,_,_,.nil,e=>by simp at e
 | _,_,0,_,.cons r _,e=>by simp at e;subst e;exact⟨_,rfl,r⟩
 | _,_,i+1,x,.cons _ t,e=>by
  obtain⟨u,h1,h2⟩:=Vals.get (i:=i) (x:=x) t (by simpa using e);exact⟨u,by simpa using h1,h2⟩
theorem Vals.set (r:RelV x u):∀ {xs:List V} {us:List Value} (i:Nat),Vals xs us->Vals (xs.set i x) (us.set i u)
 | _,_,_,.nil=>.nil
 | _,_,0,.cons _ t=>.cons r t
 | _,_,i+1,.cons q t=>.cons q (Vals.set r i t)
theorem Vals.append:∀ {xs ys:List V} {us ws:List Value},Vals xs us->Vals ys ws->Vals (xs++ys) (us++ws)
 | _,_,_,_,.nil,s=>s
 | _,_,_,_,.cons r t,s=>.cons r (Vals.append t s)
theorem Vals.take:∀ {xs:List V} {us:List Value} (n:Nat),Vals xs us->Vals (xs.take n) (us.take n)
 | _,_,0,_=>.nil
 | _,_,_+1,.nil=>.nil
 | _,_,n+1,.cons r t=>.cons r (Vals.take n t)
theorem Vals.drop:∀ {xs:List V} {us:List Value} (n:Nat),Vals xs us->Vals (xs.drop n) (us.drop n)
 | _,_,0,r=>r
 | _,_,_+1,.nil=>.nil
 | _,_,n+1,.cons _ t=>Vals.drop n t
def RelO:Option V->Option Value->Prop
 | some v,some u=>RelV v u
 | none,none=>True
 | _,_=>False
def KV {a:Type}:List (a×V)->List (a×Value)->Prop:=Paired λ(p:a×V) (q:a×Value)=>p.1=q.1/\RelV p.2 q.2
noncomputable def kV:Key->V
 | .inl i=>.int i
 | .inr x=>.str x
set_option genSizeOf false in
set_option genInjectivity false in
inductive HO where
 /-- a list -/
 | lst (xs:List V)
 /-- a tuple (never changes) -/
 | tup (xs:List V)
 /-- a dict whose keys are ints and texts;one whose keys are tuples of ints and texts (the empty one is both) -/
 | dK (kvs:List (Key×V)) | dT (kvs:List (List Key×V))
 /-- a set of ints: its members,its size -/
 | set (S:Int->Bool) (n:Nat)
 /-- an instance of the class at C,its dict at dx,its attributes -/
 | ins (C dx:Addr) (fs:List (Str×V))
 /-- the dict of the instance at x -/
 | own (x:Addr)
 /-- the dict of an exception -/
 | xd (fs:List (Str×V))
 /-- a bound method,f of x -/
 | met (f x:Addr)
 /-- a range object lo,lo+1,.. below hi -/
 | rng (lo hi:Int)
 /-- a thing that is known to the object (the script;a dict while a loop walks it): read,never written while it is so -/
 | frz (o:Obj) (u:HO)
 /-- a code object's table: the codes of the defs made within,all of this name -/
 | tbl (q:Str)
 /-- any other thing,by what is true of its one object (a def of one's own: SetO a S n:=HO.ext λh=>..) -/
 | ext (A:Heap->Prop)
abbrev Hp:=Addr->Option HO
noncomputable def upd (H:Hp)(a:Addr)(o:HO):Hp:=λb=>if b=a then some o else H b
def zAW :upd H a o a=some o:=by unfold upd;rw[if_pos rfl]
def zAQ (h:b≠a):upd H a o b=H b:=by unfold upd;rw[if_neg h]
def zAq {H:Hp}(h:H a=some o)(h':H b=none):a≠b:=by grind
section
variable (P:Program)(w:World)
def zLz (o:Obj)(q:Str):Prop:=∃ vs t,o.data=.fields vs/\vs[1]?=some (.str q t)
def zBl (H:Hp)(h:Heap)(a:Addr):HO->Prop
 | .lst xs=>xs.length<=sizeLine/\∃ (its:List Value) (n:Nat),Vals xs its/\h.get? a=some { cls:=.type "list",data:=.seq its.toArray n }
 | .tup xs=>xs.length<=sizeLine/\∃ its:List Value,Vals xs its/\IsTup h a its.toArray
 | .dK kvs=>kvs.length<=sizeLine/\(a==sysModules)=false/\∃ vs,KV kvs vs/\h.DictOf (zKZ P w) a vs
 | .dT kvs=>kvs.length<=sizeLine/\(a==sysModules)=false/\∃ xs:List (List Key×Addr×Value),
   Paired (λ(p:List Key×V) (q:List Key×Addr×Value)=>p.1=q.1/\H q.2.1=some (.tup (p.1.map kV))/\RelV p.2 q.2.2) kvs xs /\
   ∃ o es ep,h.get? a=some o/\o.ExactDict/\o.data=.dict es ep/\es.toList=xs.map (entryOfKey (tupleKind (zKZ P w)))/\(xs.map (·.1)).Nodup
 | .set S n=>h.SetOf (intKind P w) a S n
 | .ins C dx fs=>H dx=some (.own a)/\fs.length<=1000/\dx≠a/\h.get? a=some (W.instObj C dx) /\
   ∃ mA,h.Ns1 dx mA/\(∀ f,RelO (fs.lookup f) (mA f))/\PySem.Within mA (fs.map (·.1))
 | .own _=>∃ o,h.get? a=some o
 | .xd fs=>∃ mA,h.Ns1 a mA/\∀ f,RelO (fs.lookup f) (mA f)
 | .rng lo hi=>∃ t u v,h.get? a=some { cls:=.type "range",data:=.fields #[.int lo t,.int hi u,.int 1 v] }
 | .frz o u=>h.get? a=some o/\zBl H h a u
 | .tbl q=>∃ ps:Array Value,h.get? a=some { cls:=.none,data:=.fields ps }/\TriplesOk ps.toList/\∀ pos cv,codeAmong pos ps.toList=some cv->∃ c oc u,cv=.ref c/\H c=some (.frz oc u)/\zLz oc q
 | .met f x=>h.get? a=some (W.methodObj (.ref f) (.ref x))
 | .ext A=>A h/\(∃ o,h.get? a=some o)/\∀ h1 h2:Heap,A h1->(∀ o,h1.get? a=some o->h2.get? a=some o)->A h2
def HOk (H:Hp)(h:Heap):Prop:=∀ a o,H a=some o->zBl P w H h a o
end
section
variable {P:Program}{w:World}{H H':Hp}{h h':Heap}{a:Addr}{o:HO}
def zBl.lt (x:zBl P w H h a o):a < h.objs.size:=by
 cases o with
 | lst c=>obtain⟨_,_,_,_,e⟩:=x;exact lt_size e
 | tup c=>obtain⟨_,_,_,p⟩:=x;exact p.lt
 | dK b=>obtain⟨_,_,_,_,o,_,_,e,_⟩:=x;exact lt_size e
 | dT b=>obtain⟨_,_,_,_,o,_,_,e,_⟩:=x;exact lt_size e
 | set S n=>obtain⟨o,_,_,_,e,_⟩:=x;exact lt_size e
 | ins C d fs=>obtain⟨_,_,_,e,_⟩:=x;exact lt_size e
 | own y=>obtain⟨_,e⟩:=x;exact lt_size e
 | xd fs=>obtain⟨_,⟨_,_,_,e,_⟩,_⟩:=x;exact lt_size e
 | rng j i=>obtain⟨_,_,_,e⟩:=x;exact lt_size e
 | frz ob u=>obtain⟨e,_⟩:=x;exact lt_size e
 | tbl q=>obtain⟨g,e,_⟩:=x;exact lt_size e
 | met f y=>exact lt_size (show h.get? a=some _ from x)
 | ext A=>obtain⟨_,⟨_,e⟩,_⟩:=x;exact lt_size e
theorem Paired.mapP {O M:Type}{F G:O->M->Prop}:∀ {Z8:List O} {l₂:List M},Paired F Z8 l₂->(∀ a b,F a b->G a b)->Paired G Z8 l₂
 | _,_,.nil,_=>.nil
 | _,_,.cons r t,f=>.cons (f _ _ r) (Paired.mapP t f)
def zBl.stay (x:zBl P w H h a o)(k:∀ b u,(b=a\/H b=some (.own a))->h.get? b=some u->h'.get? b=some u)
  (F:∀ b,H b=some (.own a)->H' b=some (.own a)) (G:∀ b xs,H b=some (.tup xs)->H' b=some (.tup xs)) (B:∀ b ob u,H b=some (.frz ob u)->(∃ vs,ob.data=.fields vs)->H' b=some (.frz ob u)):zBl P w H' h' a o:=by
 induction o with
 | lst xs=>obtain⟨z,i,n,r,e⟩:=x;exact⟨z,i,n,r,k _ _ (.inl rfl) e⟩
 | tup xs=>obtain⟨z,i,r,ob,e,c⟩:=x;exact⟨z,i,r,ob,k _ _ (.inl rfl) e,c⟩
 | dK j=>obtain⟨z,y,vs,r,ob,es,g,e,c⟩:=x;exact⟨z,y,vs,r,ob,es,g,k _ _ (.inl rfl) e,c⟩
 | dT j =>
  obtain⟨z,y,xs,r,ob,es,g,e,c⟩:=x;exact⟨z,y,xs,Paired.mapP r λp q z=>⟨z.1,G _ _ z.2.1,z.2.2⟩,ob,es,g,k _ _ (.inl rfl) e,c⟩
 | set S n=>obtain⟨ob,es,g,t,e,c⟩:=x;exact⟨ob,es,g,t,k _ _ (.inl rfl) e,c⟩
 | ins C M fs =>
  obtain⟨d,z,I,e,l,⟨m,es,g,s,c⟩,r⟩:=x;exact⟨F _ d,z,I,k _ _ (.inl rfl) e,l,⟨m,es,g,k _ _ (.inr d) s,c⟩,r⟩
 | own y=>obtain⟨ob,e⟩:=x;exact⟨ob,k _ _ (.inl rfl) e⟩
 | xd fs=>obtain⟨l,⟨m,es,g,e,c⟩,r⟩:=x;exact⟨l,⟨m,es,g,k _ _ (.inl rfl) e,c⟩,r⟩
 | rng L N=>obtain⟨t,u,v,e⟩:=x;exact⟨t,u,v,k _ _ (.inl rfl) e⟩
 | frz ob u J=>obtain⟨e,q⟩:=x;exact⟨k _ _ (.inl rfl) e,J q⟩
 | tbl q =>
  obtain⟨K,e,t,c⟩:=x;exact⟨K,k a _ (.inl rfl) e,t,λpos E z=>let ⟨c1,oc,u,e1,s,e3⟩:=c pos E z;⟨c1,oc,u,e1,B _ _ _ s (let ⟨vs,_,d,_⟩:=e3;⟨vs,d⟩),e3⟩⟩
 | met f y =>
  have e:=x;exact k a _ (.inl rfl) e
 | ext A=>obtain⟨p,⟨o,e⟩,st⟩:=x;exact⟨st _ _ p λo q=>k _ _ (.inl rfl) q,⟨o,k _ _ (.inl rfl) e⟩,st⟩
def HOk.lt (x:HOk P w H h)(e:H a=some o):a < h.objs.size:=(x a o e).lt
def HOk.fresh (x:HOk P w H h)(e:h.objs.size<=a):H a=none:=by
 cases q:H a with
 | none=>rfl
 | some u=>exact absurd (xj (x.lt q) e) (lt_irrefl _)
def HOk.kept (x:HOk P w H h)(k:∀ b u,h.get? b=some u->h'.get? b=some u):HOk P w H h':=λa o e =>
 (x a o e).stay (λb u _ q=>k b u q) (λ_ q=>q) (λ_ _ q=>q) λ_ _ _ q _=>q
def HOk.laid (x:HOk P w H h)(k:∀ b u,h.get? b=some u->h'.get? b=some u)(f:h.objs.size<=a)(new:zBl P w (upd H a o) h' a o):HOk P w (upd H a o) h':=λb u e=>by
 have d:=x.fresh f;by_cases hb:b=a
 .subst hb;rw[zAW] at e;cases e;exact new
 .rw [zAQ hb] at e;exact(x b u e).stay (λc v _ q=>k c v q) (λc q=>by rw[zAQ (zAq q d)];exact q) (λc g q=>by rw[zAQ (zAq q d)];exact q) λc ob u q _=>by rw[zAQ (zAq q d)];exact q
end
def Rd (H:Hp)(a:Addr)(u:HO):Prop:=H a=some u\/∃ o,H a=some (.frz o u)
def Rd.ok (r:Rd H a u)(x:HOk P w H h):zBl P w H h a u:=by
 rcases r with r | ⟨o,r⟩
 .exact x a u r
 .obtain ⟨_,q⟩:=x a _ r;omega
def Mut:Option HO->Prop
 | some (.lst _)=>True
 | some (.dK _)=>True
 | some (.dT _)=>True
 | some (.set _ _)=>True
 | some (.ins _ _ _)=>True
 | some (.ext _)=>True
 | _=>False
section
variable {P:Program}{w:World}{H:Hp}{h h':Heap}{x e:Addr}{o':HO}
def HOk.write (ok:HOk P w H h)(mu:Mut (H x))(j:e=x\/H e=some (.own x))(k:∀ b u,b≠e->h.get? b=some u->h'.get? b=some u)(f:∃ u,h'.get? e=some u)
  (new:zBl P w (upd H x o') h' x o'):HOk P w (upd H x o') h':=λb u q=>by
 have a:∀ c y,H c=some (.own y)->c≠x:=λc y r z=>by subst z;rw[r] at mu;exact mu
 by_cases hb:b=x
 .subst hb;rw[zAW] at q;cases q;exact new
 .rw [zAQ hb] at q;by_cases hbe:b=e
  .have g:H b=some (.own x):=by
    grind
   rw[q] at g;cases g;obtain⟨v,l⟩:=f;exact⟨v,by rw[hbe];exact l⟩
  .refine (ok b u q).stay (λc v d r=>k c v ?_ r) (λc r=>by rw[zAQ (a c b r)];exact r) (λc i r=>by rw[zAQ ((λc i r z=>by subst z;rw[r] at mu;exact mu) c i r)];exact r) λc ob v r _=>by rw[zAQ ((λc ob v r z=>by subst z;rw[r] at mu;exact mu) c ob v r)];exact r
   rcases d with rfl | d
   .exact hbe
   .rintro rfl;rcases j with z | z
    .grind
    .rw [d] at z;cases z;exact hb rfl
end
structure Un (fs ex:List Addr)(H H':Hp)(h h':Heap):Prop where
 keep:∀ b o,h.get? b=some o->H b=none->b∉fs->b∉ex->h'.get? b=some o
 slot:∀ b o,h.get? b=some o->H b=none->b∈fs->b∉ex->∃ sl,h'.get? b=some { o with slots:=sl }
 free:∀ b o,h.get? b=some o->H b=none->b∉ex->H' b=none
 there:∀ b o,h.get? b=some o->b∉ex->∃ o',h'.get? b=some o'
 tups:∀ b xs,H b=some (.tup xs)->H' b=some (.tup xs)
 frzs:∀ b o u,H b=some (.frz o u)->H' b=some (.frz o u)
 tbls:∀ b q,H b=some (.tbl q)->H' b=some (.tbl q)
section
variable {fs fs' ex ex':List Addr}{H H1 H2:Hp}{h h1 h2 h':Heap}{a x e:Addr}{o:HO}
def Un.any (u:Un fs ex H H1 h h1)(q:h.get? b=some ob)(n:H b=none)(a:b∉ex):∃ sl,h1.get? b=some { ob with slots:=sl }:=by
 by_cases hb:b∈fs
 .exact u.slot b ob q n hb a
 .exact ⟨ob.slots,u.keep b ob q n hb a⟩
def Un.trans (a:Un fs ex H H1 h h1)(b:Un fs ex H1 H2 h1 h2):Un fs ex H H2 h h2 where
 keep:=λc ob q n f d=>b.keep c ob (a.keep c ob q n f d) (a.free c ob q n d) f d
 slot:=λc ob q n f d=>by
  obtain⟨sl,g⟩:=a.slot c ob q n f d;obtain⟨i,k⟩:=b.slot c _ g (a.free c ob q n d) f d;exact⟨i,k⟩
 free:=λc ob q n d=>by
  obtain⟨j,g⟩:=a.there c ob q d;exact b.free c j g (a.free c ob q n d) d
 there:=λc ob q d=>by
  obtain⟨j,g⟩:=a.there c ob q d;exact b.there c j g d
 tups:=λc e q=>b.tups c e (a.tups c e q)
 frzs:=λc ob e q=>b.frzs c ob e (a.frzs c ob e q)
 tbls:=λc l q=>b.tbls c _ (a.tbls c l q)
def Un.kept (k:∀ b u,h.get? b=some u->h'.get? b=some u):Un fs ex H H h h' :=
 ⟨λb ob q _ _ _=>k b ob q,λb ob q _ _ _=>⟨ob.slots,k b ob q⟩,λ_ _ _ n _=>n,λb ob q _=>⟨ob,k b ob q⟩,λ_ _ q=>q,λ_ _ _ q=>q,λ_ _ q=>q⟩
def Un.refl:Un fs ex H H h h:=Un.kept λ_ _ q=>q
def Un.laid (k:∀ b u,h.get? b=some u->h'.get? b=some u)(d:h.objs.size<=a)(c:H a=none):Un fs ex H (upd H a o) h h' where
 keep:=λb u q _ _ _=>k b u q
 slot:=λb u q _ _ _=>⟨u.slots,k b u q⟩
 free:=λb u q n _=>by rw[zAQ (ne_of_lt (xj (lt_size q) d))];exact n
 there:=λb u q _=>⟨u,k b u q⟩
 tups:=λb e q=>by rw[zAQ (zAq q c)];exact q
 frzs:=λb u e q=>by rw[zAQ (zAq q c)];exact q
 tbls:=λb f q=>by rw[zAQ (zAq q c)];exact q
def Un.write (mu:Mut (H x))(j:e=x\/H e=some (.own x))(k:∀ b u,b≠e->h.get? b=some u->h'.get? b=some u)(g:∃ u,h'.get? e=some u):Un fs ex H (upd H x o) h h':=by
 have f:∀ b,H b=none->b≠x:=λb n z=>by subst z;rw[n] at mu;exact mu
 have c:∀ b,H b=none->b≠e:=λb n z=>by
  grind
 have a:∀ b u,H b=some u->¬ Mut (some u)->b≠x:=λb u q nm z=>by subst z;rw[q] at mu;exact nm mu
 refine⟨λb u q n _ _=>k b u (c b n) q,λb u q n _ _=>⟨u.slots,k b u (c b n) q⟩,λb u q n _=>by rw[zAQ (f b n)];exact n,λb u q _=>?_,
  λb d q=>by rw[zAQ (a b _ q λz=>z)];exact q,λb u d q=>by rw[zAQ (a b _ q λz=>z)];exact q,λb i q=>by rw[zAQ (a b _ q λz=>z)];exact q⟩
 grind
def Un.mono (u:Un fs ex H H1 h h1)(d:∀ b∈fs,b∈fs')(c:∀ b∈ex,b∈ex'):Un fs' ex' H H1 h h1 :=
 ⟨λb ob q n e a=>u.keep b ob q n (λz=>e (d b z)) λz=>a (c b z),λ_ _ q n _ a=>u.any q n λz=>a (c _ z),λb ob q n a=>u.free b ob q n λz=>a (c b z),λb ob q a=>u.there b ob q λz=>a (c b z),u.tups,u.frzs,u.tbls⟩
end
noncomputable def trk (h:Heap)(H:Hp):List Addr:=(List.range h.objs.size).filter λa=>(H a).isSome
noncomputable def hidT (h:Heap)(H:Hp):Heap:=W.hideAll h (trk h H)
def zMs (e:h.get? b=some o)(n:H b=none):(hidT h H).get? b=some o :=
 W.hideAll_get _ e λhm=>by
  have q:=(mem_filter.mp hm).2;grind
def zPK (e:(hidT h H).get? b=some o):h.get? b=some o/\H b=none:=by
 have a:=W.of_hideAll _ e
 simp_all
 cases q:H b with
 | none=>rfl
 | some x =>
  have z:(hidT h H).get? b=none:=W.hideAll_none _ (mem_filter.mpr ⟨mem_range.mpr (lt_size a),by simp[q]⟩);grind
end L2
namespace L2
open PySem Spec PyProof.Rows
noncomputable def zBs:List Str:=["thinned_covers","Fill.films","Join.films","Group.films"]
noncomputable def lamQ (x:Str):Str:=x ++ ".<locals>." ++ "<lambda>"
noncomputable def zKc:List (Str×Str×Str):=[("Fill.films","Fill","films"),("Join.films","Join","films"),("Group.films","Group","films")]
noncomputable def zQ1 (K:W.Frag)(f:Addr):Option (Addr×Addr):=match K.lookup f with
 | some ⟨_,_,.func fd,_⟩=>(match fd.code with
  | .ref c=>(match K.lookup c with
   | some ⟨_,_,.fields vs,_⟩=>(match (vs[11]?:Option Value) with
    | some (.ref P)=>some (c,P)
    | _=>none)
   | _=>none)
  | _=>none)
 | _=>none
noncomputable def zEZ (K:W.Frag)(x:Str):Option Addr:=match zKc.lookup x with
 | some (c,m)=>(match W.nsIn K mainGlobals c with
  | some (some (.ref C))=>(match W.findIn K (.ref C) m with
   | some (some (.ref f))=>some f
   | _=>none)
  | _=>none)
 | none=>(match W.nsIn K mainGlobals x with
  | some (some (.ref f))=>some f
  | _=>none)
noncomputable def tabQ (K:W.Frag)(x:Str):Option (Addr×Addr):=(zEZ K x).bind (zQ1 K)
def zJX {K:W.Frag}(a:tabQ K x=some (c,P))(e:zEZ K x=some f)(b:K.lookup f=some ⟨oc,od,.func fd,sl⟩):fd.code=.ref c:=by
 unfold tabQ at a
 simp_all
 unfold zQ1 at a;rw[b] at a
 simp_all
 split at a
 .rename_i g d;split at a
  .split at a
   .grind
   .cases a
  .cases a
 .cases a
structure Mod (K:W.Frag)(mg:Str->Option Value)(base:Heap):Prop where
 kin:K.In base
 glob:base.Ns mainGlobals mg
 blt:∃ mb,base.Ns builtinsNs mb/\∀ x:Str,x ≠ "__name__"->mb x=bootBuiltins x
 nolimit:base.NoLimit
 seer:base.NoSeer
 bm:∃ bm ob,mg "__builtins__"=some (.ref bm)/\bm≠builtinsNs/\base.get? bm=some ob/\ob.cls=.type "module"/\ob.dict=some builtinsNs/\ob.data=.plain
 codes:∀ x∈zBs,∀ c P,tabQ K x=some (c,P)->W.CodeHd base c P
def zIc (K:W.Frag)(H:Hp):Prop:=∀ x∈zBs,∀ c P,tabQ K x=some (c,P)->H P=some (.tbl (lamQ x))
structure Cx where
 prog:Program
 w:World
 K:W.Frag
 mg:Str->Option Value
 base:Heap
 A:Around
 N:List Str
 s0:Shared
 Y8:Hp
 env:Env
 outer:List Env
 stack:List Env
 ex:List Addr
 fn:Str->Bool
 calm:Bool
 pn:List (Addr×Obj)
 xe:Value->Shared->Prop
noncomputable def frs (l:List Env):List Addr:=l.filterMap (·.frame)
abbrev Cx.fs (X:Cx):List Addr:=frs X.outer
def Vis (sc:Scope)(x:Str):Prop:=sc.names.lookup x=some .local\/sc.names.lookup x=some .cell\/sc.names.lookup x=some .free
def Loc (sc:Scope)(x:Str):Prop:=sc.names.lookup x=some .local\/sc.names.lookup x=some .cell
def Look (env:Env)(h:Heap)(m:Str->Option Value)(x:Str)(u:Value):Prop :=
 (env.kindOf x=some .local/\m x=some u)\/((env.kindOf x=some .cell\/env.kindOf x=some .free)/\∃ c,env.cells.lookup x=some c/\h.IsCell c (some u))
structure Cx.Ok (X:Cx):Prop where
 mod:Mod X.K X.mg X.base
 kind:X.env.scope.kind=.function
 glob:X.env.globals=mainGlobals
 blt:X.env.builtins=builtinsNs
 above:X.s0.heap.objs.size<=X.env.locals
 inj:∀ x y c,X.env.cells.lookup x=some c->X.env.cells.lookup y=some c->x=y
 has:∀ x,(X.env.kindOf x=some .cell\/X.env.kindOf x=some .free)->∃ c,X.env.cells.lookup x=some c
 cab:∀ x c,X.fn x=true->X.env.cells.lookup x=some c->X.s0.heap.objs.size<=c
 hd:X.calm=true->X.A.handled=none
 frames:X.A.frames=some X.stack
 stk:X.stack=X.outer\/(X.stack=X.env::X.outer/\X.env.frame=some X.env.locals)
 exf:∀ b∈X.ex,b≠X.env.locals/\∀ x c,X.env.cells.lookup x=some c->c≠b
 bs:∀ b o,X.base.get? b=some o->X.s0.heap.get? b=some o/\X.Y8 b=none
 bsz:X.base.objs.size<=X.s0.heap.objs.size
 noex:∀ b o,X.base.get? b=some o->b∉X.ex
 exfs:∀ b∈X.ex,b∉X.fs
 funs:X.s0.heap.FunFrames X.base X.outer
 frf:∀ b∈X.fs,X.Y8 b=none
 pyl:X.A.depth+Builtin.pylongFrames < recursionLimit/\(model X.prog X.w).prog.given.tree=none/\∃ e l,X.stack=e::l/\e.scope.isGenerator=false/\e.scope.isCoroutine=false/\e.builtins=builtinsNs/\e.globals=mainGlobals
 tabs:zIc X.K X.Y8
structure Inv (X:Cx)(pins:List (Addr×Obj))(σ:List (Option V))(H:Hp)(s:Shared):Prop where
 ok:X.Ok
 os:s.os=X.s0.os
 bare:AllBare s.gens
 base:Un X.fs X.ex X.Y8 H X.s0.heap s.heap
 loc:∃ m,s.heap.Ns X.env.locals m/\∀ (i:Nat) (x:Str) (v:V),X.N[i]?=some x->σ[i]?=some (some v)->Vis X.env.scope x->∃ u,RelV v u/\Look X.env s.heap m x u
 cell:∀ x c,X.env.cells.lookup x=some c->∃ v,s.heap.IsCell c v
 free:H X.env.locals=none
 freeC:∀ x c,X.env.cells.lookup x=some c->H c=none
 pin:∀ p∈X.pn++pins,s.heap.get? p.1=some p.2/\H p.1=none/\p.1≠X.env.locals/\p.1∉X.fs/\∀ v,p.2.data≠.cell v
 hok:HOk X.prog X.w H s.heap
 len:σ.length=X.N.length
section
variable {X:Cx}{pins:List (Addr×Obj)}{σ:List (Option V)}{H H':Hp}{s:Shared}{h':Heap}
def Cx.Ok.nofr (ok:X.Ok)(e:X.base.get? b=some o):b∉X.fs:=λhb=>by
 have:=(ok.funs.mem hb).1;grind
def Inv.bs (I:Inv X pins σ H s):∀ b o,X.base.get? b=some o->s.heap.get? b=some o/\H b=none:=λb o e =>
 ⟨I.base.keep b o (I.ok.bs b o e).1 (I.ok.bs b o e).2 (I.ok.nofr e) (I.ok.noex b o e),I.base.free b o (I.ok.bs b o e).1 (I.ok.bs b o e).2 (I.ok.noex b o e)⟩
def Inv.bk (I:Inv X pins σ H s):∀ b o,X.base.get? b=some o->s.heap.get? b=some o:=λb o e=>(I.bs b o e).1
def Inv.mod (I:Inv X pins σ H s):Mod X.K X.mg X.base:=I.ok.mod
def Inv.kIn (I:Inv X pins σ H s):X.K.In s.heap:=I.ok.mod.kin.keeps I.bk
def Inv.nolimit (I:Inv X pins σ H s):s.heap.NoLimit:=I.ok.mod.nolimit.keeps I.bk
def Inv.lt (I:Inv X pins σ H s):X.env.locals < s.heap.objs.size:=let ⟨_,hn,_⟩:=I.loc;hn.lt
def Inv.sz (I:Inv X pins σ H s):X.s0.heap.objs.size<=s.heap.objs.size:=le_trans I.ok.above (Nat.le_of_lt I.lt)
def Inv.nofs (I:Inv X pins σ H s){a:Addr}(h:s.heap.objs.size<=a):a∉X.fs:=λhb=>by
 obtain⟨_,o,b,_⟩:=I.ok.funs.mem hb;exact absurd (xj (lt_size b) (le_trans I.sz h)) (lt_irrefl _)
def Inv.cne (I:Inv X pins σ H s):∀ x c,X.env.cells.lookup x=some c->c≠X.env.locals:=λx c e z=>by
 obtain⟨v,o,g,d⟩:=I.cell x c e;obtain⟨m,⟨h,es,f,b,a,_⟩,_⟩:=I.loc;grind
def Inv.funs (I:Inv X pins σ H s):s.heap.FunFrames X.base X.outer:=by
 have all:∀ (l:List Env),(∀ b∈frs l,b∈X.fs)->X.s0.heap.FunFrames X.base l->s.heap.FunFrames X.base l:=by
  intro l
  induction l with
  | nil=>intro _ _;trivial
  | cons m r g =>
   intro f n;obtain⟨i,⟨L,o,a,k,h,j⟩,hr⟩:=n;have d:L∈X.fs:=f L (by unfold frs;rw[List.filterMap_cons,a];exact q0);obtain⟨sl,e⟩:=I.base.slot L o h (I.ok.frf L d) d λz=>I.ok.exfs L z d
   exact⟨i,⟨L,_,a,k,e,j⟩,g (λb c=>f b (by unfold frs;rw[List.filterMap_cons,a];exact qY _ c)) hr⟩
 exact all X.outer (λ_ c=>c) I.ok.funs
def Inv.stack (I:Inv X pins σ H s):s.heap.FunFrames X.base X.stack:=by
 rcases I.ok.stk with e | ⟨e,hf⟩
 .rw [e];exact I.funs
 .rw [e];obtain⟨m,a,_⟩:=I.loc;refine .cons (by rw[I.ok.kind];decide) hf a ?_ I.funs;exact Heap.get?_none_of_le (le_trans I.ok.bsz I.ok.above)
def Inv.stkSub (I:Inv X pins σ H s):∀ b∈frs X.stack,b∈X.env.locals::X.fs:=λb a=>by
 rcases I.ok.stk with e | ⟨e,hf⟩
 .simp_all
 .rw [e] at a;unfold frs at a;rw[List.filterMap_cons,hf] at a;exact a
def Inv.stkFree (I:Inv X pins σ H s):∀ b∈frs X.stack,H b=none:=λb a=>by
 rcases mem_cons.mp (I.stkSub b a) with e | a
 .rw [e];exact I.free
 .obtain ⟨_,o,c,_⟩:=I.ok.funs.mem a;exact I.base.free b o c (I.ok.frf b a) λz=>I.ok.exfs b z a
def Inv.step {ch:List Addr}(I:Inv X pins σ H s)
  (g:∀ b∈ch,(b∈X.ex\/X.s0.heap.objs.size<=b)/\b≠X.env.locals/\(∀ x c,X.env.cells.lookup x=some c->c≠b)/\∀ p∈X.pn++pins,p.1≠b)
  (keep:∀ b o,b≠X.env.locals->b∉X.fs->b∉ch->s.heap.get? b=some o->H b=none->h'.get? b=some o)
  (t:∀ b o,b≠X.env.locals->b∈X.fs->b∉ch->s.heap.get? b=some o->H b=none->∃ sl,h'.get? b=some { o with slots:=sl }) (free:∀ b o,b∉ch->s.heap.get? b=some o->H b=none->H' b=none)
  (y:∀ b o,b∉ch->s.heap.get? b=some o->∃ o',h'.get? b=some o')
  (D:∀ b xs,H b=some (.tup xs)->H' b=some (.tup xs)) (E:∀ b o u,H b=some (.frz o u)->H' b=some (.frz o u)) (F:∀ b q,H b=some (.tbl q)->H' b=some (.tbl q))
  (ns:∀ m,s.heap.Ns X.env.locals m->h'.Ns X.env.locals m) (L:HOk X.prog X.w H' h') (Q:AllBare g') :
  Inv X pins σ H' { s with heap:=h',gens:=g',drawn:=d',toks:=t' }:=by
 have C:∀ b o,X.s0.heap.get? b=some o->b≠X.env.locals:=λb o e=>ne_of_lt (xj (lt_size e) I.ok.above)
 have j:∀ b o,X.s0.heap.get? b=some o->b∉X.ex->b∉ch:=λb o e a A=>by
  rcases(g b A).1 with z | z
  .exact a z
  .exact absurd (xj (lt_size e) z) (lt_irrefl _)
 have h:∀ x c,X.env.cells.lookup x=some c->∀ v,s.heap.IsCell c v->h'.IsCell c v:=λx c e v M=>by
  obtain⟨o,B,K⟩:=M;have f:c∉ch:=λz=>(g c z).2.2.1 x c e rfl
  by_cases hc:c∈X.fs
  .obtain ⟨sl,q⟩:=t c o (I.cne x c e) hc f B (I.freeC x c e);exact⟨_,q,K⟩
  .exact ⟨o,keep c o (I.cne x c e) hc f B (I.freeC x c e),K⟩
 refine⟨I.ok,I.os,Q,⟨λb o e n A a=>?_,λb o e n A a=>?_,λb o e n a=>?_,λb o e a=>?_,λb xs e=>D b xs (I.base.tups b xs e),λb o xs e=>E b o xs (I.base.frzs b o xs e),λb S e=>?_⟩,?_,λx c e=>?_,?_,λx c e=>?_,λp O=>?_,L,I.len⟩
 .exact keep b o (C b o e) A (j b o e a) (I.base.keep b o e n A a) (I.base.free b o e n a)
 .obtain ⟨sl,w⟩:=I.base.slot b o e n A a;obtain⟨G,J⟩:=t b _ (C b o e) A (j b o e a) w (I.base.free b o e n a);exact⟨G,J⟩
 .obtain ⟨o',w⟩:=I.base.there b o e a;exact free b o' (j b o e a) w (I.base.free b o e n a)
 .obtain ⟨o',w⟩:=I.base.there b o e a;exact y b o' (j b o e a) w
 .exact F b _ (I.base.tbls b S e)
 .obtain ⟨m,U,T⟩:=I.loc;refine⟨m,ns m U,λi x v w J R=>?_⟩;obtain⟨u,r,l⟩:=T i x v w J R;refine⟨u,r,?_⟩;rcases l with l | ⟨k,c,e,z⟩
  .exact .inl l
  .exact .inr ⟨k,c,e,h x c e _ z⟩
 .obtain ⟨v,z⟩:=I.cell x c e;exact⟨v,h x c e v z⟩
 .obtain ⟨m,⟨o,_,_,B,_⟩,_⟩:=I.loc;exact free _ o (λz=>(g _ z).2.1 rfl) B I.free
 .obtain ⟨v,o,B,K⟩:=I.cell x c e;exact free c o (λz=>(g c z).2.2.1 x c e rfl) B (I.freeC x c e)
 .obtain ⟨e,n,N,P,d⟩:=I.pin p O;have f:p.1∉ch:=λz=>(g p.1 z).2.2.2 p O rfl
  exact⟨keep p.1 p.2 N P f e n,free p.1 p.2 f e n,N,P,d⟩
def Inv.un (I:Inv X pins σ H s)(u:Un X.fs [] H H' s.heap h')(f:HOk X.prog X.w H' h'):Inv X pins σ H' { s with heap:=h',toks:=t' }:=by
 obtain⟨m,⟨o,es,l,h,r⟩,_⟩:=id I.loc;obtain⟨sl,k⟩:=u.any h I.free (by simp);exact I.step (ch:=[]) (λ_ z=>nomatch z) (λb o _ d _ e n=>u.keep b o e n d (by simp)) (λb o _ d _ e n=>u.slot b o e n d (by simp)) (λb o _ e n=>u.free b o e n (by simp)) (λb o _ e=>u.there b o e (by simp)) u.tups u.frzs u.tbls (λm' j=>by
  obtain⟨p,g,c,a,i⟩:=j;rw[h] at a;cases a;exact⟨_,g,c,k,i⟩) f I.bare
def Inv.call (I:Inv X pins σ H s)(u:Un (frs X.stack) ch H H' s.heap h')(i:HOk X.prog X.w H' h')(t:AllBare g')
  (d:∀ b∈ch,(b∈X.ex\/X.s0.heap.objs.size<=b)/\b≠X.env.locals/\(∀ x c,X.env.cells.lookup x=some c->c≠b)/\∀ p∈X.pn++pins,p.1≠b) :
  Inv X pins σ H' { s with heap:=h',gens:=g',drawn:=d',toks:=t' }:=by
 obtain⟨m,⟨o,es,w,k,r⟩,_⟩:=id I.loc;obtain⟨sl,j⟩:=u.any k I.free λz=>(d _ z).2.1 rfl
 exact I.step d (λb o j v a e n=>u.keep b o e n (λz=>(mem_cons.mp (I.stkSub b z)).elim j v) a) (λb o _ _ a e n=>u.any e n a) (λb o a e n=>u.free b o e n a) (λb o a e=>u.there b o e a) u.tups u.frzs u.tbls (λm' l=>by
  obtain⟨y,g,h,f,q⟩:=l;rw[k] at f;cases f;exact⟨_,g,h,j,q⟩) i t
def Inv.turned (I:Inv X pins σ H s)(k:∀ b o,b≠it->s.heap.get? b=some o->h'.get? b=some o)(j:H it=none)(d:it≠X.env.locals)
  (h1:it∈X.ex\/X.s0.heap.objs.size<=it) (h2:∀ x c,X.env.cells.lookup x=some c->c≠it) (h3:∀ p∈X.pn++pins,p.1≠it):Inv X pins σ H { s with heap:=h',toks:=t' }:=by
 refine I.step (ch:=[it]) (λb h=>?_) (λb o _ _ a e _=>k b o (λz=>a (by grind)) e) (λb o _ _ a e _=>⟨o.slots,k b o (λz=>a (by simp[z])) e⟩) (λ_ _ _ _ n=>n)
  (λb o a e=>⟨o,k b o (λz=>a (by simp[z])) e⟩) (λ_ _ e=>e) (λ_ _ _ e=>e) (λ_ _ e=>e) (λm f=>?_) (λb u e=>?_) I.bare
 .have e:b=it:=by simpa using h
  subst e;exact⟨h1,d,h2,h3⟩
 .obtain ⟨o,es,g,i,r⟩:=f;exact⟨o,es,g,k _ o (Ne.symm d) i,r⟩
 .refine (I.hok b u e).stay (λc v a q=>k c v ?_ q) (λ_ q=>q) (λ_ _ q=>q) λ_ _ _ q _=>q
  grind
def Inv.tabs (I:Inv X pins σ H s):zIc X.K H:=λx a c P e=>I.base.tbls _ _ (I.ok.tabs x a c P e)
def Inv.tok (I:Inv X pins σ H s)(t:Nat):Inv X pins σ H { s with toks:=t }:=I.un Un.refl I.hok
def Inv.kept (I:Inv X pins σ H s)(k:∀ b u,s.heap.get? b=some u->h'.get? b=some u):Inv X pins σ H { s with heap:=h',toks:=t' }:=I.un (Un.kept k) (I.hok.kept k)
def Inv.laid {a:Addr}{o:HO}{t':Nat}(I:Inv X pins σ H s)(k:∀ b u,s.heap.get? b=some u->h'.get? b=some u)(c:s.heap.objs.size<=a)(new:zBl X.prog X.w (upd H a o) h' a o) :
  Inv X pins σ (upd H a o) { s with heap:=h',toks:=t' }:=I.un (Un.laid k c (I.hok.fresh c)) (I.hok.laid k c new)
def Inv.write (I:Inv X pins σ H s)(mu:Mut (H x))(c:e=x\/H e=some (.own x))(k:∀ b u,b≠e->s.heap.get? b=some u->h'.get? b=some u)(a:∃ u,h'.get? e=some u)
  (new:zBl X.prog X.w (upd H x o) h' x o):Inv X pins σ (upd H x o) { s with heap:=h',toks:=t' }:=I.un (Un.write mu c k a) (I.hok.write mu c k a new)
def Inv.pins_of (I:Inv X pins σ H s)(h:∀ p∈pins',s.heap.get? p.1=some p.2/\H p.1=none/\p.1≠X.env.locals/\p.1∉X.fs/\∀ v,p.2.data≠.cell v):Inv X pins' σ H s :=
 ⟨I.ok,I.os,I.bare,I.base,I.loc,I.cell,I.free,I.freeC,λp a=>(mem_append.mp a).elim (λz=>I.pin p (xJ _ z)) (h p),I.hok,I.len⟩
def zH4 {N:List Str}(e:N.Nodup){j:Nat}{x:Str}(a:N[i]?=some x)(b:N[j]?=some x):i=j:=by
 obtain⟨h1,d⟩:=zzg a;obtain⟨h2,c⟩:=zzg b;exact(List.getElem_inj e).mp (d.trans c.symm)
def zJa (I:Inv X pins σ H s)(hN:X.N.Nodup)(G:X.N[i]?=some x)(w:Loc X.env.scope x)(r:RelV v u)
  (h:∀ s',Inv X pins (σ.set i (some v)) H s'->(∃ a,Heap.SameBut a s.heap s'.heap/\(a=X.env.locals\/X.env.cells.lookup x=some a))->Q () s') (hf:X.fn x=true\/X.env.scope.names.lookup x=some .local:=by walk_at "i"):wpAny M A (storeName X.env x u) Q E s:=by
 obtain⟨m,Z,hl⟩:=id I.loc;have Z9:i < σ.length:=by rw[I.len];exact(zzg G).1
 have cne:=I.cne;have l:∀ {a:Addr} {h':Heap},(∃ o,s.heap.get? a=some o/\H a=none)->Heap.SameBut a s.heap h'->HOk X.prog X.w H h':=λ{a h'} ha f b ob e=>by
  obtain⟨_,_,B⟩:=ha;refine(I.hok b ob e).stay (λc N t q=>(f.2 c ?_).trans q) (λ_ q=>q) (λ_ _ q=>q) λ_ _ _ q _=>q
  rintro rfl;rcases t with rfl | t
  .rw [B] at e;cases e
  .rw [B] at t;cases t
 rcases w with hk | hk
 .refine wpAny_storeName_local hk Z (λh' S f=>?_) (by rw[I.ok.kind];rfl);obtain⟨oL,_,_,V,_⟩:=id Z;refine h _ ⟨I.ok,I.os,I.bare,⟨λb o e n F w=>?_,λb o e n F w=>?_,I.base.free,λb o e w=>?_,I.base.tups,I.base.frzs,I.base.tbls⟩,⟨_,S,λj y U g C T=>?_⟩,λy c e=>?_,I.free,I.freeC,λp hp=>?_,l ⟨oL,V,I.free⟩ f,by simpa using I.len⟩ ⟨_,f,.inl rfl⟩
  .exact (f.2 b (ne_of_lt (xj (lt_size e) I.ok.above))).trans (I.base.keep b o e n F w)
  .obtain ⟨sl,g⟩:=I.base.slot b o e n F w;exact⟨sl,(f.2 b (ne_of_lt (xj (lt_size e) I.ok.above))).trans g⟩
  .obtain ⟨o',g⟩:=I.base.there b o e w;exact⟨o',(f.2 b (ne_of_lt (xj (lt_size e) I.ok.above))).trans g⟩
  .by_cases hj:j=i
   .subst hj;rw[G] at g;cases g;rw[getElem?_set_self Z9] at C;cases C;exact⟨u,r,.inl ⟨hk,by simp⟩⟩
   .rw [getElem?_set_ne (Ne.symm hj)] at C;obtain⟨Y,W,q⟩:=hl j y U g C T;refine⟨Y,W,?_⟩;rcases q with ⟨k,e⟩ | ⟨k,c,e,z⟩
    .refine .inl ⟨k,?_⟩;have:y≠x:=λe=>hj (zH4 hN g (e▸G))
     simp[this,e]
    .exact .inr ⟨k,c,e,z.sameBut f (cne y c e)⟩
  .obtain ⟨N,z⟩:=I.cell y c e;exact⟨N,z.sameBut f (cne y c e)⟩
  .obtain ⟨e,n,R,nf,d⟩:=I.pin p hp;exact⟨(f.2 p.1 R).trans e,n,R,nf,d⟩
 .have D:X.fn x=true:=by
   rcases hf with z | z
   .exact z
   .rw [z] at hk;cases hk
  obtain⟨c,t⟩:=I.ok.has x (.inl hk);obtain⟨N,z⟩:=I.cell x c t;refine wpAny_storeName_cell I.ok.kind hk t z (λh' L f=>?_);obtain⟨oc,J,K⟩:=id z;refine h { s with heap:=h' } ⟨I.ok,I.os,I.bare,⟨λb o e n F w=>?_,λb o e n F w=>?_,I.base.free,λb o e w=>?_,I.base.tups,I.base.frzs,I.base.tbls⟩,⟨m,Z.sameBut f (Ne.symm (cne x c t)),λj y U g C T=>?_⟩,λy P e=>?_,I.free,I.freeC,λp hp=>?_,l ⟨oc,J,I.freeC x c t⟩ f,by simpa using I.len⟩ ⟨c,f,.inr t⟩
  .exact (f.2 b (ne_of_lt (xj (lt_size e) (I.ok.cab x c D t)))).trans (I.base.keep b o e n F w)
  .obtain ⟨sl,g⟩:=I.base.slot b o e n F w;exact⟨sl,(f.2 b (ne_of_lt (xj (lt_size e) (I.ok.cab x c D t)))).trans g⟩
  .obtain ⟨o',g⟩:=I.base.there b o e w;exact⟨o',(f.2 b (ne_of_lt (xj (lt_size e) (I.ok.cab x c D t)))).trans g⟩
  .by_cases hj:j=i
   .subst hj;rw[G] at g;cases g;rw[getElem?_set_self Z9] at C;cases C;exact⟨u,r,.inr ⟨.inl hk,c,t,L⟩⟩
   .rw [getElem?_set_ne (Ne.symm hj)] at C;obtain⟨Y,W,q⟩:=hl j y U g C T;refine⟨Y,W,?_⟩;rcases q with q | ⟨k,P,e,z'⟩
    .exact .inl q
    .refine .inr ⟨k,P,e,z'.sameBut f ?_⟩;rintro rfl;exact hj (zH4 hN g (I.ok.inj _ _ _ e t▸G))
  .by_cases hcc:P=c
   .subst hcc;exact⟨_,L⟩
   .obtain ⟨w2,z2⟩:=I.cell y P e;exact⟨w2,z2.sameBut f hcc⟩
  .obtain ⟨e,n,R,nf,d⟩:=I.pin p hp;refine⟨(f.2 p.1 ?_).trans e,n,R,nf,d⟩;intro q;rw[q,J] at e;have q':oc=p.2:=xy e;exact d N (by rw[<- q'];exact K)
def zFX (I:Inv X pins σ H s)(a:X.N.Nodup)(e:X.N[i]?=some x)(c:Loc X.env.scope x)(r:RelV v u)
  (h:∀ s',Inv X pins (σ.set i (some v)) H s'->Q () s') (d:X.fn x=true\/X.env.scope.names.lookup x=some .local:=by walk_at "i"):wpAny M A (storeName X.env x u) Q E s :=
 zJa I a e c r (λs' b _=>h s' b) d
def Inv.call' (I:Inv X pins σ H s)(e:s'.os=s.os)(u:Un (frs X.stack) ch H H' s.heap s'.heap)(d:HOk X.prog X.w H' s'.heap)(f:AllBare s'.gens)
  (a:∀ b∈ch,(b∈X.ex\/X.s0.heap.objs.size<=b)/\b≠X.env.locals/\(∀ x c,X.env.cells.lookup x=some c->c≠b)/\∀ p∈X.pn++pins,p.1≠b):Inv X pins σ H' s':=by
 obtain⟨h,g,j,k,i⟩:=s';subst e;exact I.call u d f a
end
abbrev XK:=Value->Option Addr->Hp->Prop
abbrev St:=List (Option V)
abbrev VK:=V->Hp->Prop
abbrev TE:=St->Hp->VK->Prop
abbrev TT:=St->Hp->(Bool->Hp->Prop)->Prop
abbrev TA:=St->Hp->(List V->Hp->Prop)->Prop
structure Ends where
 nx:St->Hp->Prop
 rt:VK
 bk:St->Hp->Prop:=λ_ _=>False
 ct:St->Hp->Prop:=λ_ _=>False
abbrev TS:=Ends->St->Hp->Prop
def EP (X:Cx)(pins:List (Addr×Obj))(σ:St)(Q:VK)(u:Value)(s':Shared):Prop:=∃ v H',Inv X pins σ H' s'/\RelV v u/\Q v H'
def TP (X:Cx)(pins:List (Addr×Obj))(σ:St)(Q:Bool->Hp->Prop)(b:Bool)(s':Shared):Prop:=∃ H',Inv X pins σ H' s'/\Q b H'
def AP (X:Cx)(pins:List (Addr×Obj))(σ:St)(Q:List V->Hp->Prop)(us:List Value)(s':Shared):Prop:=∃ vs H',Inv X pins σ H' s'/\Vals vs us/\Q vs H'
def SP (X:Cx)(pins:List (Addr×Obj))(D:Ends)(f:Flow)(s':Shared):Prop :=
 match f with
 | .next=>∃ O1 H',Inv X pins O1 H' s'/\D.nx O1 H'
 | .brk=>∃ O1 H',Inv X pins O1 H' s'/\D.bk O1 H'
 | .cont=>∃ O1 H',Inv X pins O1 H' s'/\D.ct O1 H'
 | .ret u=>∃ v O1 H',Inv X pins O1 H' s'/\RelV v u/\D.rt v H'
def PE (X:Cx)(e:Expr)(t:TE):Prop :=
 ∀ (pins:List (Addr×Obj)) (s:Shared) (σ:St) (H:Hp) (Q:VK),Inv X pins σ H s->t σ H Q->wpAny (model X.prog X.w) X.A (eval e X.env) (EP X pins σ Q) X.xe s
def PT (X:Cx)(e:Expr)(t:TT):Prop :=
 ∀ (pins:List (Addr×Obj)) (s:Shared) (σ:St) (H:Hp) (Q:Bool->Hp->Prop),Inv X pins σ H s->t σ H Q->wpAny (model X.prog X.w) X.A (isTrue e X.env (eval e X.env)) (TP X pins σ Q) X.xe s
def PW (X:Cx)(e:Expr)(t:TT):Prop :=
 ∀ (whole:Sem Value) (pins:List (Addr×Obj)) (s:Shared) (σ:St) (H:Hp) (Q:Bool->Hp->Prop),Inv X pins σ H s->t σ H Q->wpAny (model X.prog X.w) X.A (isTrue e X.env whole) (TP X pins σ Q) X.xe s
def PW.pt (h:PW X e t):PT X e t:=h _
def PA (X:Cx)(es:List Expr)(t:TA):Prop :=
 ∀ (pos:Pos) (pins:List (Addr×Obj)) (s:Shared) (σ:St) (H:Hp) (Q:List V->Hp->Prop),Inv X pins σ H s->t σ H Q->wpAny (model X.prog X.w) X.A (spliced (backTo pos (starEach es X.env))) (AP X pins σ Q) X.xe s
def PS (X:Cx)(st:Stmt)(t:TS):Prop :=
 ∀ (pins:List (Addr×Obj)) (s:Shared) (σ:St) (H:Hp) (D:Ends),Inv X pins σ H s->t D σ H->wpAny (model X.prog X.w) X.A (exec st X.env) (SP X pins D) X.xe s
def PSs (X:Cx)(st:List Stmt)(t:TS):Prop :=
 ∀ (pins:List (Addr×Obj)) (s:Shared) (σ:St) (H:Hp) (D:Ends),Inv X pins σ H s->t D σ H->wpAny (model X.prog X.w) X.A (execs st X.env) (SP X pins D) X.xe s
def thn {O:Type}{t:Sem O}{Q b:O->Shared->Prop}{M:Model}{A:Around}{E:Value->Shared->Prop}{s:Shared}(h:wpAny M A t Q E s)(c:∀ a s,Q a s->b a s):wpAny M A t b E s:=wpAny_mono h c λ_ _ x=>x
section
variable {X:Cx}
def bin {a b:Expr}{g tb:TE}(l:PE X a g)(k:PE X b tb){c:List (Addr×Obj)}{s:Shared}{σ:St}{H:Hp}{R:V->V->Hp->Prop}(I:Inv X c σ H s)(h:g σ H λx H1=>tb σ H1 λy H2=>R x y H2)
  {O:Type} {Q:O->Shared->Prop} {f:Value->Value->Sem O}
  (p:∀ v u s2 x y H2,Inv X c σ H2 s2->RelV x v->RelV y u->R x y H2->wpAny (model X.prog X.w) X.A (f v u) Q X.xe s2) :
  wpAny (model X.prog X.w) X.A (eval a X.env) (λv O3=>wpAny (model X.prog X.w) X.A (eval b X.env) (λu Y1=>wpAny (model X.prog X.w) X.A (f v u) Q X.xe Y1) X.xe O3) X.xe s:=by
 refine thn (l c s σ H _ I h) λv n d=>?_
 obtain⟨x,H1,m,r1,j⟩:=d;refine thn (k c n σ H1 _ m j) λu s2 e=>?_
 obtain⟨y,H2,i,r2,o⟩:=e;exact p v u s2 x y H2 i r1 r2 o
def tVar (i:Nat):TE:=fun σ H Q=>∃ v,σ[i]?=some (some v)/\Q v H
noncomputable def tC (v:V):TE:=λ_ H Q=>Q v H
def zDD {i:Nat}{x:Str}{pos:Pos}(p:X.N[i]?=some x)(n:Vis X.env.scope x)(f:(x==("__debug__":Str))=false:=by decide)(g:(x==("__classdict__":Str))=false:=by decide):PE X (.Name x pos) (tVar i):=by
 intro d s σ H Q I h;obtain⟨v,e,h⟩:=h;obtain⟨m,k,j⟩:=I.loc;obtain⟨u,r,l⟩:=j i x v p e n;have a:EP X d σ Q u s:=⟨v,H,I,r,h⟩;rcases l with ⟨b,o⟩ | ⟨b,c,hc,hcell⟩
 .exact wpAny_Name (wpAny_loadName_local I.ok.kind b k o a) f
 .rcases b with b | b
  .exact wpAny_Name (wpAny_loadName_cell I.ok.kind b hc hcell a) f
  .exact wpAny_Name (wpAny_loadName_free I.ok.kind b hc hcell a g) f
def Gl (X:Cx)(x:Str):Prop:=X.env.kindOf x=some .globalImplicit
def zEO {σ:St}(I:Inv X pins σ H s)(b:Gl X x)(a:X.mg x=some u)(h:Q u s)
  (c:(x==("__debug__":Str))=false:=by decide):wpAny (model X.prog X.w) X.A (eval (.Name x pos) X.env) Q E s :=
 Calls.Name_function_global I.ok.kind b (Calls.loadGlobal_global (by rw[I.ok.glob];exact I.mod.glob.keeps I.bk) a h) c
def zCw {E:Value->Shared->Prop}{a:List (Addr×Obj)}{s:Shared}{σ:St}{H:Hp}{x:Str}{u:Value}{pos:Pos}{Q:Value->Shared->Prop}(I:Inv X a σ H s)(f:Gl X x)(b:X.mg x=none)(c:bootBuiltins x=some u)(h:Q u s)
  (d:x ≠ "__name__":=by decide) (e:(x==("__debug__":Str))=false:=by decide):wpAny (model X.prog X.w) X.A (eval (.Name x pos) X.env) Q E s:=by
 obtain⟨g,h1,h2⟩:=I.mod.blt;exact Calls.Name_function_global I.ok.kind f (Calls.loadGlobal_builtin (by rw[I.ok.glob];exact I.mod.glob.keeps I.bk) b (by rw[I.ok.blt];exact h1.keeps I.bk) ((h2 x d).trans c) h) e
def zJ4 (b:Gl X x)(a:X.mg x=some u)(r:RelV v u)(c:(x==("__debug__":Str))=false:=by decide):PE X (.Name x pos) (tC v) :=
 λ_ _ _ H _ I h=>zEO I b a ⟨v,H,I,r,h⟩ c
def zO6 {x:Str}{v:V}{u:Value}{pos:Pos}(b:Gl X x)(e:X.mg x=none)(d:bootBuiltins x=some u)(r:RelV v u)(c:x ≠ "__name__":=by decide)(a:(x==("__debug__":Str))=false:=by decide):PE X (.Name x pos) (tC v) :=
 λ_ _ _ H _ I h=>zCw I b e d ⟨v,H,I,r,h⟩ c a
variable {a b:Expr}{ta tb:TE}{pos:Pos}
def tB (t:TE):TT:=fun σ H Q=>t σ H λx H1=>∃ c,x=.bl c/\Q c H1
def zN2 (h:PE X e t)(f:∀ whole,isTrue e X.env whole=(do let v<-whole;standAt e.pos;holding [v] (truthy v)):=by intro _;rfl):PT X e (tB t):=by
 intro a s σ H Q I i;refine isTrue_plain (thn (h a s σ H _ I i) λv k b=>?_) (f _);obtain⟨x,g,j,r1,c⟩:=b;obtain⟨d,rfl,q⟩:=c;cases r1;exact wpAny_truthy_bool ⟨g,j,q⟩
variable {tA tB':TT}{rest:List Expr}
def tAnd (t u:TT):TT:=fun σ H Q=>t σ H λc H1=>if c=true then u σ H1 Q else Q false H1
def tOr (t u:TT):TT:=fun σ H Q=>t σ H λc H1=>if c=true then Q true H1 else u σ H1 Q
def tNot (t:TT):TT:=fun σ H Q=>t σ H λc H1=>Q (!c) H1
def zJx (d:PT X a tA):PW X (.BoolOp .And [a] pos) tA:=by
 intro f b s σ H Q I h;refine isTrue_and (thn (d b s σ H Q I h) λc g e=>?_);cases c with
 | true=>exact isTrue_and_nil e
 | false=>exact e
def zN0 (d:PT X a tA):PW X (.BoolOp .Or [a] pos) tA:=by
 intro f b s σ H Q I h;refine isTrue_or (thn (d b s σ H Q I h) λc g e=>?_);cases c with
 | false=>exact isTrue_or_nil e
 | true=>exact e
def zN1 (m:PT X a tA)(k:PW X (.BoolOp .And (b::rest) pos) tB'):PW X (.BoolOp .And (a::b::rest) pos) (tAnd tA tB'):=by
 intro j d s σ H Q I h;refine isTrue_and (thn (m d s σ H _ I h) λc l e=>?_);obtain⟨g,f,i⟩:=e;cases c with
 | true=>exact k j d l σ g Q f i
 | false=>exact⟨g,f,i⟩
def zRQ (l:PT X a tA)(m:PW X (.BoolOp .Or (b::rest) pos) tB'):PW X (.BoolOp .Or (a::b::rest) pos) (tOr tA tB'):=by
 intro j d s σ H Q I h;refine isTrue_or (thn (l d s σ H _ I h) λc k e=>?_);obtain⟨i,f,g⟩:=e;cases c with
 | true=>exact⟨i,f,g⟩
 | false=>exact m j d k σ i Q f g
def zN3 (c:PT X a tA):PT X (.UnaryOp .Not a pos) (tNot tA):=by
 intro b s σ H Q I h;exact isTrue_not (c b s σ H _ I h)
def zT5 (ta tb:TE):TE:=fun σ H Q=>ta σ H λx H1=>∃ c,x=.bl c/\if c=true then tb σ H1 Q else Q (.bl false) H1
def tOrV (ta tb:TE):TE:=fun σ H Q=>ta σ H λx H1=>∃ c,x=.bl c/\if c=true then Q (.bl true) H1 else tb σ H1 Q
def zT1 (ta:TE):TE:=fun σ H Q=>ta σ H λx H1=>∃ c,x=.bl c/\Q (.bl (!c)) H1
def zRd (j:PE X a ta)(l:PE X (.BoolOp .And (b::rest) pos) tb):PE X (.BoolOp .And (a::b::rest) pos) (zT5 ta tb):=by
 intro d s σ H Q I h;refine BoolOp_and (thn (j d s σ H _ I h) λv k f=>?_);obtain⟨x,g,i,r1,e⟩:=f;obtain⟨c,rfl,e⟩:=e;cases r1;refine wpAny_truthy_bool ?_;cases c with
 | true=>exact l d k σ g Q i e
 | false=>exact⟨.bl false,g,i,rfl,e⟩
def zUB (j:PE X a ta)(k:PE X (.BoolOp .Or (b::rest) pos) tb):PE X (.BoolOp .Or (a::b::rest) pos) (tOrV ta tb):=by
 intro d s σ H Q I h;refine BoolOp_or (thn (j d s σ H _ I h) λv l f=>?_);obtain⟨x,g,i,r1,e⟩:=f;obtain⟨c,rfl,e⟩:=e;cases r1;refine wpAny_truthy_bool ?_;cases c with
 | false=>exact k d l σ g Q i e
 | true=>exact⟨.bl true,g,i,rfl,e⟩
def zRY (f:PE X a ta):PE X (.UnaryOp .Not a pos) (zT1 ta):=by
 intro b s σ H Q I h;refine UnaryOp_ (thn (f b s σ H _ I h) λv j e=>?_);obtain⟨x,g,i,r1,d⟩:=e;obtain⟨c,rfl,d⟩:=d;cases r1;exact not_of (wpAny_truthy_bool ⟨.bl _,g,i,rfl,d⟩)
def tIf (t:TT)(ta tb:TE):TE:=fun σ H Q=>t σ H λc H1=>if c=true then ta σ H1 Q else tb σ H1 Q
def zMP (m:PT X c tA)(n:PE X a ta)(l:PE X b tb):PE X (.IfExp c a b pos) (tIf tA ta tb):=by
 intro e s σ H Q I h;refine wpAny_IfExp (thn (m e s σ H _ I h) λd i f=>?_);obtain⟨k,g,j⟩:=f;cases d with
 | true=>exact n e i σ k Q g j
 | false=>exact l e i σ k Q g j
end
def SqL (K:W.Frag)(H:Hp)(a:Addr)(xs:List V):Prop :=
 Rd H a (.lst xs) \/
  ∃ (o:Obj) (its:Array Value) (n:Nat),K.lookup a=some o/\o.cls=.type "list"/\o.dict=none/\o.data=.seq its n/\its.size<=sizeLine/\Vals xs its.toList
def SqT (K:W.Frag)(H:Hp)(a:Addr)(xs:List V):Prop :=
 Rd H a (.tup xs) \/
  ∃ (o:Obj) (its:Array Value) (n:Nat),K.lookup a=some o/\o.cls=.type "tuple"/\o.data=.seq its n/\its.size<=sizeLine/\Vals xs its.toList
noncomputable def absV:Value->Option V
 | .none=>some .non
 | .bool b=>some (.bl b)
 | .int i _=>some (.int i)
 | .str x _=>some (.str x)
 | .bytes b _=>some (.byt b)
 | .float b _=>some (.flt b)
 | .ref a=>some (.ref a)
 | .type n=>some (.ty n)
 | _=>none
def RelV.abs (r:RelV x u):absV u=some x:=by
 cases x with
 | non=>cases r;rfl
 | bl _=>cases r;rfl
 | int _=>obtain⟨t,rfl⟩:=r;rfl
 | str _=>obtain⟨t,rfl⟩:=r;rfl
 | byt _=>obtain⟨t,rfl⟩:=r;rfl
 | flt _=>obtain⟨t,rfl⟩:=r;rfl
 | ref _=>cases r;rfl
 | ty _=>cases r;rfl
def RelV.inj (r:RelV x u)(q:RelV y u):x=y:=xy (r.abs.symm.trans q.abs)
theorem Vals.inj:∀ {xs ys:List V} {us:List Value},Vals xs us->Vals ys us->xs=ys
 | _,_,_,.nil,.nil=>rfl
 | _,_,_,.cons r t,.cons r' t'=>by rw[r.inj r',Vals.inj t t']
section
variable {X:Cx}{pins:List (Addr×Obj)}{σ:St}{H:Hp}{s:Shared}{a:Addr}{xs ys:List V}
def SqL.of {K:W.Frag}(h:H a=some (.lst xs)):SqL K H a xs:=.inl (.inl h)
def SqT.of {K:W.Frag}(h:H a=some (.tup xs)):SqT K H a xs:=.inl (.inl h)
def Inv.list (I:Inv X pins σ H s)(h:SqL X.K H a xs):∃ its:List Value,Vals xs its/\PlainL s.heap a its.toArray/\xs.length<=sizeLine:=by
 rcases h with h | ⟨o,its,n,hk,hc,hd,hs,hz,r⟩
 .obtain ⟨z,its,n,r,e⟩:=h.ok I.hok;exact⟨its,r,⟨_,n,e,rfl,rfl,rfl⟩,z⟩
 .refine ⟨its.toList,r,⟨o,n,I.kIn a o hk,hc,hd,by simpa using hs⟩,?_⟩;have e:=r.length;grind
def Inv.tuple (I:Inv X pins σ H s)(h:SqT X.K H a xs):∃ its:List Value,Vals xs its/\IsTup s.heap a its.toArray/\xs.length<=sizeLine:=by
 rcases h with h | ⟨o,its,n,hk,hc,hs,hz,r⟩
 .obtain ⟨z,its,r,p⟩:=h.ok I.hok;exact⟨its,r,p,z⟩
 .refine ⟨its.toList,r,⟨o,I.kIn a o hk,hc,n,by simpa using hs⟩,?_⟩;have e:=r.length;grind
def Inv.list_inj (I:Inv X pins σ H s)(h:SqL X.K H a xs)(h':SqL X.K H a ys):xs=ys:=by
 obtain⟨f,r,⟨o,n,e,_,_,d⟩,_⟩:=I.list h;obtain⟨b,c,⟨i,k,g,_,_,j⟩,_⟩:=I.list h'
 simp_all
 exact r.inj c
def Inv.tuple_inj (I:Inv X pins σ H s)(h:SqT X.K H a xs)(h':SqT X.K H a ys):xs=ys:=by
 obtain⟨f,r,⟨o,e,_,n,d⟩,_⟩:=I.tuple h;obtain⟨b,c,⟨g,i,_,k,j⟩,_⟩:=I.tuple h'
 simp_all
 exact r.inj c
end
abbrev Cx.wish (X:Cx) (E:Value->Shared->Prop):Cx:={ X with xe:=E }
abbrev Cx.nox (X:Cx):Cx:=X.wish λ_ _=>False
def Cx.Ok.wish {X:Cx}(ok:X.Ok)(E:Value->Shared->Prop):(X.wish E).Ok :=
 ⟨ok.mod,ok.kind,ok.glob,ok.blt,ok.above,ok.inj,ok.has,ok.cab,ok.hd,ok.frames,ok.stk,ok.exf,ok.bs,ok.bsz,ok.noex,ok.exfs,ok.funs,ok.frf,ok.pyl,ok.tabs⟩
def Cx.Ok.unwish {X:Cx}(ok:(X.wish E).Ok):X.Ok :=
 ⟨ok.mod,ok.kind,ok.glob,ok.blt,ok.above,ok.inj,ok.has,ok.cab,ok.hd,ok.frames,ok.stk,ok.exf,ok.bs,ok.bsz,ok.noex,ok.exfs,ok.funs,ok.frf,ok.pyl,ok.tabs⟩
section
variable {X:Cx}{pins:List (Addr×Obj)}{σ:St}{H:Hp}{s:Shared}{E:Value->Shared->Prop}
def Inv.wish (I:Inv X pins σ H s)(E:Value->Shared->Prop):Inv (X.wish E) pins σ H s:=⟨I.ok.wish E,I.os,I.bare,I.base,I.loc,I.cell,I.free,I.freeC,I.pin,I.hok,I.len⟩
def Inv.unwish (I:Inv (X.wish E) pins σ H s):Inv X pins σ H s:=⟨I.ok.unwish,I.os,I.bare,I.base,I.loc,I.cell,I.free,I.freeC,I.pin,I.hok,I.len⟩
def SP.unwish (h:SP (X.wish E) pins D f s'):SP X pins D f s':=by
 cases f with
 | next=>obtain⟨a,b,I,q⟩:=h;exact⟨a,b,I.unwish,q⟩
 | brk=>obtain⟨a,b,I,q⟩:=h;exact⟨a,b,I.unwish,q⟩
 | cont=>obtain⟨a,b,I,q⟩:=h;exact⟨a,b,I.unwish,q⟩
 | ret u=>obtain⟨v,a,b,I,r,q⟩:=h;exact⟨v,a,b,I.unwish,r,q⟩
def PE.nox (h:PE X.nox e t):PE X e t:=λpins s σ H Q I d =>
 wpAny_mono (h pins s σ H Q (I.wish _) d) (λ_ _ a=>by obtain⟨v,c,f,r,q⟩:=a;exact⟨v,c,f.unwish,r,q⟩) λ_ _ z=>False.elim z
def PSs.nox {st:List Stmt}(h:PSs X.nox st t):PSs X st t:=λpins s σ H D I b =>
 wpAny_mono (h pins s σ H D (I.wish _) b) (λ_ _ q=>q.unwish) λ_ _ z=>False.elim z
end
section
variable {X:Cx}{st:Stmt}{rest:List Stmt}{t u:TS}{e:Expr}{te:TE}{pos:Pos}
def zT2:TS:=λD σ H=>D.nx σ H
def tSeq (t u:TS):TS:=λD σ H=>t { D with nx:=u D } σ H
def zHE:PSs X [] zT2:=λ_ _ σ H _ I h=>wpAny_execs_nil ⟨σ,H,I,h⟩
def zDz (h1:PS X st t)(h2:PSs X rest u):PSs X (st::rest) (tSeq t u):=by
 intro a s σ H D I h;refine wpAny_execs_cons (thn (h1 a s σ H { D with nx:=u D } I h) λf c q=>?_);cases f with
 | next =>
  obtain⟨e,b,d,q⟩:=q;exact h2 a c e b D d q
 | ret v=>exact q
 | brk=>exact q
 | cont=>exact q
def Inv.quiet {σ:St}(I:Inv X pins σ H s):interactive X.env=false:=by simp[interactive,I.ok.kind]
def zT3 (te:TE):TS:=λD σ H=>te σ H λ_ H1=>D.nx σ H1
def zFf (g:PE X e te)(i:swapsWith e none pos.line X.env=pure false:=by rfl):PS X (.Expr e pos) (zT3 te):=by
 intro b s σ H D I h;exact wpAny_Expr_any (thn (g b s σ H _ I h) λv j a=>by obtain⟨x,d,c,r1,f⟩:=a;exact⟨σ,d,c,f⟩) I.quiet i
def tRet (te:TE):TS:=λD σ H=>te σ H D.rt
def zJz (d:PE X e te):PS X (.Return (some e) pos) (tRet te):=by
 intro b s σ H D I h;exact wpAny_Return_some (thn (d b s σ H _ I h) λv i a=>by obtain⟨x,c,f,r1,g⟩:=a;exact⟨x,σ,c,f,r1,g⟩)
def tIfS (c:TT)(t u:TS):TS:=λD σ H=>c σ H λb H1=>if b=true then t D σ H1 else u D σ H1
def zRS (m:PT X c tc)(l:PSs X a t)(n:PSs X b u):PS X (.If c a b pos) (tIfS tc t u):=by
 intro e s σ H D I h;refine wpAny_If (thn (m e s σ H _ I h) λd k f=>?_);obtain⟨g,j,i⟩:=f;cases d with
 | true=>exact l e k σ g D j i
 | false=>exact n e k σ g D j i
def zQ6:TS:=λ_ _ _=>False
def zFe:PS X st zQ6:=λ_ _ _ _ _ _ h=>h.elim
end
abbrev TG:=V->St->Hp->(St->Hp->Prop)->Prop
def PG (X:Cx)(target:Expr)(t:TG):Prop :=
 ∀ (pins:List (Addr×Obj)) (s:Shared) (σ:St) (H:Hp) (v:V) (u:Value) (Q:St->Hp->Prop),Inv X pins σ H s->RelV v u->t v σ H Q ->
  wpAny (model X.prog X.w) X.A (assign target X.env u) (λ_ s'=>∃ O1 H',Inv X pins O1 H' s'/\Q O1 H') X.xe s
abbrev TIp:=V->V->Hp->VK->Prop
def PIp (X:Cx)(op:Operator)(t:TIp):Prop :=
 ∀ (pins:List (Addr×Obj)) (s:Shared) (σ:St) (H:Hp) (x y:V) (v u:Value) (Q:VK),Inv X pins σ H s->RelV x v->RelV y u->t x y H Q ->
  wpAny (model X.prog X.w) X.A (inplaceOp op v u) (EP X pins σ Q) X.xe s
section
variable {X:Cx}{pos:Pos}
def zS0 (i:Nat):TG:=λv σ H Q=>Q (σ.set i (some v)) H
def zFh (e:X.N.Nodup)(d:X.N[i]?=some x)(c:Loc X.env.scope x)(b:X.fn x=true\/X.env.scope.names.lookup x=some .local:=by walk_at "i"):PG X (.Name x pos) (zS0 i):=by
 intro a s σ H v u Q I r h;exact wpAny_assign_Name (zFX I e d c r (λs' f=>⟨_,H,f,h⟩) b)
def tAsg (te:TE)(g:TG):TS:=λD σ H=>te σ H λx H1=>g x σ H1 D.nx
def zJy (k:X.N.Nodup)(c:X.N[i]?=some x)(n:Loc X.env.scope x)(j:PE X e te)(o:swapsWith e (some (.Name x pos')) pos.line X.env=pure false:=by rfl)(m:X.fn x=true\/X.env.scope.names.lookup x=some .local:=by walk_at "i") :
  PS X (.Assign [.Name x pos'] e pos) (tAsg te (zS0 i)):=by
 intro a s σ H D I h;refine wpAny_Assign_Name (thn (j a s σ H _ I h) λv p b=>?_) o;obtain⟨y,f,l,r1,g⟩:=b;exact zFX l k c n r1 (λs2 d=>⟨_,f,d,g⟩) m
def tAug (i:Nat)(te:TE)(ti:TIp):TS:=λD σ H=>∃ x,σ[i]?=some (some x)/\te σ H λy H1=>ti x y H1 λz H2=>D.nx (σ.set i (some z)) H2
def zRU (Q:X.N.Nodup)(o:X.N[i]?=some x)(j:Loc X.env.scope x)(E:PE X e te)(M:PIp X op ti)(hf:X.fn x=true\/X.env.scope.names.lookup x=some .local:=by walk_at "i") :
  PS X (.AugAssign (.Name x pos') op e pos) (tAug i te ti):=by
 intro a s σ H D I h;obtain⟨v,A,h⟩:=h;obtain⟨m,J,L⟩:=I.loc;have g:Vis X.env.scope x:=by rcases j with k | k;exact .inl k;exact .inr (.inl k)
 obtain⟨u,r,l⟩:=L i x v o A g;refine wpAny_AugAssign_Name ?_;have n:wpAny (model X.prog X.w) X.A (eval e X.env) (λw G=>wpAny (model X.prog X.w) X.A (inplaceOp op u w) (λr P=>wpAny (model X.prog X.w) X.A (storeName X.env x r) (λ_=>SP X a D .next) X.xe P) X.xe G) X.xe s:=by
  refine thn (E a s σ H _ I h) λw q d=>?_
  obtain⟨y,O,N,r1,C⟩:=d;refine thn (M a q σ O v y u w _ N r r1 C) λz R f=>?_
  obtain⟨S,p,F,r2,K⟩:=f;exact zFX F Q o j r2 (λs3 t=>⟨_,p,t,K⟩) hf
 rcases l with ⟨b,B⟩ | ⟨b,c,hc,hcell⟩
 .exact wpAny_loadName_local I.ok.kind b J B n
 .rcases b with b | b
  .exact wpAny_loadName_cell I.ok.kind b hc hcell n
  .rcases j with k | k
   .have:X.env.scope.names.lookup x=some .free:=b;rw[k] at this;cases this
   .have:X.env.scope.names.lookup x=some .free:=b;rw[k] at this;cases this
end
section
variable {X:Cx}{pos:Pos}
def zQ4 (c:TT)(tb:TS):TS:=λD σ H=>∃ W:Nat->St->Hp->Prop,(∃ m,W m σ H)/\∀ m σ H,W m σ H ->
 c σ H λb H1=>if b=true then ∃ N:St->Hp->Prop,(∀ O1 H',N O1 H'->∃ m',m' < m/\W m' O1 H')/\tb { D with nx:=N,ct:=N,bk:=D.nx } σ H1 else D.nx σ H1
def zMM (w:PassesOwn (model X.prog X.w) X.A X.env X.xe)(A:PT X c tc)(E:PSs X body tb):PS X (.While c body [] pos) (zQ4 tc tb):=by
 intro a s σ H D I h;obtain⟨W,⟨J,B⟩,turn⟩:=h;refine wpAny_While (codeAny_whileLoop (λn G=>∃ O1 H',Inv X a O1 H' G/\W n O1 H') ?_ J ⟨σ,H,I,B⟩);rintro n y ⟨j,u,C,F⟩;refine wpAny_passesOwn w (thn (A a y j u _ C (turn n j u F)) λb z d=>?_);obtain⟨x,t,k⟩:=d;cases b with
 | true =>
  obtain⟨N,r,k⟩:=k;rw[if_pos rfl];refine wpAny_passesOwn w (thn (E a z j x _ t k) λf K i=>?_);cases f with
  | next =>
   obtain⟨g,e,m,q⟩:=i;obtain⟨p,l,o⟩:=r g e q;exact⟨p,l,g,e,m,o⟩
  | cont =>
   obtain⟨g,e,m,q⟩:=i;obtain⟨p,l,o⟩:=r g e q;exact⟨p,l,g,e,m,o⟩
  | brk=>exact i
  | ret v=>exact i
 | false =>
  rw[if_neg qX];exact wpAny_execs_nil ⟨j,x,t,k⟩
end
structure It where
 go:Nat->Hp->Prop
 yld:Nat->Hp->V->Hp->Prop
 stop:Nat->Hp->Prop
def FpOk (X:Cx)(pins:List (Addr×Obj))(H:Hp)(b:Addr):Prop :=
 H b=none/\b≠X.env.locals/\b∉X.fs/\(b∈X.ex\/X.s0.heap.objs.size<=b)/\(∀ x c,X.env.cells.lookup x=some c->c≠b)/\∀ p∈X.pn++pins,p.1≠b
def Inv.fpOk {X:Cx}{a:List (Addr×Obj)}{σ:St}{H f:Hp}{s:Shared}{b:Addr}(I:Inv X a σ H s)(d:s.heap.objs.size<=b)(g:f b=none):FpOk X a f b:=by
 refine⟨g,Nat.ne_of_gt (xj I.lt d),I.nofs d,.inr (le_trans I.sz d),λx c e z=>?_,λp h z=>?_⟩
 .obtain ⟨v,q⟩:=I.cell x c e;exact absurd (xj q.lt (by simp_all)) (lt_irrefl _)
 .exact absurd (xj (lt_size (I.pin p h).1) (by simp_all)) (lt_irrefl _)
structure Turn (P:Program)(w:World)(K:W.Frag)(tg:Expr)(J:It)(fp:List Addr)(it:Addr)(tn:Nat->Heap->Prop):Prop where
 mem:it∈fp
 obj:∀ i h,tn i h->∀ b∈fp,∃ o,h.get? b=some o/\∀ v,o.data≠.cell v
 keep:∀ i h h',tn i h->(∀ b∈fp,∀ o,h.get? b=some o->h'.get? b=some o)->tn i h'
 item:∀ (X:Cx),X.prog=P->X.w=w->X.K=K->X.calm=true->∀ (i:Nat) (pins:List (Addr×Obj)) (s:Shared) (σ:St) (H:Hp) (E:Value->Shared->Prop),Inv X pins σ H s->(∀ b∈fp,FpOk X pins H b)->tn i s.heap->J.go i H ->
  wpAny (model P w) X.A (pyNext (.ref it)) (λr s1=>∃ u,r=some u /\
   wpAny (model P w) X.A (letOwnedTupleGo tg (.ref it) u) (λ_ s2=>∃ x H',Inv X pins σ H' s2/\RelV x u/\J.yld i H x H'/\tn (i+1) s2.heap/\∀ b∈fp,H' b=none) E s1) E s
 done:∀ (X:Cx),X.prog=P->X.w=w->X.K=K->X.calm=true->∀ (i:Nat) (pins:List (Addr×Obj)) (s:Shared) (σ:St) (H:Hp) (E:Value->Shared->Prop),Inv X pins σ H s->(∀ b∈fp,FpOk X pins H b)->tn i s.heap->J.stop i H ->
  wpAny (model P w) X.A (pyNext (.ref it)) (λr s1=>r=none/\Inv X pins σ H s1) E s
 self:∀ (A:Around) (i:Nat) (s:Shared) (Q:Value->Shared->Prop) (E:Value->Shared->Prop),tn i s.heap->Q (.ref it) s->wpAny (model P w) A (pyIter (.ref it)) Q E s
abbrev TI:=St->Hp->(It->Hp->Prop)->Prop
def PIE (X:Cx)(pins:List (Addr×Obj))(σ:St)(tg:Expr)(R:It->Hp->Prop)(itv:Value)(s2:Shared):Prop :=
 ∃ (it:Addr) (fp:List Addr) (tn:Nat->Heap->Prop) (J:It) (H':Hp),itv=.ref it/\Inv X pins σ H' s2/\Turn X.prog X.w X.K tg J fp it tn/\tn 0 s2.heap/\(∀ b∈fp,FpOk X pins H' b)/\R J H'
def PI (X:Cx)(tg iter:Expr)(wi:TI):Prop :=
 ∀ (pins:List (Addr×Obj)) (s:Shared) (σ:St) (H:Hp) (R:It->Hp->Prop),Inv X pins σ H s->wi σ H R ->
  wpAny (model X.prog X.w) X.A (eval iter X.env) (λv s1=>wpAny (model X.prog X.w) X.A (pyIter v) (PIE X pins σ tg R) X.xe s1) X.xe s
def zM1 (c:s.heap.get? it=some o)(b:o.cls=.type n)(d:o.data=.fields vs)
  (e:["enumerate","zip","dict_itemiterator","dict_reverseitemiterator","odict_iterator","itertools.zip_longest","itertools.pairwise"].contains n=false) (a:Q () s):wpAny M A (letOwnedTupleGo tg (.ref it) u) Q E s:=by
 cases tg<;>first
  | exact q8 a
  | cases u<;>first
    | exact q8 a
    | (refine qQ (wpAny_load c ?_);rw[b,d];show wpAny M A (if _=true then _ else _) Q E s;rw[if_neg (by grind)];exact q8 a)
noncomputable def Itl (K:W.Frag)(a:Addr):It :=
 ⟨λi H=>∃ xs x,SqL K H a xs/\xs[i]?=some x,λi H x H'=>H'=H/\∀ xs,SqL K H a xs->xs[i]?=some x,λi H=>∃ xs,SqL K H a xs/\xs.length<=i⟩
noncomputable def Itt (K:W.Frag)(a:Addr):It :=
 ⟨λi H=>∃ xs x,SqT K H a xs/\xs[i]?=some x,λi H x H'=>H'=H/\∀ xs,SqT K H a xs->xs[i]?=some x,λi H=>∃ xs,SqT K H a xs/\xs.length<=i⟩
noncomputable def Itr (lo:Int)(n:Nat):It:=⟨λi _=>i < n,λi H x H'=>H'=H/\x=.int (lo+i),λi _=>n<=i⟩
def zJP {P:Program}{w:World}{K:W.Frag}{U:Expr}(a it:Addr):Turn P w K U (Itl K a) [it] it (λi h=>h.IsListIter it a i) where
 mem:=by simp
 obj:=λi h f b j=>by
  have e:b=it:=by simpa using j
  subst e;obtain⟨o,e,c,d⟩:=f;exact⟨o,e,λv z=>by rw[d] at z;cases z⟩
 keep:=λi h h' f k=>f.at λo e=>k it (by simp) o e
 item:=by
  intro X B D t J i g s σ H E I m f q;subst B D t;obtain⟨N,x,hq,G⟩:=q;obtain⟨n,v,p,O⟩:=I.list hq;obtain⟨u,R,T⟩:=v.get G;obtain⟨F,r,Q,y,C,A⟩:=m it (by simp);refine wpAny_pyNext_list_item f p.isList (x:=u) (by simpa using R) λh' l Y=>?_
  have M:Inv X g σ H { s with heap:=h' }:=I.turned (t':=s.toks) (λb o j e=>(Y.2 b j).trans e) F r y C A;obtain⟨o,e,c,d⟩:=id l;exact⟨u,rfl,zM1 (s:={ s with heap:=h' }) e c d (by decide) ⟨x,H,M,T,⟨rfl,λys V=>by rw[I.list_inj V hq];exact G⟩,l,λb j=>(m b j).1⟩⟩
 done:=by
  intro X B D t J i g s σ H E I m f q;subst B D t;obtain⟨N,hq,G⟩:=q;obtain⟨n,v,p,O⟩:=I.list hq;obtain⟨F,r,Q,y,C,A⟩:=m it (by simp);have Z:=v.length;exact wpAny_pyNext_list_end (I.ok.hd J) f p.isList (by simp;omega) λh' S=>⟨rfl,I.turned (t':=s.toks) (λb o j e=>S b o j e) F r y C A⟩
 self:=λ_ _ _ _ _ f h=>wpAny_pyIter_listiter f h
def zIh {P:Program}{w:World}{K:W.Frag}{T:Expr}(a it:Addr):Turn P w K T (Itt K a) [it] it (λi h=>h.IsTupleIter it a i) where
 mem:=by simp
 obj:=λi h f b l=>by
  have e:b=it:=by simpa using l
  subst e;obtain⟨o,e,c,d⟩:=f;exact⟨o,e,λv z=>by rw[d] at z;cases z⟩
 keep:=λi h h' f k=>f.at λo e=>k it (by simp) o e
 item:=by
  intro X D B F L i g s σ H E I n f r;subst D B F;obtain⟨Y,x,hq,t⟩:=r;obtain⟨j,q,p,U⟩:=I.tuple hq;obtain⟨u,O,S⟩:=q.get t;obtain⟨v,A,Q,y,G,C⟩:=n it (by simp);refine wpAny_pyNext_tuple_item f (show s.heap.IsTuple a j.toArray from p) (x:=u) (by simpa using O) λh' m V=>?_
  have N:Inv X g σ H { s with heap:=h' }:=I.turned (t':=s.toks) (λb o l e=>(V.2 b l).trans e) v A y G C;obtain⟨o,e,c,d⟩:=id m;exact⟨u,rfl,zM1 (s:={ s with heap:=h' }) e c d (by decide) ⟨x,H,N,S,⟨rfl,λys M=>by rw[I.tuple_inj M hq];exact t⟩,m,λb l=>(n b l).1⟩⟩
 done:=by
  intro X D B F L i g s σ H E I n f r;subst D B F;obtain⟨Y,hq,t⟩:=r;obtain⟨j,q,p,U⟩:=I.tuple hq;obtain⟨v,A,Q,y,G,C⟩:=n it (by simp);have Z:=q.length;exact wpAny_pyNext_tuple_end (I.ok.hd L) f (show s.heap.IsTuple a j.toArray from p) (by simp;omega) λh' R=>⟨rfl,I.turned (t':=s.toks) (λb o l e=>R b o l e) v A y G C⟩
 self:=λ_ _ _ _ _ f h=>wpAny_pyIter_tupleiter f h
def zIi {P:Program}{w:World}{K:W.Frag}{F:Expr}(it:Addr)(j:Int)(n:Nat):Turn P w K F (Itr j n) [it] it (λi h=>IsRangeIter h it (j+(i:Nat)*1) ((n:Int) - (i:Nat)) 1) where
 mem:=by simp
 obj:=λi h a b d=>by
  simp_all
 keep:=λi h l a k=>k it (by simp) _ a
 item:=by
  intro X A y x m i c s σ H E I g a r;subst A y x;obtain⟨p,v,G,u,q,z⟩:=g it (by simp);have W:=Walks.range (prog:=X.prog) (w:=X.w) (I.ok.hd m) it j 1 n;refine W.item i s _ _ r a λv l B L f C=>?_
  obtain⟨t,rfl⟩:=L;have J:Inv X c σ H { s with heap:=l,toks:=B }:=I.turned (λb o d e=>C b o (by simpa using d) e) p v u q z;refine⟨_,rfl,zM1 (s:={ s with heap:=l,toks:=B }) (n := "range_iterator") f rfl rfl (by decide) ⟨.int (j+i),H,J,⟨t,?_⟩,⟨rfl,rfl⟩,f,λb d=>(g b d).1⟩⟩;rw[Int.mul_one]
 done:=by
  intro X A y x m i c s σ H E I g a r;subst A y x;obtain⟨p,v,G,u,q,z⟩:=g it (by simp);exact wpAny_pyNext_range_end (I.ok.hd m) a (by have:n<=i:=r;omega) λh' D=>⟨rfl,I.turned (t':=s.toks) (λb o d e=>D b o d e) p v u q z⟩
 self:=λ_ _ _ _ _ a h=>wpAny_pyIter_rangeiter a h
section
variable {X:Cx}{tg:Expr}
def zHy {σ:St}{a:Int}(I:Inv X pins σ H s)(h1:-(2^62)<=a)(h2:a < 2^62)(h3:-(2^62)<=hi)(h4:hi < 2^62)
  (q:R (Itr a (hi - a).toNat) H):wpAny (model X.prog X.w) X.A (pyIter (.ref s.heap.objs.size)) (PIE X pins σ tg R) E { s with heap:=s.heap.push { cls:=.type "range",data:=.fields #[.int a t,.int hi u,.int 1 v] },toks:=tk }:=by
 refine wpAny_pyIter_range (IsRange.new ..) (small_one h1 h2 h3 h4) ?_;have c:Inv X pins σ H { s with heap:=s.heap.push { cls:=.type "range",data:=.fields #[.int a t,.int hi u,.int 1 v] },toks:=tk }:=I.kept λb o e=>get?_push_of_some _ e
 refine⟨(s.heap.push { cls:=.type "range",data:=.fields #[.int a t,.int hi u,.int 1 v] }).objs.size,[(s.heap.push { cls:=.type "range",data:=.fields #[.int a t,.int hi u,.int 1 v] }).objs.size],_,_,H,rfl,
  c.kept λb o e=>get?_push_of_some _ e,zIi _ a (hi - a).toNat,?_,λb f=>?_,q⟩
 .have g:a+((0:Nat):Int)*1=a:=by simp
  have d:(((hi - a).toNat:Nat):Int) - ((0:Nat):Int)=Builtin.Range.rangeSize a hi 1:=by rw[rangeSize_one];split<;>omega
  rw[g,d];exact get?_push_size _ rfl
 .have e:b=(s.heap.push { cls:=.type "range",data:=.fields #[.int a t,.int hi u,.int 1 v] }).objs.size:=by simpa using f
  subst e;exact c.fpOk (le_refl _) (c.hok.fresh (le_refl _))
def zUZ (ta:TA):TI:=fun σ H R=>ta σ H λvs H1=>∃ j:Int,vs=[.int j]/\-(2^62)<=j/\j < 2^62/\R (Itr 0 j.toNat) H1
def zUY (ta:TA):TI:=fun σ H R=>ta σ H λvs H1=>∃ i j:Int,vs=[.int i,.int j]/\(-(2^62)<=i/\i < 2^62/\-(2^62)<=j/\j < 2^62)/\R (Itr i (j - i).toNat) H1
def zGN (g:Gl X "range")(n:X.mg "range"=none)(k:PA X [a] ta)(i:starEach [a] X.env=[(false,eval a X.env)]:=by rfl):PI X tg (.Call (.Name "range" p) [a] [] pos) (zUZ ta):=by
 intro b s σ H R I h;refine Call_ (zCw I g n boot_range (PyProof.Rows.callWith_type1 (thn (k pos b s σ H _ I h) λus o c=>?_) i rfl));obtain⟨v,u,l,r1,d⟩:=c;obtain⟨j,e,d,f,q⟩:=d;subst e;cases r1 with
 | cons r m =>
  cases m;obtain⟨t,rfl⟩:=r;exact call_range_1 (zHy l (by omega) (by omega) d f (by simpa using q))
def zJ3 {a b:Expr}{l:TA}{p pos:Pos}(v:Gl X "range")(m:X.mg "range"=none)(u:PA X [a,b] l)(o:starEach [a,b] X.env=[(false,eval a X.env),(false,eval b X.env)]:=by rfl)(d:starEach [b] X.env=[(false,eval b X.env)]:=by rfl) :
  PI X tg (.Call (.Name "range" p) [a,b] [] pos) (zUY l):=by
 intro f s σ H R I h;refine Call_ (zCw I v m boot_range (PyProof.Rows.callWith_type1 (thn (u pos f s σ H _ I h) λus B c=>?_) (by rw[o,d]) (by rw[d];rfl)));obtain⟨A,C,w,r1,g⟩:=c;obtain⟨i,j,e,⟨g,y,n,z⟩,q⟩:=g;subst e;cases r1 with
 | cons r k =>
  cases k with
  | cons x k =>
   cases k;obtain⟨t,rfl⟩:=r;obtain⟨D,rfl⟩:=x;exact call_range_2 (zHy w g y n z q)
def tFor (wi:TI)(g:TG)(tb:TS):TS:=λD σ H=>wi σ H λJ H1=>∃ W:Nat->Nat->St->Hp->Prop,(∃ m,W 0 m σ H1)/\∀ i m σ H,W i m σ H ->
 (J.stop i H/\D.nx σ H)\/(J.go i H/\∃ N:St->Hp->Prop,(∀ O1 H',N O1 H'->∃ m',m' < m/\W (i+1) m' O1 H')/\∀ x H',J.yld i H x H'->g x σ H' λY6 H2=>tb { D with nx:=N,ct:=N,bk:=D.nx } Y6 H2)
noncomputable def zCM (fp:List Addr)(h:Heap):List (Addr×Obj):=fp.filterMap λb=>(h.get? b).map λo=>(b,o)
def zCn (a:b∈fp)(e:h.get? b=some o):(b,o)∈zCM fp h:=List.mem_filterMap.mpr ⟨b,a,by rw[e];rfl⟩
def zGQ (c:p∈zCM fp h):p.1∈fp/\h.get? p.1=some p.2:=by
 obtain⟨b,d,e⟩:=List.mem_filterMap.mp c;cases q:h.get? b with
 | none=>rw[q] at e;cases e
 | some o =>
  rw[q] at e;have a:=xy e;subst a;exact⟨d,q⟩
def Inv.pinned {σ:St}(I:Inv X pins σ H s)(c:∀ b∈fp,FpOk X pins H b)(d:∀ b∈fp,∃ o,s.heap.get? b=some o/\∀ v,o.data≠.cell v):Inv X (pins++zCM fp s.heap) σ H s :=
 I.pins_of λp f=>(mem_append.mp f).elim (λz=>I.pin p (q9 _ z)) λz=>by
  obtain⟨a,e⟩:=zGQ z;obtain⟨i,h,g,_⟩:=c p.1 a;obtain _:=d p.1 a
  simp_all
def Inv.unpinned {σ:St}(I:Inv X (pins++pl) σ H s):Inv X pins σ H s:=I.pins_of λp a=>I.pin p (q9 _ (xJ _ a))
def zN4 (A:PassesOwn (model X.prog X.w) X.A X.env X.xe)(hc:X.calm=true)(hi:PI X tg iter wi)(hg:PG X tg g)(q:PSs X body tb)
  (hs:∀ x,foldedSetIterable iter X.env x=pure x:=by intro _;rfl):PS X (.For tg iter body [] pos) (tFor wi g tb):=by
 intro a s σ H D I h;refine wpAny_For (thn (hi a s σ H _ I h) λv s1 h1=>thn h1 λitv s2 h2=>?_) hs;obtain⟨it,F,U,J,H2,e,I2,T,Q,f2,W,⟨m0,w0⟩,turn⟩:=h2;subst e;have p:∀ {H':Hp},(∀ b∈F,H' b=none)->∀ b∈F,FpOk X a H' b:=λhn b q=>⟨hn b q,(f2 b q).2⟩
 refine codeAny_forLoop_any (λn Z=>∃ i O1 H',Inv X a O1 H' Z/\U i Z.heap/\(∀ b∈F,H' b=none)/\W i n O1 H') ?_ m0 ⟨0,σ,H2,I2,Q,λb q=>(f2 b q).1,w0⟩;rintro n Y ⟨i,B,M,I3,w,E,w3⟩;rcases turn i n B M w3 with ⟨G,qn⟩ | ⟨go,N,hN,step⟩
 .refine wpAny_passesOwn A (thn (T.done X rfl rfl rfl hc i a Y B M X.xe I3 (p E) w G) λr s4 K=>?_);obtain⟨S,I4⟩:=K;subst S;exact wpAny_execs_nil ⟨B,M,I4,qn⟩
 .refine wpAny_passesOwn A (thn (T.item X rfl rfl rfl hc i a Y B M X.xe I3 (p E) w go) λr s4 z=>?_);obtain⟨u,S,h4⟩:=z;subst S;refine wpAny_passesOwn A (thn h4 λ_ s5 y=>?_);obtain⟨x,V,I5,r5,y5,t,O⟩:=y;have P:=I5.pinned (p O) (T.obj _ _ t);refine wpAny_passesOwn A (thn (hg _ s5 B V x u _ P r5 (step x V y5)) λ_ s6 C=>?_);obtain⟨O4,H6,I6,q6⟩:=C;refine wpAny_passesOwn A (thn (q _ s6 O4 H6 _ I6 q6) λf R r=>?_);have c:∀ {j:St} {k:Hp},Inv X (a++zCM F s5.heap) j k R->N j k->∃ m,m < n/\∃ i O1 H',Inv X a O1 H' R/\U i R.heap/\(∀ b∈F,H' b=none)/\W i m O1 H':=λ{j k} l L=>by
   obtain⟨m',hm,w7⟩:=hN j k L;refine⟨m',hm,i+1,j,k,l.unpinned,T.keep _ _ _ t λb q o e=>(l.pin (b,o) (q9 _ (q9 _ (zCn q e)))).1,λb q=>?_,w7⟩;obtain⟨o,e,d⟩:=T.obj _ _ t b q;exact(l.pin (b,o) (q9 _ (q9 _ (zCn q e)))).2.1
  cases f with
  | next=>obtain⟨j,k,l,L⟩:=r;exact c l L
  | cont=>obtain⟨j,k,l,L⟩:=r;exact c l L
  | brk=>obtain⟨j,k,l,r⟩:=r;exact⟨j,k,l.unpinned,r⟩
  | ret v=>obtain⟨x7,j,k,l,r7,r⟩:=r;exact⟨x7,j,k,l.unpinned,r7,r⟩
end
abbrev R2:=V->V->Hp->VK->Prop
def OpR (X:Cx)(f:Value->Value->Sem Value)(r:R2):Prop :=
 ∀ (pins:List (Addr×Obj)) (s:Shared) (σ:St) (H:Hp) (x y:V) (v u:Value) (Q:VK),Inv X pins σ H s->RelV x v->RelV y u->r x y H Q ->
  wpAny (model X.prog X.w) X.A (f v u) (EP X pins σ Q) X.xe s
def UnR (X:Cx)(f:Value->Sem Value)(r:V->Hp->VK->Prop):Prop :=
 ∀ (pins:List (Addr×Obj)) (s:Shared) (σ:St) (H:Hp) (x:V) (v:Value) (Q:VK),Inv X pins σ H s->RelV x v->r x H Q ->
  wpAny (model X.prog X.w) X.A (f v) (EP X pins σ Q) X.xe s
def zDh (X:Cx)(f:Value)(r:List V->Hp->VK->Prop):Prop :=
 ∀ (pins:List (Addr×Obj)) (s:Shared) (σ:St) (H:Hp) (xs:List V) (us:List Value) (Q:VK),Inv X pins σ H s->Vals xs us->r xs H Q ->
  wpAny (model X.prog X.w) X.A (call f us) (EP X pins σ Q) X.xe s
def tOp (r:R2)(ta tb:TE):TE:=fun σ H Q=>ta σ H λx H1=>tb σ H1 λy H2=>r x y H2 Q
def tUn (r:V->Hp->VK->Prop)(ta:TE):TE:=fun σ H Q=>ta σ H λx H1=>r x H1 Q
def rI (C:Int->Int->Prop)(g:Int->Int->V):R2:=λx y H Q=>∃ i j,x=.int i/\y=.int j/\C i j/\Q (g i j) H
def rI0 (g:Int->Int->V):R2:=λx y H Q=>∃ i j,x=.int i/\y=.int j/\Q (g i j) H
def rU (g:Int->V):V->Hp->VK->Prop:=λx H Q=>∃ i,x=.int i/\Q (g i) H
section
variable {X:Cx}{a b c:Expr}{ta tb tc:TE}{pos:Pos}
def binT (j:PE X a ta)(i:PE X b tb){σ:St}{R:V->V->Hp->Prop}(I:Inv X pins σ H s)
  (h:ta σ H λx H1=>tb σ H1 λy H2=>R x y H2)  {f:Value->Value->Sem Value}
  (n:∀ v u s2 x y H2,Inv X pins σ H2 s2->RelV x v->RelV y u->R x y H2->wpAny (model X.prog X.w) X.A (f v u) Q X.xe s2) :
  wpAny (model X.prog X.w) X.A (eval a X.env) (λv O3=>wpAny (model X.prog X.w) X.A (eval b X.env) (λu Y1=>wpAny (model X.prog X.w) X.A (f v u) Q X.xe Y1) X.xe O3) X.xe s:=by
 refine thn (j pins s σ H _ I h) λv l d=>?_
 obtain⟨x,H1,k,r1,g⟩:=d;refine thn (i pins l σ H1 _ k g) λu s2 c=>?_
 obtain⟨y,H2,e,r2,m⟩:=c;exact n v u s2 x y H2 e r1 r2 m
def zO3 (e:OpR X (binaryOp op) r)(l:PE X a ta)(f:PE X b tb):PE X (.BinOp a op b pos) (tOp r ta tb):=by
 intro c s σ H Q I h;exact wpAny_BinOp (binT l f I h λv u i x y j k g d q=>e c i σ j x y v u Q k g d q)
def zUA (j:UnR X (unaryOp op) r)(g:PE X a ta):PE X (.UnaryOp op a pos) (tUn r ta):=by
 intro b s σ H Q I h;exact UnaryOp_ (thn (g b s σ H _ I h) λv e c=>by obtain⟨x,i,d,r1,f⟩:=c;exact j b e σ i x v Q d r1 f)
def opI {g:Int->Int->Int}
  (a:∀ (i j:Int) (t u:Tok) (s:Shared) (Q:Value->Shared->Prop) (E:Value->Shared->Prop),C i j->Q (.int (g i j) s.toks) { s with toks:=s.toks+1 }->wpAny (model X.prog X.w) X.A (f (.int i t) (.int j u)) Q E s) :
  OpR X f (rI C λi j=>.int (g i j)):=by
 intro b s σ H x y v u Q I k d h;obtain⟨i,j,rfl,rfl,c,q⟩:=h;obtain⟨t,rfl⟩:=k;obtain⟨e,rfl⟩:=d;exact a i j t e s _ _ c ⟨.int _,H,I.tok _,⟨_,rfl⟩,q⟩
def opI0 {g:Int->Int->Int}
  (a:∀ (i j:Int) (t u:Tok) (s:Shared) (Q:Value->Shared->Prop) (E:Value->Shared->Prop),Q (.int (g i j) s.toks) { s with toks:=s.toks+1 }->wpAny (model X.prog X.w) X.A (f (.int i t) (.int j u)) Q E s) :
  OpR X f (rI0 λi j=>.int (g i j)):=by
 intro b s σ H x y v u Q I e d h;obtain⟨i,j,rfl,rfl,q⟩:=h;obtain⟨t,rfl⟩:=e;obtain⟨c,rfl⟩:=d;exact a i j t c s _ _ ⟨.int _,H,I.tok _,⟨_,rfl⟩,q⟩
def opB0 {g:Int->Int->Bool}
  (a:∀ (i j:Int) (t u:Tok) (s:Shared) (Q:Value->Shared->Prop) (E:Value->Shared->Prop),Q (.bool (g i j)) s->wpAny (model X.prog X.w) X.A (f (.int i t) (.int j u)) Q E s) :
  OpR X f (rI0 λi j=>.bl (g i j)):=by
 intro b s σ H x y v u Q I c d h;obtain⟨i,j,rfl,rfl,q⟩:=h;obtain⟨t,rfl⟩:=c;obtain⟨e,rfl⟩:=d;exact a i j t e s _ _ ⟨.bl _,H,I,rfl,q⟩
def CPow (i j:Int):Prop:=0<=j/\j<=1000000/\i.natAbs < 2^64
def CMul (i j:Int):Prop:=(-(2^64) < i/\i < 2^64)\/(-(2^64) < j/\j < 2^64)
def CMul.ok (h:CMul i j):IntMulOk i j:=by
 rcases h with ⟨h1,h2⟩ | ⟨h1,h2⟩
 .exact .of_left (intBits_le_64 h1 h2)
 .exact .of_right (intBits_le_64 h1 h2)
def zOA:OpR X (binaryOp .Add) (rI0 λi j=>.int (i+j)):=opI0 λ_ _ _ _ _ _ _ q=>add_int q
def zRj:OpR X (binaryOp .Pow) (rI CPow λi j=>.int (i^j.toNat)):=opI λ_ _ _ _ _ _ _ a q=>pow_int_small a.1 a.2.1 a.2.2 q
def unI {g:Int->Int}
  (a:∀ (i:Int) (t:Tok) (s:Shared) (Q:Value->Shared->Prop) (E:Value->Shared->Prop),Q (.int (g i) s.toks) { s with toks:=s.toks+1 }->wpAny (model X.prog X.w) X.A (f (.int i t)) Q E s) :
  UnR X f (rU λi=>.int (g i)):=by
 intro b s σ H x v Q I c h;obtain⟨i,rfl,q⟩:=h;obtain⟨t,rfl⟩:=c;exact a i t s _ _ ⟨.int _,H,I.tok _,⟨_,rfl⟩,q⟩
end
section
variable {X:Cx}{a b c:Expr}{ta tb tc:TE}{pos:Pos}
def zOQ {σ:St}(I:Inv X pins σ H s)(q:Q (.bl k) H)(e:k=k'):EP X pins σ Q (.bool k') s:=by
 subst e;exact⟨.bl k,H,I,rfl,q⟩
def zRl:OpR X (compareOp .Lt) (rI0 λi j=>.bl (decide (i < j))):=opB0 λ_ _ _ _ _ _ _ q=>lt_int q
def zRm:OpR X (compareOp .LtE) (rI0 λi j=>.bl (decide (i<=j))):=opB0 λ_ _ _ _ _ _ _ q=>le_int q
def zRp:OpR X (compareOp .Gt) (rI0 λi j=>.bl (decide (j < i))):=opB0 λ_ _ _ _ _ _ _ q=>gt_int q
def zRr:OpR X (compareOp .GtE) (rI0 λi j=>.bl (decide (j<=i))):=opB0 λ_ _ _ _ _ _ _ q=>ge_int q
def zRn:OpR X (compareOp .Is) (λx y H Q=>y=.non/\Q (.bl (decide (x=.non))) H):=by
 intro a s σ H x y v u Q I b c h;obtain⟨rfl,q⟩:=h;cases c;refine is_none_gen (zOQ I q ?_);cases x<;>first
  | rfl
  | obtain⟨t,rfl⟩:=b;rfl
def zPD:OpR X (compareOp .IsNot) (λx y H Q=>y=.non/\Q (.bl (!decide (x=.non))) H):=by
 intro a s σ H x y v u Q I b c h;obtain⟨rfl,q⟩:=h;cases c;refine isnot_none_gen (zOQ I q ?_);cases x<;>first
  | rfl
  | obtain⟨t,rfl⟩:=b;rfl
def OpR.or (h:OpR X f r)(h':OpR X f r'):OpR X f (λx y H Q=>r x y H Q\/r' x y H Q):=by
 intro a s σ H x y v u Q I c b q;rcases q with q | q
 .exact h a s σ H x y v u Q I c b q
 .exact h' a s σ H x y v u Q I c b q
def zDH (b:Expr)(h:op≠.In:=by decide)(h2:op≠.NotIn:=by decide):behindInMarks op b=false:=by
 have c:(op==CmpOp.In)=false:=by cases op<;>first | rfl | exact absurd rfl h
 have a:(op==CmpOp.NotIn)=false:=by cases op<;>first | rfl | exact absurd rfl h2
 cases b<;>simp[behindInMarks,c,a]
def zJ5 (l:OpR X (compareOp op) r)(i:PE X a ta)(g:PE X b tb)(e:behindInMarks op b=false):PE X (.Compare a [op] [b] pos) (tOp r ta tb):=by
 intro c s σ H Q I h;exact wpAny_Compare1 (binT i g I h λv u d x y m k j f q=>l c d σ m x y v u Q k j f q) e
def zQ5 (t:TE):TT:=fun σ H Q=>t σ H λx H'=>∃ k,x=.bl k/\Q k H'
def zOz (l:OpR X (compareOp op) r)(p:PE X a ta)(A:PE X b tb)(d:behindInMarks op b=false):PT X (.Compare a [op] [b] pos) (zQ5 (tOp r ta tb)):=by
 intro c s σ H Q I h;refine wpAny_isTrue_Compare1 (thn (p c s σ H _ I h) λv w ⟨x,g,t,r1,B⟩=>thn (A c w σ g _ t B) λu f ⟨y,m,n,r2,j⟩ =>
  thn (l c f σ m x y v u _ n r1 r2 j) λc C ⟨z,o,q,r3,k,e,i⟩=>?_) d
 subst e;cases r3;exact wpAny_truthy_bool ⟨o,q,i⟩
def zJY (r r':R2)(ta tb tc:TE):TE:=fun σ H Q=>ta σ H λx H1=>tb σ H1 λy H2=>r x y H2 λz H3=>∃ k,z=.bl k /\
 (if k=true then tc σ H3 λw' H4=>r' y w' H4 Q else Q (.bl false) H3)
def zMQ (G:OpR X (compareOp op) r)(g:OpR X (compareOp op') r')(m:PE X a ta)(E:PE X b tb)(o:PE X c tc)
  (F:lastMarks [op,op'] [b,c]=false:=by with_unfolding_all rfl):PE X (.Compare a [op,op'] [b,c] pos) (zJY r r' ta tb tc):=by
 intro d s σ H Q I h;refine Compare_chain (thn (m d s σ H _ I h) λv O ⟨x,C,t,r1,D⟩=>chain_link (thn (E d O σ C _ t D) λu J ⟨y,A,B,r2,w⟩ =>
  thn (G d J σ A x y v u _ B r1 r2 w) λd n ⟨z,i,l,r3,k,e,j⟩=>?_)) F
 subst e;cases r3;refine wpAny_truthy_bool ?_;cases k with
 | false=>exact ite_ff ⟨.bl false,i,l,rfl,j⟩
 | true=>exact ite_tt (chain_last (thn (o d n σ i _ l j) λw' M f=>by obtain⟨L,p,K,q,N⟩:=f;exact g d M σ p y L u w' Q K r2 q N))
def zML (F:OpR X (compareOp op) r)(g:OpR X (compareOp op') r')(N:PE X a ta)(T:PE X b tb)(P:PE X c tc)
  (W:lastMarks [op,op'] [b,c]=false:=by with_unfolding_all rfl):PT X (.Compare a [op,op'] [b,c] pos) (zQ5 (zJY r r' ta tb tc)):=by
 intro d s σ H Q I h;refine isTrue_chain (thn (N d s σ H _ I h) λv q ⟨x,V,p,r1,B⟩=>test_link (thn (T d q σ V _ p B) λu L ⟨y,n,t,r2,A⟩ =>
  thn (F d L σ n x y v u _ t r1 r2 A) λd o ⟨z,l,i,r3,k,e,j⟩=>?_)) W
 subst e;cases r3;refine wpAny_truthy_bool ?_;cases k with
 | false =>
  obtain⟨k',C,M⟩:=j;cases C;exact ite_ff ⟨l,i,M⟩
 | true =>
  refine ite_tt (test_last (thn (P d o σ l _ i j) λw' J ⟨m,G,S,U,w⟩=>thn (g d J σ G y m u w' _ S r2 U w) λd' s5 f=>?_));obtain⟨Z,K,O,R,k2,E,D⟩:=f;subst E;cases R;exact wpAny_truthy_bool ⟨K,O,D⟩
def zKi:(sizeLine:Nat) < 2^63:=by decide
def zGz (r:Vals [x] us):∃ u,us=[u]/\RelV x u:=by
 cases r with
 | cons r1 r2=>cases r2;exact⟨_,rfl,r1⟩
def zL6 (r:Vals [x,y] us):∃ u w',us=[u,w']/\RelV x u/\RelV y w':=by
 cases r with
 | cons r1 r2 =>
  cases r2 with
  | cons r3 a=>cases a;exact⟨_,_,rfl,r1,r3⟩
def zLg (b:X.calm=true):zDh X (.builtin "max") (λxs H Q=>∃ i j,xs=[.int i,.int j]/\Q (.int (if j>i then j else i)) H):=by
 intro a s σ H xs us Q I r h;obtain⟨i,j,rfl,q⟩:=h;obtain⟨u,c,rfl,⟨t,rfl⟩,⟨t',rfl⟩⟩:=zL6 r;refine max_two_ints (I.ok.hd b) λh' d k=>⟨_,H,I.kept k,?_,q⟩
 by_cases hj:j>i
 .rw [if_pos hj,if_pos hj];exact⟨_,rfl⟩
 .rw [if_neg hj,if_neg hj];exact⟨_,rfl⟩
end
structure ObjM (h:Heap)(x dx C:Addr)(mA:Str->Option Value):Prop where
 obj:h.get? x=some (W.instObj C dx)
 ns:h.Ns1 dx mA
 ne:dx≠x
def zKf {h:Heap}(n:h.Ns1 dx mA):∃ od,h.get? dx=some od/\∀ name,W.lookIn name od=some (mA name):=by
 obtain⟨o,es,j,i,d,g,_,c⟩:=n;refine⟨o,i,λname=>?_⟩;have e:=c name;unfold nsFind findBy at e;unfold W.lookIn;rw[d];dsimp only;split
 .grind
 .rename_i q;have a:es.toList.any (·.refKey)=false:=by
   rw[List.any_eq_false];intro y f;obtain⟨z,t,b⟩:=g y (Array.mem_toList_iff.mp f);simp[DictEntry.refKey,b]
  grind
def ObjM.look (I:ObjM h x dx C mA):∃ od,W.InstAt h x (W.instObj C dx) C (some od)/\∀ name,W.lookIn name od=some (mA name) :=
 let ⟨od,ho,hl⟩:=zKf I.ns
 ⟨od,⟨I.obj,rfl,rfl,ho⟩,hl⟩
section
variable {prog:Program}{w:World}{A:Around}{E:Value->Shared->Prop}{s:Shared}{K:W.Frag}{x dx C f:Addr}{mA:Str->Option Value}{name:Str}{v:Value}
def zP4 (X:K.In s.heap)(I:ObjM s.heap x dx C mA)(d:W.plainGet K C name=true)(b:W.hasDictIn K C=true)
  (c:W.findIn K (.ref C) name=some none) (e:mA name=some v) (a:W.handedIn v=true) (h:Q v { s with toks:=s.toks+1 }) :
  wpAny (model prog w) A (getAttr (.ref x) name expr) Q E s:=by
 obtain⟨f,J,g⟩:=I.look;exact W.get_value X J (W.plainGet_of d).1 (W.findObj_own b c rfl (by simp_all)) a h
def zM2 (X:K.In s.heap)(I:ObjM s.heap x dx C mA)(a:W.plainGet K C name=true)
  (e:W.findIn K (.ref C) name=some (some (.ref f))) (g:W.isFn K (.ref f)=true) (c:mA name=none) (h:Q (.ref f,[.ref x]) s) :
  wpAny (model prog w) A (getMethod (.ref x) name pl) Q E s:=by
 obtain⟨b,J,d⟩:=I.look;exact W.method_fn X J (W.plainGet_of a).1 (W.plainGet_of a).2 e (beq_iff_eq.mp g) (by show (W.lookIn name b).map (·.isSome)=some false;rw[d,c];rfl) h
def zOp (X:K.In s.heap)(I:ObjM s.heap x dx C mA)
  (j:W.findIn K (.ref C) "__setattr__"=some (some (.builtin "object.__setattr__"))) (o:W.plainOver K C=true) (l:W.takerIn K C name=some none) (k:W.hasDictIn K C=true)
  (m:PySem.Within mA ns) (hsz:ns.length<=sizeLine)
  (h:∀ h',ObjM h' x dx C (λy=>if y=name then some v else mA y)->Heap.SameBut dx s.heap h'->Q () { s with heap:=h',toks:=s.toks+2 }) :
  wpAny (model prog w) A (setAttr (.ref x) name v) Q E s:=by
 obtain⟨q,J,t⟩:=I.look;refine W.set_plain X J j (W.osa_open (s:={ s with toks:=s.toks+1 }) (r:=none) X J o l λb=>?_);obtain⟨z,i,d⟩:=W.any_some k;refine qQ (q8 (qQ (qQ (wpAny_loadPart I.obj (qQ (W.Looks.here (s:={ s with toks:=s.toks+1 }) (W.looks_clsIn X i) ?_))))));rw[d];refine q8 (a:=some dx) (qQ (q8 (qQ ?_)));refine wpAny_nsSet1 (s:={ s with toks:=s.toks+1 }) I.ns λh' b c=>?_
 obtain⟨u,n,p,e,g,f⟩:=b.count (PySem.Within.cons name v m);refine qQ (wpAny_lookBehind e (by rw[g];exact pastItsLine_dict (le_trans f (by rw[xX];omega))) ?_);exact q8 (h _ ⟨(c.2 _ (Ne.symm I.ne)).trans I.obj,b,I.ne⟩ c)
def zMa (X:K.In s.heap)(b:W.makesIn K C=true)
  (d:W.findIn K (.ref C) "__init__"=some (some (.ref f))) (c:W.typeIn K (.ref f)=some (.type "function"))
  (h:codeAny (model prog w) (A.under (.builtin "type.__call__" ⟨.ref C::vs,kw⟩)) (.call (.ref f) ⟨.ref (s.heap.objs.size+1)::vs,kw⟩) (W.InitBack (s.heap.objs.size+1) R)
   { s with heap:=(s.heap.push W.emptyDict).push (W.instObj C s.heap.objs.size) }) :
  codeAny (model prog w) A (.call (.ref C) ⟨vs,kw⟩) R s:=W.make_core (W.makes_of X b) (W.looks_findIn X d) (λself=>W.bind_fn X self c) (.inl rfl) h
end
noncomputable def putF (f:Str)(v:V):List (Str×V)->List (Str×V)
 | []=>[(f,v)]
 | (g,x)::r=>if g=f then (g,v)::r else (g,x)::putF f v r
theorem zCA (f g:Str)(v:V):∀ fs:List (Str×V),(putF f v fs).lookup g=if g=f then some v else fs.lookup g
 | []=>by
  show List.lookup g [(f,v)]=_;by_cases h:g=f
  .have hb:(g==f)=true:=beq_iff_eq.mpr h;simp only[List.lookup,hb,if_pos h]
  .have hb:(g==f)=false:=beq_eq_false_iff_ne.mpr h;simp only[List.lookup,hb,if_neg h]
 | (k,x)::r=>by
  have ih:=zCA f g v r;rw[show putF f v ((k,x)::r)=(if k=f then (k,v)::r else (k,x)::putF f v r) from rfl];by_cases hk:k=f
  .rw [if_pos hk];by_cases h:g=k
   .have hb:(g==k)=true:=beq_iff_eq.mpr h;simp only[List.lookup,hb,if_pos (h.trans hk)]
   .have hb:(g==k)=false:=beq_eq_false_iff_ne.mpr h;simp only[List.lookup,hb,if_neg (λe:g=f=>h (e.trans hk.symm))]
  .rw [if_neg hk];by_cases h:g=k
   .have hb:(g==k)=true:=beq_iff_eq.mpr h;simp only[List.lookup,hb,if_neg (λe:g=f=>hk (h.symm.trans e))]
   .have hb:(g==k)=false:=beq_eq_false_iff_ne.mpr h;simp only[List.lookup,hb];exact ih
theorem zEQ (f:Str)(v:V):∀ fs:List (Str×V),f∈(putF f v fs).map (·.1)/\∀ g,g∈fs.map (·.1)->g∈(putF f v fs).map (·.1)
 | []=>⟨by simp[putF],λg h=>by simp at h⟩
 | (k,x)::r=>by
  obtain⟨i1,i2⟩:=zEQ f v r;rw[show putF f v ((k,x)::r)=(if k=f then (k,v)::r else (k,x)::putF f v r) from rfl];by_cases hk:k=f
  .rw [if_pos hk];subst hk;exact⟨by simp,λg h=>by simpa using h⟩
  .rw [if_neg hk];refine⟨?_,λg h=>?_⟩
   .rw [map_cons];exact qY _ i1
   .rw [map_cons] at h ⊢;rcases mem_cons.mp h with e | e
    .exact mem_cons.mpr (.inl e)
    .exact qY _ (i2 g e)
theorem zEN (f:Str)(v:V):∀ fs:List (Str×V),(putF f v fs).length<=fs.length+1
 | []=>by simp[putF]
 | (k,x)::r=>by
  have ih:=zEN f v r;rw[show putF f v ((k,x)::r)=(if k=f then (k,v)::r else (k,x)::putF f v r) from rfl];by_cases hk:k=f
  .rw [if_pos hk,xX,xX];omega
  .rw [if_neg hk,xX,xX];omega
def RelO.some_of (r:RelO (some v) o):∃ u,o=some u/\RelV v u:=by
 cases o with
 | none=>exact r.elim
 | some u=>exact⟨u,rfl,r⟩
def RelO.none_of (r:RelO none o):o=none:=by
 cases o with
 | none=>rfl
 | some u=>exact r.elim
def zKo (r:RelV v u):W.handedIn u=true:=by
 cases v with
 | non=>cases r;rfl
 | bl b=>cases r;rfl
 | int i=>obtain⟨t,e⟩:=r;cases e;rfl
 | str x=>obtain⟨t,e⟩:=r;cases e;rfl
 | byt b=>obtain⟨t,e⟩:=r;cases e;rfl
 | flt b=>obtain⟨t,e⟩:=r;cases e;rfl
 | ref a=>cases r;rfl
 | ty n=>cases r;rfl
section
variable {P:Program}{w:World}{H H':Hp}{h h':Heap}{a C dx:Addr}{fs fs':List (Str×V)}
def zDZ (b:HOk P w H h)(e:H a=some (.ins C dx fs)):∃ mA,ObjM h a dx C mA/\(∀ f,RelO (fs.lookup f) (mA f))/\PySem.Within mA (fs.map (·.1))/\fs.length<=1000/\H dx=some (.own a):=by
 obtain⟨d,z,c,ob,mA,n,r,q⟩:=b a _ e;exact⟨mA,⟨ob,n,c⟩,r,q,z,d⟩
end
structure Cls (K:W.Frag)(C:Addr):Prop where
 pg:W.plainGet K C Str.empty=true
 hd:W.hasDictIn K C=true
 po:W.plainOver K C=true
 sa:W.findIn K (.ref C) "__setattr__"=some (some (.builtin "object.__setattr__"))
def Cls.get {K:W.Frag}(c:Cls K C)(f:Str):W.plainGet K C f=true:=c.pg
def zBQ (K:W.Frag)(C:Addr)(f:Str):Prop:=W.findIn K (.ref C) f=some none
def zBQ.taker {K:W.Frag}(n:zBQ K C f):W.takerIn K C f=some none:=by
 unfold W.takerIn;rw[show W.findIn K _ f=some none from n]
 rfl
structure Meth (K:W.Frag)(C:Addr)(m:Str)(f:Addr):Prop where
 at_:W.findIn K (.ref C) m=some (some (.ref f))
 fn:W.isFn K (.ref f)=true
 kp:W.keepIn K (.ref f)=true
section
variable {X:Cx}{pins:List (Addr×Obj)}{σ:St}{H:Hp}{s:Shared}{a C dx:Addr}{fs:List (Str×V)}{f:Str}{v:V}{A:Around}{E:Value->Shared->Prop}
def zI5 (I:Inv X pins σ H s)(e:H a=some (.ins C dx fs))(c:Cls X.K C)(n:zBQ X.K C f)(l:fs.lookup f=some v)
  (h:∀ u s',Inv X pins σ H s'->RelV v u->Q u s'):wpAny (model X.prog X.w) A (getAttr (.ref a) f b) Q E s:=by
 obtain⟨i,O,r,_,_,_⟩:=zDZ I.hok e;obtain⟨u,g,d⟩:=RelO.some_of (by rw[<- l];exact r f);exact zP4 I.kIn O (c.get f) c.hd n g (zKo d) (h u _ (I.tok _) d)
def zE7 (I:Inv X pins σ H s)(e:H a=some (.ins C dx fs))(c:Cls X.K C)(k:Meth X.K C m g)(l:fs.lookup m=none)
  (h:Q (.ref g,[.ref a]) s):wpAny (model X.prog X.w) A (getMethod (.ref a) m pl) Q E s:=by
 obtain⟨b,O,r,_,_,_⟩:=zDZ I.hok e;exact zM2 I.kIn O (c.get m) k.at_ k.fn (RelO.none_of (by rw[<- l];exact r m)) h
def zIk (I:Inv X pins σ H s)(e:H a=some (.ins C dx fs))(c:Cls X.K C)(n:zBQ X.K C f)(v:fs.length < 1000)(p:RelV y u)
  (h:∀ s',Inv X pins σ (upd H a (.ins C dx (putF f y fs))) s'->Q () s'):wpAny (model X.prog X.w) A (setAttr (.ref a) f u) Q E s:=by
 obtain⟨k,O,r,j,_,i⟩:=zDZ I.hok e;refine zOp I.kIn O c.sa c.po n.taker c.hd j (by rw[qy,sizeLine_eq];omega) λh' d l=>h _ ?_
 refine I.write (x:=a) (e:=dx) (by rw[e];exact True.intro) (.inr i) (λb q t z=>(l.2 b t).trans z) (let ⟨o,_,_,e',_⟩:=d.ns;⟨o,e'⟩) ?_;refine⟨by rw[zAQ O.ne];exact i,?_,O.ne,d.obj,_,d.ns,λg=>?_,λg m=>?_⟩
 .have:=zEN f y fs;omega
 .show RelO ((putF f y fs).lookup g) (if g=f then some u else k g);rw[zCA];by_cases q:g=f
  .rw [if_pos q,if_pos q];exact p
  .rw [if_neg q,if_neg q];exact r g
 .by_cases q:g=f
  .rw [q];exact(zEQ f y fs).1
  .refine (zEQ f y fs).2 g (j g λz=>m ?_);grind
def Inv.made (I:Inv X pins σ H s):Inv X pins σ (upd (upd H s.heap.objs.size (.own (s.heap.objs.size+1))) (s.heap.objs.size+1) (.ins C s.heap.objs.size []))
  { s with heap:=(s.heap.push W.emptyDict).push (W.instObj C s.heap.objs.size) }:=by
 have b:(s.heap.push W.emptyDict).get? s.heap.objs.size=some W.emptyDict:=get?_push_size s.heap rfl;have c:((s.heap.push W.emptyDict).push (W.instObj C s.heap.objs.size)).get? (s.heap.objs.size+1)=some (W.instObj C s.heap.objs.size):=by
  have:=get?_push_size (s.heap.push W.emptyDict) (o:=W.instObj C s.heap.objs.size) rfl
  simp_all
 refine(I.laid (o:=.own _) (t':=s.toks) (λb u q=>get?_push_of_some _ q) (le_refl _) ⟨_,b⟩).laid (λb u q=>get?_push_of_some _ q) (Nat.le_of_eq (Heap.size_push _ _)) ?_;have a:s.heap.objs.size≠s.heap.objs.size+1:=ne_of_lt (Nat.lt_succ_self _);refine⟨by rw[zAQ a,zAW],zero_le _,a,c,λ_=>none,(Heap.Ns1.of_empty (⟨W.emptyDict,#[],_,b,rfl,λe d=>absurd d (by simp),λ_=>rfl⟩)).at λo q=>get?_push_of_some _ q,λ_=>True.intro,λy e=>absurd rfl e⟩
end
def tFld (K:W.Frag)(ta:TE)(f:Str):TE:=fun σ H Q=>ta σ H λx H1=>∃ a C dx fs v,x=.ref a/\H1 a=some (.ins C dx fs)/\Cls K C/\zBQ K C f/\fs.lookup f=some v/\Q v H1
def sFld (K:W.Frag)(ta tv:TE)(f:Str):TS:=λD σ H=>tv σ H λy H1=>ta σ H1 λx H2=>∃ a C dx fs,x=.ref a/\H2 a=some (.ins C dx fs)/\Cls K C/\zBQ K C f/\fs.length < 1000 /\
 D.nx σ (upd H2 a (.ins C dx (putF f y fs)))
section
variable {X:Cx}{o e value:Expr}{f:Str}{pos pos' tpos:Pos}{ta tv:TE}
def zN7 (i:PE X e ta)(g:attributeBase e f X.env (eval e X.env)=eval e X.env):PE X (.Attribute e f pos) (tFld X.K ta f):=by
 intro d s σ H Q I h;refine (Attribute_any_ (thn (i d s σ H _ I h) λu z b=>?_) (by rw[arm_eval_Attribute,g]));obtain⟨x,o,p,j,a,C,y,fs,v,m,k,c,n,l,q⟩:=b;subst m;obtain rfl:u=Value.ref a:=j;exact zI5 p k c n l λu' w t r=>⟨v,o,t,r,q⟩
def zRT (r:PE X o ta)(v:PE X value tv)(i:swapsWith value (some (.Attribute o f pos')) pos.line X.env=pure false):PS X (.Assign [.Attribute o f pos'] value pos) (sFld X.K ta tv f):=by
 intro b s σ H D I h;refine plainObj_wpAny_Assign_Attribute (thn (v b s σ H _ I h) λu p ⟨y,j,m,u,q⟩=>thn (r b p σ j _ m q) λov B d=>?_) i;obtain⟨x,E,e,z,a,C,F,fs,g,w,c,n,l,k⟩:=d;subst g;obtain rfl:ov=Value.ref a:=z;exact zIk e w c n l u λs3 t=>⟨σ,_,t,k⟩
end
section
variable {X:Cx}{pins:List (Addr×Obj)}{σ:St}{H:Hp}{s:Shared}{A:Around}{E:Value->Shared->Prop}{Q:Value->Shared->Prop}{c:Value}{b:Bool}
inductive TyOf (K:W.Frag) (H:Hp):V->Value->Prop where
 | non:TyOf K H .non (.type "NoneType")
 | bl (x:Bool):TyOf K H (.bl x) (.type "bool")
 | int (i:Int):TyOf K H (.int i) (.type "int")
 | str (x:Str):TyOf K H (.str x) (.type "str")
 | flt (x:UInt64):TyOf K H (.flt x) (.type "float")
 | lst {a:Addr} {xs:List V} (e:H a=some (.lst xs)):TyOf K H (.ref a) (.type "list")
 | frz {a:Addr} {o:Obj} {xs:List V} (e:H a=some (.frz o (.lst xs))):TyOf K H (.ref a) (.type "list")
 | tup {a:Addr} {xs:List V} (e:H a=some (.tup xs)):TyOf K H (.ref a) (.type "tuple")
 | dK {a:Addr} {kvs:List (Key×V)} (e:H a=some (.dK kvs)):TyOf K H (.ref a) (.type "dict")
 | dT {a:Addr} {kvs:List (List Key×V)} (e:H a=some (.dT kvs)):TyOf K H (.ref a) (.type "dict")
 | ins {a C dx:Addr} {fs:List (Str×V)} (e:H a=some (.ins C dx fs)) (cl:Cls K C) (ha:W.findIn K (.ref C) "__class__"=some (some (.builtin "object.__class__")))
   (hn:W.specialIn K (.builtin "object.__class__") "__get__"=some (some (.builtin "getset_descriptor.__get__"))) (htk:W.takesIn K (.builtin "object.__class__")=some true)
   (hm:W.mroIn K C (.type "object")=some true):TyOf K H (.ref a) (.ref C)
def zKm (I:Inv X pins σ H s)(d:RelV x u)(ty:TyOf X.K H x t)(e:W.kitOne X.K t c=some b)(h:∀ tk,Q (.bool b) { s with toks:=tk }) :
  wpAny (model X.prog X.w) A (call (.builtin "isinstance") [u,c]) Q E s:=by
 cases ty with
 | non=>cases (show u=Value.none from d);exact W.kia_one W.kitx_none I.kIn True.intro e (λz=>nomatch z) h
 | bl y=>cases (show u=Value.bool y from d);exact W.kia_one W.kitx_bool I.kIn True.intro e (λz=>nomatch z) h
 | int i=>obtain⟨t,q⟩:=(show ∃ t,u=Value.int i t from d);cases q;exact W.kia_one W.kitx_int I.kIn True.intro e (λz=>nomatch z) h
 | str y=>obtain⟨t,q⟩:=(show ∃ t,u=Value.str y t from d);cases q;exact W.kia_one W.kitx_str I.kIn True.intro e (λz=>nomatch z) h
 | flt y=>obtain⟨t,q⟩:=(show ∃ t,u=Value.float y t from d);cases q;exact W.kia_one W.kitx_float I.kIn True.intro e (λz=>nomatch z) h
 | @lst a g ea =>
  cases (show u=Value.ref a from d);obtain⟨_,_,n,_,h1⟩:=(show zBl X.prog X.w H s.heap a (.lst g) from I.hok a _ ea);exact W.kia_one W.kitx_list I.kIn ⟨_,h1,rfl⟩ e (λz=>nomatch z) h
 | @frz a ob g ea =>
  cases (show u=Value.ref a from d);obtain⟨_,_,_,n,_,h1⟩:=(show zBl X.prog X.w H s.heap a (.frz ob (.lst g)) from I.hok a _ ea);exact W.kia_one W.kitx_list I.kIn ⟨_,h1,rfl⟩ e (λz=>nomatch z) h
 | @tup a g ea =>
  cases (show u=Value.ref a from d);obtain⟨_,_,_,p⟩:=(show zBl X.prog X.w H s.heap a (.tup g) from I.hok a _ ea);obtain⟨o,h1,h2,_⟩:=p;exact W.kia_one W.kitx_tuple I.kIn ⟨o,h1,h2⟩ e (λz=>nomatch z) h
 | @dK a kvs ea =>
  cases (show u=Value.ref a from d);obtain⟨_,_,m,_,p⟩:=(show zBl X.prog X.w H s.heap a (.dK kvs) from I.hok a _ ea);obtain⟨o,es,j,h1,h2,_⟩:=p;exact W.kia_one W.kitx_dict I.kIn ⟨o,h1,h2.1⟩ e (λz=>nomatch z) h
 | @dT a kvs ea =>
  cases (show u=Value.ref a from d);obtain⟨_,_,g,_,o,es,j,h1,h2,_⟩:=(show zBl X.prog X.w H s.heap a (.dT kvs) from I.hok a _ ea);exact W.kia_one W.kitx_dict I.kIn ⟨o,h1,h2.1⟩ e (λz=>nomatch z) h
 | @ins a C dx fs ea cl ha hn htk hm =>
  cases (show u=Value.ref a from d);obtain⟨l,O,_⟩:=zDZ I.hok ea;obtain⟨k,J,_⟩:=O.look;exact W.kia_one (W.kitx_own (cl.get _) cl.hd ha hn htk hm) I.kIn J e (λz=>nomatch z) h
end
structure Room (k:Nat)(A:Around):Prop where
 hd:A.handled=none
 dp:A.depth+3*k+105 < recursionLimit
 un:A.units+16*k+200 < cLine
def Room.mono (r:Room k A)(h:j<=k):Room j A:=⟨r.hd,by have:=r.dp;omega,by have:=r.un;omega⟩
def Room.deeper (r:Room (k+1) A)(env:Env):Room k (A.deeper env) :=
 ⟨r.hd,by have:=r.dp;show A.depth+1+3*k+105 < _;omega,by have:=r.un;show A.units+3+16*k+200 < _;omega⟩
def zIy {A:Around}:(A.under (.builtin "type.__call__" ⟨.ref C::us,kw⟩)).depth=A.depth+1:=rfl
def zIx {A:Around}:(A.under (.builtin "type.__call__" ⟨.ref C::us,kw⟩)).units=A.units+1:=rfl
def Room.make (r:Room (k+1) A)(C:Addr)(us:List Value)(kw:List (Str×Value)):Room k (A.under (.builtin "type.__call__" ⟨.ref C::us,kw⟩)) :=
 ⟨r.hd,by have:=r.dp;rw[zIy];omega,by have:=r.un;rw[zIx];omega⟩
def Room.depth (r:Room k A):A.depth < recursionLimit:=by have:=r.dp;omega
def Room.units (r:Room k A):A.units+64 < cLine:=by have:=r.un;omega
def tNil:TA:=λ_ H Q=>Q [] H
def zQ9 (ta:TE)(tr:TA):TA:=fun σ H Q=>ta σ H λx H1=>tr σ H1 λxs H2=>Q (x::xs) H2
section
variable {X:Cx}{e:Expr}{es:List Expr}{te:TE}{t:TA}{pos:Pos}
def zA2:PA X [] tNil:=λ_ _ _ _ H Q I h=>Calls.spliced_nil ⟨[],H,I,.nil,h⟩
def zAU (q:PE X e te)(o:PA X es t)(i:starEach (e::es) X.env=(false,eval e X.env)::starEach es X.env:=by rfl):PA X (e::es) (zQ9 te t):=by
 intro d a s σ H Q I h;rw[i];show wpAny _ _ (spliced ((false,eval e X.env)::backTo d (starEach es X.env))) _ _ s;refine Calls.spliced_cons (thn (q a s σ H _ I h) λu k c=>?_);obtain⟨x,n,m,r1,p⟩:=c;exact thn (o d a k σ n _ m p) λus r b=>by obtain⟨f,j,l,r2,g⟩:=b;exact⟨x::f,j,l,.cons r1 r2,g⟩
def tTup (t:TA):TE:=fun σ H Q=>t σ H λxs H1=>xs.length<=sizeLine/\∀ p,H1 p=none->Q (.ref p) (upd H1 p (.tup xs))
def tLst (t:TA):TE:=fun σ H Q=>t σ H λxs H1=>xs.length<=sizeLine/\∀ p,H1 p=none->Q (.ref p) (upd H1 p (.lst xs))
def zRV {x1}(h:PA X es t):PE X (.Tuple es x1 pos) (tTup t):=by
 intro a s σ H Q I hq;refine wpAny_Tuple_spliced (thn (h pos a s σ H _ I hq) λus c ⟨f,d,b,r,z,q⟩=>⟨by rw[<- r.length];exact z,?_⟩);refine⟨.ref c.heap.objs.size,upd d c.heap.objs.size _,b.laid (λb u e=>get?_push_of_some _ e) (le_refl _) ?_,rfl,q _ (b.hok.fresh (le_refl _))⟩;exact⟨z,us,r,⟨_,get?_push_size _ rfl,rfl,_,rfl⟩⟩
def zN6 (h:PA X es t):PE X (.List es pos) (tLst t):=by
 intro a s σ H Q I hq;refine wpAny_List_spliced (thn (h pos a s σ H _ I hq) λus c ⟨f,d,b,r,z,q⟩=>⟨by rw[<- r.length];exact z,?_⟩);refine⟨.ref c.heap.objs.size,upd d c.heap.objs.size _,b.laid (λb u e=>get?_push_of_some _ e) (le_refl _) ?_,rfl,q _ (b.hok.fresh (le_refl _))⟩;exact⟨z,us,0,r,get?_push_size _ rfl⟩
end
abbrev Sp:=List V->Hp->VK->XK->Prop
abbrev CXT:=List Env->Hp->Shared->XK->Value->Shared->Prop
structure Env0 (P:Program)(w:World)(K:W.Frag)(mg:Str->Option Value)(base:Heap)(A:Around)(outer:List Env)(s:Shared)(H:Hp):Prop where
 frames:A.frames=some outer
 mod:Mod K mg base
 bs:∀ b o,base.get? b=some o->s.heap.get? b=some o/\H b=none
 bsz:base.objs.size<=s.heap.objs.size
 funs:s.heap.FunFrames base outer
 frf:∀ b∈frs outer,H b=none
 hok:HOk P w H s.heap
 bare:AllBare s.gens
 tree:(model P w).prog.given.tree=none
 tabs:zIc K H
def CE (outer:List Env)(P:Program)(w:World)(H:Hp)(s:Shared)(Q:VK)(u:Value)(s':Shared):Prop :=
 ∃ v H',s'.os=s.os/\AllBare s'.gens/\Un (frs outer) [] H H' s.heap s'.heap/\HOk P w H' s'.heap/\RelV v u/\Q v H'
def CR (CX:CXT)(outer:List Env)(P:Program)(w:World)(H:Hp)(s:Shared)(Q:VK)(E:XK)(r:Result)(s':Shared):Prop :=
 match r with
 | .ok (.ret u)=>CE outer P w H s Q u s'
 | .ok _=>False
 | .error e=>CX outer H s E e s'
structure FnOk (P:Program)(w:World)(K:W.Frag)(mg:Str->Option Value)(base:Heap)(CX:CXT)(k:Nat)(f:Addr)(fd:FuncData)(ps:List Str)(sp:Sp):Prop where
 len:∀ vs H Q E,sp vs H Q E->vs.length=ps.length
 run:∀ (A:Around) (outer:List Env) (s:Shared) (H:Hp) (args:Args) (us:List Value) (vs:List V) (Q:VK) (E:XK),Room k A->Env0 P w K mg base A outer s H->BindsTo s fd args (ps.zip us)->Vals vs us->sp vs H Q E ->
  codeAny (model P w) A (.call (.ref f) args) (CR CX outer P w H s Q E) s
def FnOk.mono {K:W.Frag}(F:FnOk P w K mg base CX j f fd ps sp)(h:j<=k) :
  FnOk P w K mg base CX k f fd ps sp:=⟨F.len,λA a s H b us c Q E d=>F.run A a s H b us c Q E (d.mono h)⟩
def Env0.make {K:W.Frag}(e:Env0 P w K mg base A outer s H)(C:Addr)(us:List Value)(kw:List (Str×Value)) :
  Env0 P w K mg base (A.under (.builtin "type.__call__" ⟨.ref C::us,kw⟩)) outer s H:=⟨by first | exact e.frames | simpa using e.frames,e.mod,e.bs,e.bsz,e.funs,e.frf,e.hok,e.bare,e.tree,e.tabs⟩
section
variable {X:Cx}{pins:List (Addr×Obj)}{σ:St}{H:Hp}{s s':Shared}
def Inv.env0 (I:Inv X pins σ H s):Env0 X.prog X.w X.K X.mg X.base X.A X.stack s H :=
 ⟨I.ok.frames,I.ok.mod,I.bs,le_trans I.ok.bsz I.sz,I.stack,I.stkFree,I.hok,I.bare,I.ok.pyl.2.1,I.tabs⟩
def Inv.after (I:Inv X pins σ H s)(h:CE X.stack X.prog X.w H s Q u s'):EP X pins σ Q u s':=by
 obtain⟨v,e,f,a,un,b,r,q⟩:=h;obtain⟨i,g,d,t,c⟩:=s'
 simp_all
 exact⟨v,e,I.call un b a λb z=>absurd z (by simp),r,q⟩
end
def zMA (sp:Sp)(dvs:List V)(E:XK)(t:TA):TE:=fun σ H Q=>t σ H λvs H1=>sp (vs++dvs) H1 Q E
def zQ7 (C:Addr)(m:Str)(sp:Sp)(dvs:List V)(E:XK)(ta:TE)(t:TA):TE:=fun σ H Q=>ta σ H λx H1=>∃ a dx fs,x=.ref a/\H1 a=some (.ins C dx fs)/\fs.lookup m=none /\
 t σ H1 λvs H2=>sp (x::(vs++dvs)) H2 Q E
def zBH (K:W.Frag)(fd:FuncData)(ps:List Str)(ds:List Value):Prop :=
 ∀ (s:Shared) (us:List Value),K.In s.heap->(us++ds).length=ps.length->BindsTo s fd ⟨us,[]⟩ (ps.zip (us++ds))
def zBH.all {K:W.Frag}(h:∀ us:List Value,us.length=ps.length->bindArgs fd ⟨us,[]⟩=pure (ps.zip us)):zBH K fd ps []:=λs us _ a=>by
 simp_all
 exact .of_eq (h us a)
def zFN (CX:CXT)(X:Cx)(E:XK):Prop:=∀ (pins:List (Addr×Obj)) (σ:St) (H:Hp) (s:Shared) (e:Value) (s':Shared),Inv X pins σ H s->CX X.stack H s E e s'->X.xe e s'
section
variable {X:Cx}{CX:CXT}{k:Nat}{f C:Addr}{fd:FuncData}{ps:List Str}{sp:Sp}{dvs:List V}{ds:List Value}{E:XK}{x m:Str}{p pos apos:Pos}{e o:Expr}{es:List Expr}{ta:TE}{t:TA}
def zEv {σ:St}(F:FnOk X.prog X.w X.K X.mg X.base CX k f fd ps sp)(g:Room k X.A)(a:zBH X.K fd ps ds)(d:Vals dvs ds)(b:zFN CX X E)
  (I:Inv X pins σ H s) (r:Vals vs us) (h:sp (vs++dvs) H Q E):wpAny (model X.prog X.w) X.A (call (.ref f) us) (EP X pins σ Q) X.xe s:=by
 have r2:=r.append d;refine wpAny_call (codeAny_mono (F.run X.A X.stack s H _ _ _ Q E g I.env0 (a s us I.kIn (by rw[<- r2.length];exact F.len _ _ _ _ h)) r2 h) λr c hq=>?_);cases r with
 | error e=>exact b pins σ H s e c I hq
 | ok fl =>
  cases fl with
  | ret u=>exact I.after hq
  | next=>exact False.elim hq
  | brk=>exact False.elim hq
  | cont=>exact False.elim hq
def zJ6 (F:FnOk X.prog X.w X.K X.mg X.base CX k f fd ps sp)(u:Room k X.A)(o:Gl X x)(i:X.mg x=some (.ref f))(g:W.keepIn X.K (.ref f)=true)(v:zBH X.K fd ps ds)(l:Vals dvs ds)(m:zFN CX X E)
  (n:PA X (e::es) t) (b:(x==("__debug__":Str))=false:=by decide) (j:starEach (e::es) X.env=(false,eval e X.env)::starEach es X.env:=by rfl) (c:(backTo pos (starEach es X.env)).any (·.1)=false:=by rfl) :
  PE X (.Call (.Name x p) (e::es) [] pos) (zMA sp dvs E t):=by
 intro a s σ H Q I h;refine wpAny_Call_Name_kw (zEO I o i ?_ b);refine W.callWith_K I.ok.mod.kin g (thn (n pos a s σ H _ I h) λus y ⟨w,z,d,r,q⟩=>⟨d.kIn,?_⟩) j c;exact zEv F u v l m d r q
def zMR (F:FnOk X.prog X.w X.K X.mg X.base CX k f fd ps sp)(e:Room k X.A)(l:Gl X x)(c:X.mg x=some (.ref f))(j:W.keepIn X.K (.ref f)=true)(i:zBH X.K fd ps ds)(d:Vals dvs ds)(g:zFN CX X E)
  (a:(x==("__debug__":Str))=false:=by decide):PE X (.Call (.Name x p) [] [] pos) (zMA sp dvs E tNil):=by
 intro b s σ H Q I h;refine wpAny_Call_Name_kw (zEO I l c ?_ a);exact W.callWith_K0 I.kIn j (zEv F e i d g I .nil h)
theorem zO4 {pl:Sem Bool}(he:PE X o ta)(c:Cls X.K C)(hm:Meth X.K C m f)(F:FnOk X.prog X.w X.K X.mg X.base CX k f fd ps sp)(hr:Room k X.A)(hb:zBH X.K fd ps ds)(hd:Vals dvs ds)(hx:zFN CX X E)(ha:PA X (e::es) t)
  (hst:starEach (e::es) X.env=(false,eval e X.env)::starEach es X.env:=by rfl) (hpl:(backTo pos (starEach es X.env)).any (·.1)=false:=by rfl)
  (ht:eval (.Call (.Attribute o m apos) (e::es) [] pos) X.env=(do
   let ov<-eval o X.env
   standAt apos.atName
   let (f,first)<-holding [ov] (getMethod ov m pl)
   callWith pos f first (backTo pos (starEach (e::es) X.env)) (backToKw pos (keywordEach [] X.env))):=by rfl) :
  PE X (.Call (.Attribute o m apos) (e::es) [] pos) (zQ7 C m sp dvs E ta t):=by
 intro pins s σ H Q I h;refine W.methodCall_KW (pl:=pl) (thn (he pins s σ H _ I h) λu s1 zz27=>?_) ht;obtain⟨x,H1,I1,rx,a,dx,fs,ex,ea,l,q⟩:=zz27;subst ex;obtain rfl:u=Value.ref a:=rx;refine zE7 I1 ea c hm l ?_;refine W.callWith_K (first:=[.ref a]) (h₀:=X.base) I.ok.mod.kin hm.kp (thn (ha pos pins s1 σ H1 _ I1 q) λus s2 ⟨vs,H2,I2,r,q2⟩=>⟨I2.kIn,?_⟩) hst hpl;exact zEv (us:=.ref a::us) (vs:=.ref a::vs) F hr hb hd hx I2 (.cons rfl r) q2
theorem zMO {pl:Sem Bool}(he:PE X o ta)(c:Cls X.K C)(hm:Meth X.K C m f)(F:FnOk X.prog X.w X.K X.mg X.base CX k f fd ps sp)(hr:Room k X.A)(hb:zBH X.K fd ps ds)(hd:Vals dvs ds)(hx:zFN CX X E)
  (ht:eval (.Call (.Attribute o m apos) [] [] pos) X.env=(do
   let ov<-eval o X.env
   standAt apos.atName
   let (f,first)<-holding [ov] (getMethod ov m pl)
   callWith pos f first (backTo pos (starEach [] X.env)) (backToKw pos (keywordEach [] X.env))):=by rfl) :
  PE X (.Call (.Attribute o m apos) [] [] pos) (zQ7 C m sp dvs E ta tNil):=by
 intro pins s σ H Q I h;refine W.methodCall_KW (pl:=pl) (thn (he pins s σ H _ I h) λu s1 zz28=>?_) ht;obtain⟨x,H1,I1,rx,a,dx,fs,ex,ea,l,q⟩:=zz28;subst ex;obtain rfl:u=Value.ref a:=rx;refine zE7 I1 ea c hm l ?_;exact W.callWith_K0 (first:=[.ref a]) I1.kIn hm.kp (zEv (us:=[.ref a]) (vs:=[.ref a]) F hr hb hd hx I1 (.cons rfl .nil) q)
structure Mk (K:W.Frag)(C f:Addr):Prop where
 makes:W.makesIn K C=true
 init:W.findIn K (.ref C) "__init__"=some (some (.ref f))
 fn:W.isFn K (.ref f)=true
 kp:W.keepIn K (.ref C)=true
end
structure zAV (N P:List Str)(sc:Scope):Prop where
 kind:sc.kind=.function
 co:sc.isCoroutine=false
 gen:sc.isGenerator=false
 nd:N.Nodup
 pre:N.take P.length=P
 par:∀ x∈P,sc.names.lookup x=some .local\/sc.names.lookup x=some .cell
 nofree:∀ y∈sc.names,y.2≠.free
def zGq {a:Str->Option NameKind}:∀ {binds:List (Str×Value)} {m:Str->Option Value},(∀ v,(x,v)∉binds)->bindL a binds m x=m x
 | [],_,_=>rfl
 | (n,v)::r,m,h=>by
  unfold bindL;rw[zGq λw hw=>h w (qY _ hw)];split
  .have:x≠n:=by rintro rfl;exact h v q0
   simp[this]
  .rfl
def zGs {a:Str->Option NameKind}:∀ {binds:List (Str×Value)} {m:Str->Option Value},(∀ v,(x,v)∉binds)->bindC a binds m x=m x
 | [],_,_=>rfl
 | (n,v)::r,m,h=>by
  unfold bindC;rw[zGs λw hw=>h w (qY _ hw)];split
  .rfl
  .have:x≠n:=by rintro rfl;exact h v q0
   simp[this]
theorem zGr {kindOf:Str->Option NameKind}:∀ {P:List Str} {vs:List Value} {i:Nat} {m:Str->Option Value},P.Nodup->P[i]?=some x->vs[i]?=some v->kindOf x=some .local ->
  bindL kindOf (P.zip vs) m x=some v
 | [],_,_,_,_,h,_,_=>by simp at h
 | _::_,[],_,_,_,_,h,_=>by simp at h
 | p::P,w::vs,0,m,nd,h1,h2,hk=>by
  simp at h1 h2;subst h1;subst h2;show bindL kindOf ((p,w)::P.zip vs) m p=_;unfold bindL;rw[zGq λv hv=>(nodup_cons.mp nd).1 (of_mem_zip hv).1,if_pos hk];simp
 | p::P,w::vs,i+1,m,nd,h1,h2,hk=>by
  show bindL kindOf ((p,w)::P.zip vs) m x=_;unfold bindL;exact zGr (i:=i) (nodup_cons.mp nd).2 (by simpa using h1) (by simpa using h2) hk
theorem zGt {kindOf:Str->Option NameKind}:∀ {P:List Str} {vs:List Value} {i:Nat} {m:Str->Option Value},P.Nodup->P[i]?=some x->vs[i]?=some v->kindOf x≠some .local ->
  bindC kindOf (P.zip vs) m x=some v
 | [],_,_,_,_,h,_,_=>by simp at h
 | _::_,[],_,_,_,_,h,_=>by simp at h
 | p::P,w::vs,0,m,nd,h1,h2,hk=>by
  simp at h1 h2;subst h1;subst h2;show bindC kindOf ((p,w)::P.zip vs) m p=_;unfold bindC;rw[zGs λv hv=>(nodup_cons.mp nd).1 (of_mem_zip hv).1,if_neg hk];simp
 | p::P,w::vs,i+1,m,nd,h1,h2,hk=>by
  show bindC kindOf ((p,w)::P.zip vs) m x=_;unfold bindC;exact zGt (i:=i) (nodup_cons.mp nd).2 (by simpa using h1) (by simpa using h2) hk
noncomputable def zBy (N:List Str)(vs:List V):St:=vs.map some++List.replicate (N.length - vs.length) none
noncomputable def cxOf (CX:CXT)(P:Program)(w:World)(K:W.Frag)(mg:Str->Option Value)(base:Heap)(N:List Str)(qual:Str)(scope:Scope)(f:Addr)(cd:Value)(A:Around)(outer:List Env)(s:Shared)(H:Hp)(E:XK):Cx where
 prog:=P
 w:=w
 K:=K
 mg:=mg
 base:=base
 A:=A.deeper (envOfC qual scope s.heap.objs.size f cd)
 N:=N
 s0:=s
 Y8:=H
 env:=envOfC qual scope s.heap.objs.size f cd
 outer:=outer
 stack:=envOfC qual scope s.heap.objs.size f cd::outer
 ex:=[]
 calm:=true
 fn:=λ_=>true
 pn:=[]
 xe:=λe s'=>wpAny (model P w) (A.deeper (envOfC qual scope s.heap.objs.size f cd)) (leaving (envOfC qual scope s.heap.objs.size f cd) e) (λ_ s''=>CX outer H s E e s'') (λe' s''=>CX outer H s E e' s'') s'
def zIW {sc:Scope}(h:sc.names.lookup x=some .cell):∃ c,(cellsFrom n sc.names []).lookup x=some c:=Option.isSome_iff_exists.mp (W.cellsFrom_some sc.names n [] (.inl h))
def zGY {K:W.Frag}
  (S:zAV N ps scope) (D:A.handled=none) (o:A.depth+1+Builtin.pylongFrames < recursionLimit) (a:Env0 P w K mg base A outer s H) (I:vs.length=ps.length) (r:Vals vs us)
  (x:InCallC s s.heap.objs.size (bindL (envOfC qual scope s.heap.objs.size f cd).kindOf (ps.zip us) λ_=>none) (cellsFrom (s.heap.objs.size+1) scope.names []) (bindC (envOfC qual scope s.heap.objs.size f cd).kindOf (ps.zip us) λ_=>none) s1) :
  Inv (cxOf CX P w K mg base N qual scope f cd A outer s H E) [] (zBy N vs) H s1:=by
 have C:ps.length<=N.length:=by have:=congrArg List.length S.pre;rw[length_take] at this;omega
 obtain⟨h1,J,rfl,t⟩:=x.done;have d:∀ b:Addr,b∉(cxOf CX P w K mg base N qual scope f cd A outer s H E).ex:=λb z=>absurd (show b∈([]:List Addr) from z) (by simp)
 refine⟨⟨a.mod,S.kind,rfl,rfl,le_refl _,λy z c h1 h2=>?_,λy g=>?_,λy c _ h=>?_,λ_=>D,Around.frames_deeper a.frames,.inr ⟨rfl,rfl⟩,λb z=>absurd z (d b),a.bs,a.bsz,λb _ _=>d b,λb z=>absurd z (d b),a.funs,a.frf,⟨o,a.tree,_,_,rfl,S.gen,S.co,rfl,rfl⟩,a.tabs⟩,
  rfl,a.bare,Un.kept t,⟨_,x.toInCall.ns,λi y v h1 h2 h3=>?_⟩,λy c h=>⟨_,x.cell y c h⟩,a.hok.fresh (le_refl _),λy c h=>?_,λp j=>absurd (show p∈([]:List (Addr×Obj)) from j) (by simp),a.hok.kept t,?_⟩
 .exact name_of_addr x.apart (PySem.mem_of_lookup h1) (PySem.mem_of_lookup h2)
 .have g:=g;rcases g with g | g
  .exact zIW g
  .exact absurd rfl (S.nofree _ (PySem.mem_of_lookup g))
 .exact Nat.le_of_lt (x.above y c (PySem.mem_of_lookup h))
 .have m:i < vs.length:=by
   unfold zBy at h2;by_cases m:i < vs.length
   .exact m
   .rw [getElem?_append_right (by simpa using m)] at h2;rw[getElem?_replicate] at h2;split at h2<;>cases h2
  have F:vs[i]?=some v:=by
   unfold zBy at h2;rw[getElem?_append_left (by simpa using m),getElem?_map] at h2
   simp_all
  obtain⟨u,B,G⟩:=r.get F;have j:ps[i]?=some y:=by
   rw[<- S.pre,List.getElem?_take_of_lt (by omega)];exact h1
  have l:ps.Nodup:=by rw[<- S.pre];exact S.nd.sublist (List.take_sublist _ _)
  refine⟨u,G,?_⟩;rcases S.par y (mem_of_getElem? j) with k | k
  .exact .inl ⟨k,zGr l j B k⟩
  .obtain ⟨c,e⟩:=zIW (n:=s.heap.objs.size+1) k;refine .inr ⟨.inl k,c,e,?_⟩;have q:=x.cell y c e;rw[zGt l j B (by show scope.names.lookup y≠_;rw[k];decide)] at q;exact q
 .exact a.hok.fresh (Nat.le_of_lt (x.above y c (PySem.mem_of_lookup h)))
 .unfold zBy;show _=N.length;rw[List.length_append,qy,length_replicate];omega
def zS5 {K:W.Frag}{kV:Value}
     (T:K.lookup f=some ⟨oc,od,.func (W.fnOf name qual params body scope dV kV doc pm an cdv ct),osl⟩) (B:W.codeIn K cdv qual=true) (S:zAV N ps scope)
  (len:∀ vs H Q E,sp vs H Q E->vs.length=ps.length)
  (c:∀ (A:Around) (outer:List Env) (s:Shared) (H:Hp) (vs:List V) (Q:VK) (E:XK),Room k (A.deeper (envOfC qual scope s.heap.objs.size f cdv))->sp vs H Q E ->
   ∃ t,PSs (cxOf CX P w K mg base N qual scope f cdv A outer s H E) body t/\t { nx:=λ_ H'=>Q .non H',rt:=Q } (zBy N vs) H) :
  FnOk P w K mg base CX (k+1) f (W.fnOf name qual params body scope dV kV doc pm an cdv ct) ps sp:=by
 refine⟨len,λA outer s H D us vs Q E j i U r g=>?_⟩;have M:=len _ _ _ _ g;have C:K.In s.heap:=i.mod.kin.keeps λb o e=>(i.bs b o e).1
 have z:s.heap.NoLimit:=i.mod.nolimit.keeps λb o e=>(i.bs b o e).1
 have a:∀ y∈ps.zip us,scope.names.lookup y.1=some .local\/(scope.names.lookup y.1=some .cell/\((cellsFrom (s.heap.objs.size+1) scope.names []).lookup y.1).isSome=true):=λzz29 L=>by
  obtain⟨n,v⟩:=zz29;rcases S.par n (of_mem_zip L).1 with q | q
  .exact .inl q
  .exact .inr ⟨q,W.cellsFrom_some _ _ _ (.inl q)⟩
 refine codeAny_call_function j.depth (C _ _ T) rfl S.co S.gen rfl (W.codeRec_of C B) (U _ _ _ _ ?_);refine wpAny_newFunctionEnv_cells S.kind a λenv R F x=>?_
 subst R;refine⟨z.keeps x.toInCall.keep,codeAny_func ?_⟩;obtain⟨t,O,hq⟩:=c A outer s H vs Q E (j.deeper _) g;have I:Inv (cxOf CX P w K mg base N qual scope f cdv A outer s H E) [] (zBy N vs) H F:=zGY S j.hd (by have:=j.dp;show A.depth+1+100 < _;omega) i M r x;refine wpAny_mono (O [] F (zBy N vs) H _ I hq) (λfl p d=>?_) λe p d=>d
 have h:∀ {l:St} {H':Hp} {v:V} {u:Value},Inv (cxOf CX P w K mg base N qual scope f cdv A outer s H E) [] l H' p->RelV v u->Q v H'->CE outer P w H s Q u p :=
  λ{l H' v u} J m q=>⟨v,H',J.os,J.bare,J.base,J.hok,m,q⟩
 cases fl with
 | ret u =>
  obtain⟨v,l,H',J,m,q⟩:=d;exact h J m q
 | next =>
  obtain⟨l,H',J,q⟩:=d;exact h (v:=V.non) (u:=Value.none) J rfl q
 | brk =>
  obtain⟨_,_,_,q⟩:=d;exact False.elim q
 | cont =>
  obtain⟨_,_,_,q⟩:=d;exact False.elim q
section
variable {X:Cx}{x:Str}{p pos:Pos}{e:Expr}{es:List Expr}{t:TA}{id T:String}{r:List V->Hp->VK->Prop}
def tCB (r:List V->Hp->VK->Prop)(t:TA):TE:=fun σ H Q=>t σ H λvs H1=>r vs H1 Q
def zD0 (l:zDh X (.builtin id) r)(j:Gl X x)(u:X.mg x=none)(n:bootBuiltins x=some (.builtin id))(f:PA X (e::es) t)(k:x ≠ "__name__":=by decide)(c:(x==("__debug__":Str))=false:=by decide)
  (q:starEach (e::es) X.env=(false,eval e X.env)::starEach es X.env:=by rfl) (d:(backTo pos (starEach es X.env)).any (·.1)=false:=by rfl):PE X (.Call (.Name x p) (e::es) [] pos) (tCB r t):=by
 intro a s σ H Q I h;refine wpAny_Call_Name_kw (zCw I j u n ?_ k c);exact PyProof.Rows.callWith_builtin1 (thn (f pos a s σ H _ I h) λus v b=>by obtain⟨o,g,m,r1,i⟩:=b;exact l a v σ g o us Q m r1 i) q d
def zEC (v:zDh X (.type T) r)(j:Gl X x)(u:X.mg x=none)(f:bootBuiltins x=some (.type T))(k:PA X (e::es) t)(g:x ≠ "__name__":=by decide)(d:(x==("__debug__":Str))=false:=by decide)
  (l:starEach (e::es) X.env=(false,eval e X.env)::starEach es X.env:=by rfl) (c:(backTo pos (starEach es X.env)).any (·.1)=false:=by rfl):PE X (.Call (.Name x p) (e::es) [] pos) (tCB r t):=by
 intro a s σ H Q I h;refine wpAny_Call_Name_kw (zCw I j u f ?_ g d);exact PyProof.Rows.callWith_type1 (thn (k pos a s σ H _ I h) λus o b=>by obtain⟨q,m,n,r1,i⟩:=b;exact v a o σ m q us Q n r1 i) l c
end
end L2
namespace HT
open PySem PyProof.Rows
section
open PySem.SeqAt
open PySem.AutoSeq1 (wpAny_loadPart')
open PySem.MeetsSeq PySem.MeetsSeq2 PySem.MeetsSeq3
end
section
variable {prog:Program}{w:World}{A:Around}{E:Value->Shared->Prop}{s:Shared}
def zQm (i:IsTup s.heap t vs.toArray)(h:IsTup s.heap b ws.toArray)(e:vs≠[])
  (h1:ws=[]->Q (.ref t) s) (h2:ws≠[]->Q (.ref s.heap.objs.size) { s with heap:=s.heap.push { cls:=.type "tuple",data:=.seq (vs++ws).toArray } })
  (hsz:vs.length+ws.length<=sizeLine):wpAny (model prog w) A (binaryOp .Add (.ref t) (.ref b)) Q E s:=by
 obtain⟨⟨cls,f,data,sl⟩,ho,hc,n,hd⟩:=id i;obtain⟨⟨g,a,d,c⟩,ho2,hc2,n2,hd2⟩:=id h
 simp_all
 by_cases hw:ws=[]
 .exact concat_meets ⟨_,ho,rfl⟩ ⟨_,ho2,rfl⟩ noFill_tuple_add seq_tuple_add PySem.F.slot_tuple_add PySem.F.entry_tuple_add (PySem.F.args_tuple_add_2 _ _)
   (tuple_addW1 t b vs.toArray ws.toArray n n2 f a sl c (by simpa using e) (by simp[hw])) ⟨ho,ho2,h1 hw⟩
 .refine concat_meets ⟨_,ho,rfl⟩ ⟨_,ho2,rfl⟩ noFill_tuple_add seq_tuple_add PySem.F.slot_tuple_add PySem.F.entry_tuple_add (PySem.F.args_tuple_add_2 _ _)
   (tuple_addW2 t b vs.toArray ws.toArray n n2 f a sl c (by simpa using e) (by simpa using hw) (by omega)) ⟨ho,ho2,?_⟩
  simp_all
noncomputable def sIx (n d:Nat):Option Int->Nat
 | none=>d
 | some v=>if v < 0 then (v+(n:Int)).toNat else min v.toNat n
def zFc (n d:Nat):sIx n d none=d:=rfl
def zG9 (n d k:Nat):sIx n d (some (k:Int))=min k n:=rfl
def zRG (n d:Nat)(a:d<=n)(o:Option Int):sIx n d o<=n:=by
 cases o with
 | none=>exact a
 | some v =>
  show (if v < 0 then (v+_).toNat else min v.toNat n)<=n;grind
def zLe (v:Int)(n d:Nat):(if v < 0 then max (v+(n:Int)) 0 else min v (n:Int))=((sIx n d (some v):Nat):Int):=by
 show _=((if v < 0 then (v+_).toNat else min v.toNat n:Nat):Int);grind
def zJG (b a:Option Int)(n:Nat):Builtin.Slice.sliceAdjust b a 1 (n:Int)=(((sIx n 0 b:Nat):Int),((sIx n n a:Nat):Int)):=by
 refine Prod.ext ?_ ?_
 .cases b with
  | none=>rfl
  | some v=>exact zLe v n 0
 .cases a with
  | none=>rfl
  | some v=>exact zLe v n n
def zIp (i j:Nat):Builtin.Slice.slicePlaces (i:Int) (j:Int) 1=j - i:=by
 unfold Builtin.Slice.slicePlaces;grind
def zEu (p:IsPart v o)(h:Q o s):wpAny (model prog w) A (Builtin.Slice.slicePartIndex v) Q E s:=by
 cases p with
 | none=>exact slicePart_none h
 | int i t=>exact slicePart_int h
def zDu {c d:Option Int}{n:Nat}{Q:Int×Int×Nat->Shared->Prop}(g:s.heap.IsSliceOf sl vl vu .none)(pl:IsPart vl c)(f:IsPart vu d)
  (h:Q (((sIx n 0 c:Nat):Int),1,sIx n n d - sIx n 0 c) s):wpAny (model prog w) A (Builtin.Slice.sliceApplied (.ref sl) (pure (n:Int))) Q E s:=by
 obtain⟨i,a,e,b⟩:=id g;refine qQ (qQ (wpAny_field a b (x:=vl) rfl (qQ (wpAny_field a b (x:=vu) rfl (qQ (wpAny_field a b rfl (q8 ?_)))))));refine qQ (slicePart_none ?_);refine qQ (zEu pl (qQ (zEu f (qQ (q8 ?_)))));simp;rw[zJG c d n];simp;rw[zIp];exact q8 h
def zMN (xs:Array Value)(i k:Nat):((List.range k).filterMap λ(m:Nat)=>xs[((i:Int)+(m:Int)*1).toNat]?).toArray=((xs.toList.drop i).take k).toArray:=by
 have e:(λ(m:Nat)=>xs[((i:Int)+(m:Int)*1).toNat]?)=λm=>xs[i+m]?:=by
  funext m;have:((i:Int)+(m:Int)*1).toNat=i+m:=by omega
  rw[this]
 rw[e];have:=pick_run xs i k
 simp_all
 assumption
def zDd {b:Option Int}(c:IsTup s.heap t items)(i:s.heap.IsSliceOf sl vl vu .none)(pl:IsPart vl b)(l:IsPart vu hi)
  (n:¬ (sIx items.size 0 b=0/\sIx items.size items.size hi=items.size))
  (h:Q (.ref s.heap.objs.size) { s with heap:=s.heap.push { cls:=.type "tuple",data:=.seq ((items.toList.drop (sIx items.size 0 b)).take (sIx items.size items.size hi - sIx items.size 0 b)).toArray } })
  (hsz:items.size<=sizeLine):wpAny (model prog w) A (getItem (.ref t) (.ref sl)) Q E s:=by
 have a:sizeOk (.seq ((items.toList.drop (sIx items.size 0 b)).take (sIx items.size items.size hi - sIx items.size 0 b)).toArray):=by
  show ((items.toList.drop (sIx items.size 0 b)).take (sIx items.size items.size hi - sIx items.size 0 b)).toArray.size<=sizeLine;rw[xq,length_take,length_drop,Array.length_toList];omega
 have o:sIx items.size items.size hi<=items.size:=zRG _ _ (le_refl _) hi;obtain⟨k,g,e,j⟩:=id i;have d:s.TypeIs (.ref sl) "slice":=⟨k,g,e⟩;unfold getItem
 try with_reducible refine wpAny_holding ?_
 first | refine qQ (q8 ?_) | skip
 refine qQ (wpAny_sequenceKey c.typeIs (by decide) ?_);refine qQ (wpAny_callSpecial?_slot (name:=Str.ofString "__getitem__") c.typeIs PyProof.Rows.slot_tuple_getitem
  (wpAny_call_entry PyProof.Rows.slot_tuple_getitem c.typeIs entry_tuple_getitem ?_ (args_tuple_getitem _ _)))
 show wpAny _ _ (Builtin.Tuple.tupleItemsOf (.ref t)>>=_) _ _ s;refine qQ (tupleItemsOf_ c ?_);refine qQ (wpAny_typeOf d ?_);rw[if_pos (by decide)];refine qQ (zDu i pl l ?_);have f:¬ ((((sIx items.size 0 b:Nat):Int)==0&&(1:Int)==1&&(sIx items.size items.size hi - sIx items.size 0 b)==items.size)=true):=by
  grind
 show wpAny _ _ (if _=true then _ else _) _ _ s;rw[if_neg f,zMN]
 first
  | exact qQ (m:=Builtin.Tuple.tupleExact _) (wpAny_newObj_type (q8 ⟨_,rfl,q8 h⟩) a)
  | exact qQ (m:=Builtin.Tuple.tupleExact _) (wpAny_newObj_type (qQ (q8 (q8 ⟨_,rfl,q8 h⟩))) a)
  | exact qQ (qQ (m:=Builtin.Tuple.tupleExact _) (wpAny_newObj_type (q8 (q8 ⟨_,rfl,q8 h⟩)) a))
  | exact qQ (qQ (m:=Builtin.Tuple.tupleExact _) (wpAny_newObj_type (q8 ⟨_,rfl,q8 h⟩) a))
end
end HT
namespace L2
open PySem Spec PyProof.Rows
abbrev TO:=St->Hp->(Option Int->Hp->Prop)->Prop
def PO (X:Cx)(e:Option Expr)(t:TO):Prop :=
 ∀ (pins:List (Addr×Obj)) (s:Shared) (σ:St) (H:Hp) (Q:Option Int->Hp->Prop),Inv X pins σ H s->t σ H Q ->
  wpAny (model X.prog X.w) X.A (evalPart e X.env) (λu s'=>∃ o H',Inv X pins σ H' s'/\IsPart u o/\Q o H') X.xe s
def zOn:TO:=λ_ H Q=>Q none H
def zT0 (t:TE):TO:=fun σ H Q=>t σ H λx H1=>∃ i,x=.int i/\Q (some i) H1
section
variable {X:Cx}{e:Expr}{te:TE}{lo hi:Option Expr}{tl th:TO}{pos p2:Pos}
def zHH:PO X none zOn:=by
 intro a s σ H Q I h;exact q8 ⟨none,H,I,.none,h⟩
def zHG (h:PE X e te):PO X (some e) (zT0 te):=by
 intro b s σ H Q I g;rw[evalPart_some];refine thn (h b s σ H _ I g) λu j a=>?_
 obtain⟨x,d,c,r1,f⟩:=a;obtain⟨i,rfl,q⟩:=f;obtain⟨t,rfl⟩:=r1;exact⟨some i,d,c,.int i t,q⟩
def SlR (X:Cx)(r:V->Option Int->Option Int->Hp->VK->Prop):Prop :=
 ∀ (pins:List (Addr×Obj)) (s:Shared) (σ:St) (H:Hp) (x:V) (v vl vu:Value) (lo hi:Option Int) (sl:Addr) (Q:VK),Inv X pins σ H s->RelV x v->s.heap.IsSliceOf sl vl vu .none->IsPart vl lo->IsPart vu hi->r x lo hi H Q ->
  ∃ T id,typeLookup (.type T) "__getitem__"=pure (some (.builtin id))/\s.TypeIs v T/\wpAny (model X.prog X.w) X.A (getItem v (.ref sl)) (EP X pins σ Q) X.xe s
def SlR.or (h:SlR X r)(h':SlR X r'):SlR X (λx lo hi H Q=>r x lo hi H Q\/r' x lo hi H Q):=by
 intro a s σ H x v b f lo hi sl Q I g e d c q;rcases q with q | q
 .exact h a s σ H x v b f lo hi sl Q I g e d c q
 .exact h' a s σ H x v b f lo hi sl Q I g e d c q
def tSl (r:V->Option Int->Option Int->Hp->VK->Prop)(te:TE)(tl th:TO):TE:=fun σ H Q=>te σ H λx H1=>tl σ H1 λl H2=>th σ H2 λu H3=>r x l u H3 Q
def zFi (B:SlR X r)(D:PE X e te)(z:PO X lo tl)(C:PO X hi th):PE X (.Subscript e (.Slice lo hi none p2) pos) (tSl r te tl th):=by
 intro a s σ H Q I h;refine Subscript_ (thn (D a s σ H _ I h) λv L c=>?_);obtain⟨x,t,m,r1,y⟩:=c;refine wpAny_Slice (thn (z a L σ t _ m y) λvl E ⟨l,o,p,K,n⟩=>thn (C a E σ o _ p n) λvu b d=>?_);obtain⟨u,i,J,G,A⟩:=d;rw[evalPart_none];refine q8 ?_;have F:Inv X a σ i { b with heap:=b.heap.push { cls:=.type "slice",data:=.fields #[vl,vu,.none] } }:=J.kept (t':=b.toks) λb ob q=>get?_push_of_some _ q
 obtain⟨T,M,j,w,k⟩:=B a { b with heap:=b.heap.push { cls:=.type "slice",data:=.fields #[vl,vu,.none] } } σ i x v vl vu l u b.heap.objs.size Q F r1 (Heap.IsSliceOf.new ..) K G A;show wpAny (model X.prog X.w) X.A (subscriptTail e (.Slice lo hi none p2) v (.ref b.heap.objs.size)) (EP X a σ Q) X.xe { b with heap:=b.heap.push { cls:=.type "slice",data:=.fields #[vl,vu,.none] } };exact tail_any (ops:=[.ref b.heap.objs.size,v]) w j k (by with_unfolding_all rfl)
noncomputable def cutV (xs:List V)(lo hi:Option Int):List V:=(xs.drop (HT.sIx xs.length 0 lo)).take (HT.sIx xs.length xs.length hi - HT.sIx xs.length 0 lo)
def zEe (xs:List V)(a b:Option Int):(cutV xs a b).length<=xs.length:=by
 unfold cutV;simp;omega
def rSlT (K:W.Frag):V->Option Int->Option Int->Hp->VK->Prop:=λx lo hi H Q=>∃ a xs,x=.ref a/\SqT K H a xs /\
 ¬ (HT.sIx xs.length 0 lo=0/\HT.sIx xs.length xs.length hi=xs.length)/\∀ p,H p=none->Q (.ref p) (upd H p (.tup (cutV xs lo hi)))
def zRF:SlR X (rSlT X.K):=by
 intro f s σ H x v p u n l sl Q I m i j g h;obtain⟨a,d,rfl,o,t,q⟩:=h;cases m;obtain⟨c,r,e,k⟩:=I.tuple o;have b:c.toArray.size=d.length:=by rw[xq];exact r.length.symm
 refine⟨"tuple",_,PyProof.Rows.slot_tuple_getitem.lookup,e.typeIs,?_⟩;refine HT.zDd e i j g (by grind) ?_ (by simp_all);rw[b];refine⟨.ref s.heap.objs.size,_,I.laid (λb ob q=>get?_push_of_some _ q) (le_refl _) ?_,rfl,q _ (I.hok.fresh (le_refl _))⟩;exact⟨le_trans (zEe d n l) k,_,(r.drop _).take _,IsTup.new _ _⟩
def zRO (K:W.Frag):R2:=λx y H Q=>∃ a b xs ys,x=.ref a/\y=.ref b/\SqT K H a xs/\SqT K H b ys/\xs≠[]/\xs.length+ys.length<=sizeLine /\
 (ys=[]->Q (.ref a) H)/\(ys≠[]->∀ p,H p=none->Q (.ref p) (upd H p (.tup (xs++ys))))
def Vals.nil_iff (r:Vals xs us):us=[]<->xs=[]:=by
 cases r with
 | nil=>simp
 | cons _ _=>simp
end
end L2
namespace L2
open PySem Spec PyProof.Rows
noncomputable def ixN (n:Nat)(i:Int):Option Nat:=if 0<=i then (if i < n then some i.toNat else none) else if -(n:Int)<=i then some (i+n).toNat else none
noncomputable def atI {O:Type}(xs:List O)(i:Int):Option O:=(ixN xs.length i).bind λj=>xs[j]?
def zPe (h:ixN n i=some j):seqIndex? i n=some j/\j < n/\-(n:Int)<=i/\i < n:=by
 unfold ixN at h;by_cases h0:0<=i
 .rw [if_pos h0] at h;by_cases h1:i < n
  .rw [if_pos h1] at h;have e:i.toNat=j:=xy h;exact⟨by rw[seqIndex_of h0 h1,e],by omega,by omega,h1⟩
  .simp_all
 .rw [if_neg h0] at h;by_cases h1:-(n:Int)<=i
  .rw [if_pos h1] at h;have e:(i+n).toNat=j:=xy h;exact⟨by rw[seqIndex_neg (by omega) h1,e],by omega,h1,by omega⟩
  .simp_all
def zLm {O:Type}{xs:List O}{i:Int}{v:O}(h:atI xs i=some v):∃ j,seqIndex? i xs.length=some j/\xs[j]?=some v/\j < xs.length/\-(xs.length:Int)<=i/\i < xs.length:=by
 unfold atI at h;cases e:ixN xs.length i with
 | none=>rw[e] at h;cases h
 | some j =>
  simp_all
  obtain⟨h1,h2,h3,h4⟩:=zPe e;exact⟨j,h1,h,h2,h3,h4⟩
def zAl {O:Type}{xs:List O}{j:Nat}{v:O}(h:xs[j]?=some v):atI xs (j:Int)=some v:=by
 have a:=(zzg h).1;have e:ixN xs.length j=some j:=by
  unfold ixN
  simp_all
 unfold atI;rw[e];exact h
def zF8 (b:Expr):Prop:=∀ o i,subscripted b false o i=operate [o,i] (getItem o i)
def IxR (X:Cx)(r:R2):Prop :=
 ∀ (value slice:Expr) (pins:List (Addr×Obj)) (s:Shared) (σ:St) (H:Hp) (x y:V) (v u:Value) (Q:VK),Inv X pins σ H s->RelV x v->RelV y u->r x y H Q ->
  subscripted slice false v u=operate [v,u] (getItem v u)->wpAny (model X.prog X.w) X.A (subscriptTail value slice v u) (EP X pins σ Q) X.xe s
def MtR (X:Cx)(id:String)(r:V->List V->Hp->VK->Prop):Prop :=
 ∀ (pins:List (Addr×Obj)) (s:Shared) (σ:St) (H:Hp) (x:V) (xs:List V) (v:Value) (us:List Value) (Q:VK),Inv X pins σ H s->RelV x v->Vals xs us->r x xs H Q ->
  wpAny (model X.prog X.w) X.A (call (.builtin id) (v::us)) (EP X pins σ Q) X.xe s
section
variable {X:Cx}{a b:Expr}{ta tb:TE}{pos:Pos}
def IxR.or (h:IxR X r)(h':IxR X r'):IxR X (λx y H Q=>r x y H Q\/r' x y H Q):=by
 intro b a c s σ H x y v u Q I f e q d;rcases q with q | q
 .exact h b a c s σ H x y v u Q I f e q d
 .exact h' b a c s σ H x y v u Q I f e q d
def zRa (e:IxR X r)(d:PE X a ta)(j:PE X b tb)(i:zF8 b):PE X (.Subscript a b pos) (tOp r ta tb):=by
 intro c s σ H Q I h;exact Subscript_ (binT d j I h λv u k x y l m f g q=>e a b c k σ l x y v u Q m f g q (i _ _))
def rIxL (K:W.Frag):R2:=λx y H Q=>∃ p xs i v,x=.ref p/\y=.int i/\SqL K H p xs/\atI xs i=some v/\Q v H
def rIxT (K:W.Frag):R2:=λx y H Q=>∃ p xs i v,x=.ref p/\y=.int i/\SqT K H p xs/\atI xs i=some v/\Q v H
def zKk:IxR X (rIxL X.K):=by
 intro d g b s σ H x y v u Q I o n h l;obtain⟨p,D,i,z,rfl,rfl,hq,A,q⟩:=h;cases o;obtain⟨t,rfl⟩:=n;obtain⟨e,r,f,E⟩:=I.list hq;obtain⟨j,h1,h2,h3,h4,h5⟩:=zLm A;obtain⟨w,m,k⟩:=r.get h2;have B:=r.length;have C:=zKi;have a:EP X b σ Q w s:=⟨z,H,I,k,q⟩;by_cases h0:0<=i
 .have c:i.toNat=j:=by
   rw[seqIndex_of h0 h5] at h1;exact xy h1
  exact item_listR f.isList h0 (by omega) (by rw[c];simpa using m) a l
 .have c:(i+(e.toArray.size:Int)).toNat=j:=by
   rw[seqIndex_neg (by omega) h4] at h1
   simp_all
  exact subscriptTail_builtinR (x:=w) f.isList.typeIs slot_list_getitem.lookup
   (wpAny_getItem_list_neg f.isList (by omega) (by rw[xq]<;>omega) (by omega) (by rw[c];simpa using m) ⟨rfl,a⟩) l
def zOI:IxR X (rIxT X.K):=by
 intro a c e s σ H x y v u Q I n l h g;obtain⟨p,B,i,z,rfl,rfl,hq,f,q⟩:=h;cases n;obtain⟨t,rfl⟩:=l;obtain⟨m,r,d,C⟩:=I.tuple hq;obtain⟨j,h1,h2,h3,h4,h5⟩:=zLm f;obtain⟨w,k,b⟩:=r.get h2;have A:=r.length;have o:=zKi;exact subscriptTail_builtinR d.typeIs slot_tuple_getitem.lookup
  (getItem_tuple (j:=j) d (by omega) (by omega) (by simp_all) (by simpa using k) ⟨rfl,(⟨z,H,I,b,q⟩)⟩) g
def Inv.lst {σ:St}(I:Inv X pins σ H s)(h:H p=some (.lst xs)) :
  ∃ (a:List Value) (n:Nat),Vals xs a/\s.heap.get? p=some { cls:=.type "list",data:=.seq a.toArray n }/\xs.length<=sizeLine:=by
 obtain⟨z,a,n,r,e⟩:=I.hok p _ h;exact⟨a,n,r,e,z⟩
def zGI (a b:Option Int)(n:Nat):(sliceBounds a b none n).1=((HT.sIx n 0 a:Nat):Int)/\(sliceBounds a b none n).2.1=((HT.sIx n n b:Nat):Int)/\(sliceBounds a b none n).2.2=1:=by
 refine⟨?_,?_,rfl⟩
 .cases a with
  | none=>simp[sliceBounds,HT.sIx]
  | some i =>
   simp only[sliceBounds,HT.sIx,Option.getD_none,show (1:Int)>0 by decide,if_true];by_cases h:i < 0
   .simp only [h,if_true]<;>omega
   .simp only [h,if_false]<;>omega
 .cases b with
  | none=>simp[sliceBounds,HT.sIx]
  | some i =>
   simp only[sliceBounds,HT.sIx,Option.getD_none,show (1:Int)>0 by decide,if_true];by_cases h:i < 0
   .simp only [h,if_true]<;>omega
   .simp only [h,if_false]<;>omega
def zFY (a:List Value)(b c:Option Int):slicePick a.toArray b c none=((a.drop (HT.sIx a.length 0 b)).take (HT.sIx a.length a.length c - HT.sIx a.length 0 b)).toArray:=by
 obtain⟨h1,h2,h3⟩:=zGI b c a.toArray.size;unfold slicePick;rw[h1,h2,h3];simp only[sliceRange_one,pick_run]<;>rfl
def rSlL (K:W.Frag):V->Option Int->Option Int->Hp->VK->Prop:=λx lo hi H Q=>∃ a xs,x=.ref a/\SqL K H a xs/\∀ p,H p=none->Q (.ref p) (upd H p (.lst (cutV xs lo hi)))
def zG4:SlR X (rSlL X.K):=by
 intro c s σ H x v t p k e sl Q I g l n f h;obtain⟨a,i,rfl,j,q⟩:=h;cases g;obtain⟨o,r,d,m⟩:=I.list j;have b:=r.length;refine⟨"list",_,slot_list_getitem.lookup,d.isList.typeIs,?_⟩;refine wpAny_getItem_list_slice d.isList l n f .none (by simp) ?_ (by grind);rw[zFY,<- b];refine⟨.ref s.heap.objs.size,_,I.laid (λb ob q=>get?_push_of_some _ q) (le_refl _) ?_,rfl,q _ (I.hok.fresh (le_refl _))⟩;exact⟨le_trans (zEe i k e) m,_,0,(r.drop _).take _,get?_push_size _ rfl⟩
def zGo:zDh X (.builtin "len") (λxs H Q=>∃ p ys,xs=[.ref p]/\(SqL X.K H p ys\/SqT X.K H p ys)/\Q (.int ys.length) H):=by
 intro e s σ H xs us Q I r h;obtain⟨p,ys,rfl,hq,q⟩:=h;obtain⟨u,rfl,g⟩:=zGz r;cases g;have i:=zKi;rcases hq with hq | hq
 .obtain ⟨d,c,b,f⟩:=I.list hq;have a:=c.length;exact Calls.call_len_list b.isList (by simp only[xq]<;>omega) ⟨.int ys.length,H,I.tok _,⟨s.toks+1,by rw[xq,a]⟩,q⟩
 .obtain ⟨d,c,b,f⟩:=I.tuple hq;have a:=c.length;exact len_tuple b (by simp only[xq]<;>omega) ⟨.int ys.length,H,I.tok _,⟨s.toks+1,by rw[xq,a]⟩,q⟩
def zDq:zDh X (.type "list") (λxs H Q=>∃ p ys,xs=[.ref p]/\(SqL X.K H p ys\/SqT X.K H p ys)/\∀ l,H l=none->Q (.ref l) (upd H l (.lst ys))):=by
 intro f s σ H xs us Q I r h;obtain⟨p,ys,rfl,hq,q⟩:=h;obtain⟨u,rfl,x⟩:=zGz r;cases x;have j:∀ (its:List Value),Vals ys its->ys.length<=sizeLine->∀ (h':Heap) (b:Nat),_ ->
   h'.get? s.heap.objs.size=some { cls:=.type "list",dict:=none,data:=.seq its.toArray b,slots:=#[] }->EP X f σ Q _ { s with heap:=h' }:=λits c i h' b g e =>
  ⟨.ref s.heap.objs.size,_,I.laid (t':=s.toks) g (le_refl _) (show zBl X.prog X.w _ h' _ (.lst ys) from ⟨i,its,b,c,e⟩),rfl,q _ (I.hok.fresh (le_refl _))⟩
 rcases hq with hq | hq
 .obtain ⟨its,c,w,i⟩:=I.list hq;have k:=c.length;obtain⟨o,t,v,n,m⟩:=w.isList;exact call_list_seq p (.inl rfl) t v m (λh' b g e=>j its c i h' b g e) (by simp_all)
 .obtain ⟨its,c,w,i⟩:=I.tuple hq;have k:=c.length;obtain⟨o,t,v,n,m⟩:=w;exact call_list_seq p (.inr rfl) t v m (λh' b g e=>j its c i h' b g e) (by grind)
def zF1:zDh X (.type "tuple") (λxs H Q=>∃ p ys,xs=[.ref p]/\((SqL X.K H p ys/\∀ l,H l=none->Q (.ref l) (upd H l (.tup ys)))\/(SqT X.K H p ys/\Q (.ref p) H))):=by
 intro g s σ H xs us Q I r h;obtain⟨p,ys,rfl,h⟩:=h;obtain⟨u,rfl,k⟩:=zGz r;cases k;rcases h with ⟨hq,q⟩ | ⟨hq,q⟩
 .obtain ⟨a,b,c,f⟩:=I.list hq;have i:=b.length;refine call_tuple_list c.isList (λh' j=>?_) (by grind);have d:=I.kept (t':=s.toks) j;have m :=
   d.laid (t':=s.toks) (λb o e=>get?_push_of_some _ e) (le_refl _) (show zBl X.prog X.w _ _ _ (.tup ys) from ⟨f,a,b,IsTup.new _ _⟩)
  exact⟨.ref h'.objs.size,_,m,rfl,q _ (d.hok.fresh (le_refl _))⟩
 .obtain ⟨a,b,c,f⟩:=I.tuple hq;exact call_tuple_same c ⟨.ref p,H,I,rfl,q⟩
def tyV (K:W.Frag)(T:String)(x:V)(H:Hp):Prop:=match x with
 | .str _=>T = "str"
 | .int _=>T = "int"
 | .ref p=>(T = "list"/\∃ xs,SqL K H p xs)\/(T = "tuple"/\∃ o,K.lookup p=some o/\o.cls=.type "tuple"/\o.dict=none) \/
   (T = "dict"/\((∃ kvs,H p=some (.dK kvs))\/∃ kvs,H p=some (.dT kvs)))\/(T = "set"/\∃ S n,H p=some (.set S n))
 | _=>False
def zNp {σ:St}(I:Inv X pins σ H s)(r:RelV x v)(ty:tyV X.K T x H) :
  s.TypeIs v T/\∀ a,v=.ref a->∃ ob,s.heap.get? a=some ob/\ob.dict=none:=by
 cases x with
 | str z =>
  obtain⟨t,rfl⟩:=r;cases ty;exact⟨typeIs_str s z t,λ_ e=>nomatch e⟩
 | int i =>
  obtain⟨t,rfl⟩:=r;cases ty;exact⟨typeIs_int s i t,λ_ e=>nomatch e⟩
 | ref p =>
  cases r;rcases ty with ⟨rfl,l,hq⟩ | ⟨rfl,o,b,hc,g⟩ | ⟨rfl,b⟩ | ⟨rfl,S,n,b⟩
  .obtain ⟨k,_,j,_⟩:=I.list hq;refine⟨j.isList.typeIs,λa e=>?_⟩;cases e;obtain⟨o,n,e,c,g,_⟩:=j;exact⟨o,e,g⟩
  .refine ⟨⟨o,I.kIn p o b,hc⟩,λa e=>?_⟩;cases e;exact⟨o,I.kIn _ o b,g⟩
  .have z:∃ o,s.heap.get? p=some o/\o.ExactDict:=by
    rcases b with ⟨f,b⟩ | ⟨f,b⟩
    .obtain ⟨_,_,_,_,o,_,_,e,d,_⟩:=I.hok p _ b;exact⟨o,e,d⟩
    .obtain ⟨_,_,_,_,o,_,_,e,d,_⟩:=I.hok p _ b;exact⟨o,e,d⟩
   obtain⟨o,e,d⟩:=z;refine⟨⟨o,e,d.1⟩,λa h=>?_⟩;cases h;exact⟨o,e,d.2.1⟩
  .obtain ⟨o,_,_,_,e,d,_⟩:=I.hok p _ b;refine⟨⟨o,e,d.1⟩,λa h=>?_⟩;cases h;exact⟨o,e,d.2.1⟩
 | _=>exact False.elim ty
def tBM0 (K:W.Frag)(T:String)(r:V->List V->Hp->VK->Prop)(to:TE):TE:=fun σ H Q=>to σ H λx H1=>tyV K T x H1/\r x [] H1 Q
def tBM (K:W.Frag)(T:String)(r:V->List V->Hp->VK->Prop)(to:TE)(t:TA):TE:=fun σ H Q=>to σ H λx H1=>tyV K T x H1/\t σ H1 λxs H2=>r x xs H2 Q
variable {o e:Expr}{es:List Expr}{to:TE}{t:TA}{name:Str}{apos cpos:Pos}{T id:String}{r:V->List V->Hp->VK->Prop}
def zRc (pa:PlainAttrs T)(d:Slot T name id)(f:typeOf (.builtin id)=pure (.type "method_descriptor"))(j:MtR X id r)(l:PE X o to)
  (b:attributeBase o name X.env (eval o X.env)=eval o X.env:=by rfl) (c:(apos.endLine==cpos.line)=true:=by rfl):PE X (.Call (.Attribute o name apos) [] [] cpos) (tBM0 X.K T r to):=by
 intro a s σ H Q I h;refine wpAny_Call_method0_late b c (thn (l a s σ H _ I h) λv m e=>?_);obtain⟨x,i,g,r1,ty,k⟩:=e;obtain⟨h1,h2⟩:=zNp g r1 ty;exact⟨T,id,pa,d,f,h1,h2,Calls.callWith_builtin rfl (PySem.evalArgs_none (j a m σ i x [] v [] Q g r1 .nil k))⟩
def zO5 (pa:PlainAttrs T)(g:Slot T name id)(k:typeOf (.builtin id)=pure (.type "method_descriptor"))(w:MtR X id r)(C:PE X o to)(z:PA X (e::es) t)
  (f:attributeBase o name X.env (eval o X.env)=eval o X.env:=by rfl)
  (i:((backTo cpos (starEach (e::es) X.env)).all (λx=>!x.1)&&(backToKw cpos (keywordEach [] X.env)).all (λx=>x.1.isSome)
   && decide ((e::es).length+([]:List Keyword).length+(if ([]:List Keyword).isEmpty then 0 else 1) < 30))=true:=by rfl)
  (d:(apos.endLine==cpos.line)=true:=by rfl) (D:starEach (e::es) X.env=(false,eval e X.env)::starEach es X.env:=by rfl) (b:(backTo cpos (starEach es X.env)).any (·.1)=false:=by rfl) :
  PE X (.Call (.Attribute o name apos) (e::es) [] cpos) (tBM X.K T r to t):=by
 intro a s σ H Q I h;refine wpAny_Call_method_late f i d rfl (thn (C a s σ H _ I h) λv p j=>?_);obtain⟨x,E,m,r1,ty,y⟩:=j;obtain⟨h1,h2⟩:=zNp m r1 ty;refine⟨T,id,pa,g,k,h1,h2,?_⟩;have l:=z cpos a p σ E _ m y;rw[D] at l ⊢;refine Calls.callWith_builtin (by show (false||(backTo cpos (starEach es X.env)).any (·.1))=false;rw[b]<;>rfl) (Calls.evalArgs_plain ?_);exact thn l λus u c=>by obtain⟨q,n,A,r2,B⟩:=c;exact w a u σ n x q v us Q A r1 r2 B
end
def MtM (X:Cx)(id:String)(r:V->List V->Hp->VK->Prop):Prop :=
 ∀ (pins:List (Addr×Obj)) (s:Shared) (σ:St) (H:Hp) (x:V) (xs:List V) (v:Value) (us:List Value) (Q:VK),Inv X pins σ H s->RelV x v->Vals xs us->r x xs H Q ->
  wpAny (model X.prog X.w) X.A (call (.builtin id) (v::us)) (EP X pins σ Q) X.xe s
theorem Vals.one:∀ {x:V} {us:List Value},Vals [x] us->∃ u,us=[u]/\RelV x u
 | _,_,.cons r .nil=>⟨_,rfl,r⟩
def Vals.two (h:Vals [x,y] us):∃ u v,us=[u,v]/\RelV x u/\RelV y v:=by
 cases h with
 | cons r t =>
  cases t with
  | cons q a =>
   cases a;exact⟨_,_,rfl,r,q⟩
theorem Vals.zero:∀ {us:List Value},Vals [] us->us=[]
 | _,.nil=>rfl
def Vals.dropLast (h:Vals xs us):Vals xs.dropLast us.dropLast:=by
 induction h with
 | nil=>exact .nil
 | cons r t a =>
  cases t with
  | nil=>exact .nil
  | cons q b=>exact .cons r a
def Vals.reverse (h:Vals xs us):Vals xs.reverse us.reverse:=by
 induction h with
 | nil=>exact .nil
 | cons r t a=>rw[reverse_cons,reverse_cons];exact Vals.append a (.cons r .nil)
section
variable {X:Cx}{pins:List (Addr×Obj)}{σ:St}{H:Hp}{s:Shared}{l b:Addr}{xs ys zs:List V}
def Inv.lset {a:List Value}(I:Inv X pins σ H s)(d:H l=some (.lst xs))
  (e:s.heap.get? l=some { cls:=.type "list",data:=.seq a.toArray n }) (h:f a.toArray=its'.toArray) (g:Vals ys its') (hz:ys.length<=sizeLine) :
  Inv X pins σ (upd H l (.lst ys)) { s with heap:=s.heap.update l (Obj.mapSeq f),toks:=t' }:=by
 have q:=PySem.IsL.update e f
 simp_all
 refine I.write (by rw[d];exact trivial) (.inl rfl) (λb' u b c=>(Heap.get?_update_other s.heap _ (Ne.symm b)).trans c) ⟨_,q⟩ ?_;exact⟨hz,its',_,g,q⟩
def Inv.lnew (I:Inv X pins σ H s)(a:Vals ys its)(hz:ys.length<=sizeLine) :
  Inv X pins σ (upd H s.heap.objs.size (.lst ys)) { s with heap:=s.heap.push { cls:=.type "list",data:=.seq its.toArray },toks:=t' } :=
 I.laid (λ_ _ q=>get?_push_of_some _ q) (le_refl _) ⟨hz,its,0,a,get?_push_size _ rfl⟩
def Inv.fresh (I:Inv X pins σ H s):H s.heap.objs.size=none:=I.hok.fresh (le_refl _)
def Inv.lstM (I:Inv X pins σ H s)(b:H l=some (.lst xs)):xs.length<=sizeLine/\∃ (a:List Value) (n:Nat),Vals xs a/\xs.length=a.length/\s.heap.get? l=some { cls:=.type "list",data:=.seq a.toArray n }:=by
 obtain⟨z,a,n,r,e⟩:=I.hok l _ b;exact⟨z,a,n,r,r.length,e⟩
def zMW (h:n<=sizeLine):Builtin.List.listTooLong n=false:=decide_eq_false (by omega)
end
section
variable {X:Cx}
def zOy:V->List V->Hp->VK->Prop:=λx vs H Q=>∃ l xs y,x=.ref l/\vs=[y]/\H l=some (.lst xs)/\xs.length < sizeLine/\Q .non (upd H l (.lst (xs++[y])))
def zGR:MtM X "list.append" zOy:=by
 intro b s σ H x i v us Q I g d h;obtain⟨l,j,y,rfl,rfl,c,k,q⟩:=h;cases g;obtain⟨u,rfl,f⟩:=d.one;obtain⟨z,a,n,r,m,e⟩:=I.lstM c;refine call_meets F.slot_list_append ⟨_,e,rfl⟩ F.entry_list_append (F.args_list_append_2 _ _) (PySem.list_append l a.toArray n u (by grind)) ⟨e,?_⟩;refine⟨.non,_,I.lset c e (by simp) (r.append (.cons f .nil)) ?_,rfl,q⟩;grind
def zOw:V->List V->Hp->VK->Prop:=λx vs H Q=>∃ l b xs zs,x=.ref l/\vs=[.ref b]/\H l=some (.lst xs)/\H b=some (.lst zs)/\xs.length+zs.length<=sizeLine/\Q .non (upd H l (.lst (xs++zs)))
def zKU:MtM X "list.extend" zOw:=by
 intro g s σ H x B v us Q I m o h;obtain⟨l,b,y,E,rfl,rfl,i,j,A,q⟩:=h;cases m;obtain⟨u,rfl,w⟩:=o.one;cases w;obtain⟨z,its,n,r,C,e⟩:=I.lstM i;obtain⟨D,a,p,r2,k,t⟩:=I.lstM j;have f:its.toArray.size+a.toArray.size<=sizeLine:=by rw[xq,xq];omega
 have c:¬ (!its.toArray.isEmpty&&Builtin.List.listTooLong (its.toArray.size+a.toArray.size))=true:=by
  rw[zMW f,Bool.and_false];exact qX
 refine call_meets F.slot_list_extend ⟨_,e,rfl⟩ F.entry_list_extend (F.args_list_extend_2 _ _)
  (AutoSeq1.list_extend_list_list_0 l its.toArray n b a.toArray p c (by omega) (by omega)) ⟨e,t,?_⟩
 refine⟨.non,_,I.lset i e (by simp) (r.append r2) ?_,rfl,q⟩
 simp_all
def zMK:V->List V->Hp->VK->Prop:=λx vs H Q=>∃ l xs,x=.ref l/\vs=[]/\H l=some (.lst xs)/\Q .non (upd H l (.lst xs.reverse))
def zIw:MtM X "list.reverse" zMK:=by
 intro d s σ H x k v us Q I g f h;obtain⟨l,j,rfl,rfl,c,q⟩:=h;cases g;have a:=f.zero;subst a;obtain⟨z,b,n,r,i,e⟩:=I.lstM c;refine call_meets F.slot_list_reverse ⟨_,e,rfl⟩ F.entry_list_reverse (F.args_list_reverse_1 _) (AutoSeq1.list_reverse_list_0 l b.toArray n (by grind)) ⟨e,?_⟩;refine⟨.non,_,I.lset c e (by simp) r.reverse ?_,rfl,q⟩
 simp_all
def zHS {O:Type}(xs:List O)(k:Nat):(List.replicate k xs).flatten.length=k*xs.length:=by simp
end
end L2
namespace Att
open PySem PySem.W PySem.Calls PyProof.Rows
def zER :∀ (ns:List Int) (vs:List Value),WellAll P h vs (ns.map WData.int)->IntsAre vs ns:=by
 intro ns
 induction ns with
 | nil =>
  intro vs w;cases w;exact .nil
 | cons n ns c =>
  intro vs w;cases w with
  | cons a b =>
   cases a;exact .cons _ _ (c _ b)
theorem zIb:∀ {ns:List Int},WData.weightAll (ns.map WData.int)<=2^20->∀ x∈ns,Builtin.Int.intBits x<=2^20
 | n::ns,h,x,hx=>by
  rw[map_cons,WData.weightAll,WData.weight] at h;rcases mem_cons.mp hx with rfl | hx
  .unfold Builtin.Int.intBits;omega
  .exact zIb (by omega) x hx
def zJk {l:OpenLaw}(m:l.most=some n)
  (b:l.row.toRowW.claim.pre args=true) (g:WellAll P h vals args) (c:WData.layableAll args=true) :
  ∃ a vs ns,vals=[Value.ref a]/\args=[WData.list (ns.map WData.int)]/\h.get? a=some { cls:=.type "list",data:=.seq vs.toArray }/\IntsAre vs ns/\(ns.length<=n/\∀ x∈ns,Builtin.Int.intBits x<=2^20):=by
 have k:=(pre_splitW b).2;obtain⟨d,r,rfl,h1,h2⟩:=hasAllW_cons ((pre_splitW b).1);obtain rfl:=hasAllW_nil h2;obtain⟨p,rfl,h3⟩:=hasW_list h1;obtain⟨ns,rfl⟩:=items_int h3;have e:ns.length<=n:=by
  have h4:(WTm.not (.lt (.lit (.int (n:Int))) (.len (.arg 0)))).holds [] { args:=[.list (ns.map .int)] }=true:=by
   have h4:=(holds_andW k).1;rw[m] at h4;exact h4
  have h5:=condW_of h4 (w_not (w_lt w_lit (w_len_list (w_arg rfl))));grind
 cases g with
 | cons i j =>
  cases j;cases i with
  | list o f=>exact⟨_,_,ns,rfl,rfl,o,zER ns _ f,e,zIb (of_decide_eq_true (Bool.and_eq_true_iff.mp (W.layW_cons c).1).2)⟩
def zJ0 (l:OpenLaw)(args:List WData):l.row.toRowW.claim.post args (.bool true) args=true :=
 postW_of
  rfl
  (w_eq_bool (w_res rfl) w_lit) rfl
def zHm {l:OpenLaw}
  (A:l.most=some n) (m:d.params.defaults=[])
  (call:∀ (w:World) (s0 O3:Shared) (mg mb:Str->Option Value) (fa:Addr) (o:Obj) (pm cd doc:Value) (a:Addr) (vs:List Value) (ns:List Int),
   Ground q loose [] XP w s0 mg mb O3.heap->YP w O3.heap ->
   O3.heap.get? fa=some o->o.data=.func (docDef d.name d.params d.body d.scope pm cd doc)->O3.heap.CodeRec cd d.name->mg d.name=some (.ref fa) ->
   O3.heap.get? a=some { cls:=.type "list",data:=.seq vs.toArray }->IntsAre vs ns->(ns.length<=n/\∀ x∈ns,Builtin.Int.intBits x<=2^20)->O3.gens=#[] ->
   codeAny (model l.prog w) callerA (.call (.ref fa) ⟨[.ref a],[]⟩) (λr s'=>r=.ok (.ret (.bool true))/\OldK O3.heap s'.heap/\s'.os=O3.os/\AllBare s'.gens) O3) :
  WalkO q loose XP YP l.row.toRowW d [] (λf vs=>PySem.call f vs):=by
 intro w s0 O3 mg mb G Y fa o pm cd doc D kV B z k hD i v p s C g c y j u;obtain rfl:=Dflts.none hD m;obtain rfl:kV=.none:=Dflts.noKw hD;obtain⟨a,vs,ns,rfl,rfl,e,b,h⟩:=zJk A g j c;refine enter_call (codeAny_mono (call w s0 O3 mg mb fa o pm cd doc a vs ns G Y B (fd_plain z) k i e b h v) λr s' hq=>?_);obtain⟨rfl,h2,h3,h4⟩:=hq;exact⟨.inl ⟨.bool true,.bool true,[],rfl,λ_=>rfl,.bool true,zJ0 l _,λ_=>⟨List.Pairwise.nil,λ_ t=>(nomatch t)⟩⟩,h2,h3,h4⟩
section
variable {prog:Program}{w:World}{A:Around}{E:Value->Shared->Prop}{s:Shared}{K:Frag}
end
end Att
namespace L2
open PySem Spec PyProof.Rows
theorem zC9:∀ {vs:List Value} {ns:List Int},IntsAre vs ns->Vals (ns.map V.int) vs
 | _,_,.nil=>.nil
 | _,_,.cons n t h=>.cons ⟨t,rfl⟩ (zC9 h)
def Only (H:Hp):Prop:=∀ b,H b=none\/∃ o xs,H b=some (.frz o (.lst xs))
noncomputable def tblT (tl:List (Str×Addr×Addr)):List (Addr×Str):=tl.map λt=>(t.2.2,lamQ t.1)
noncomputable def hpT (tl:List (Str×Addr×Addr))(H:Hp):Hp:=λb=>match (tblT tl).lookup b with
 | some q=>some (.tbl q)
 | none=>H b
theorem zGU {M:Type}:∀ {l:List (Addr×M)} {a:Addr} {b:M},l.lookup a=some b->(a,b)∈l
 | [],_,_,e=>by cases e
 | (c,x)::r,a,b,e=>by
  rw[lookup_cons] at e;cases hb:a==c with
  | true=>rw[hb] at e;cases e;rw[eq_of_beq hb];exact .head _
  | false=>rw[hb] at e;exact .tail _ (zGU e)
theorem zE4:∀ {tl:List (Str×Addr×Addr)} {x:Str} {c P:Addr},(tl.map λt=>t.2.2).Nodup->(x,c,P)∈tl->(tblT tl).lookup P=some (lamQ x)
 | t::tl,x,c,P,nd,h=>by
  rcases mem_cons.mp h with e | h
  .cases e;unfold tblT;rw[map_cons,lookup_cons,beq_self_eq_true]
  .have n:=(nodup_cons.mp (show ((t.2.2)::tl.map λt=>t.2.2).Nodup from nd));have ne:(P==t.2.2)=false:=by
    refine beq_eq_false_iff_ne.mpr λz=>n.1 ?_
    rw[<- z];exact mem_map.mpr ⟨_,h,rfl⟩
   unfold tblT;rw[map_cons,lookup_cons,ne];exact zE4 n.2 h
def zMk {K:W.Frag}{tl:List (Str×Addr×Addr)}
  (KX:K.In O3.heap) (Y:O3.heap.Ns mainGlobals mg) (A:O3.heap.Ns builtinsNs mb) (b9:∀ x:Str,x ≠ "__name__"->mb x=bootBuiltins x) (T:O3.heap.NoLimit) (E:O3.heap.NoSeer) (c1:(model P w).prog.given.tree=none) (hg:O3.gens=#[])
  (Q:O3.heap.get? a=some { cls:=.type "list",data:=.seq vs.toArray }) (hi:IntsAre vs ns) (hl:ns.length<=sizeLine) (hr:Room k callerA)
  (F:∀ base:Heap,K.In base->base.Ns mainGlobals mg->FnOk P w K mg base CX k fa fd [x] sp) (N:∀ (s:Shared) (u:Value),BindsTo s fd ⟨[u],[]⟩ [(x,u)])
  (c8:∃ bm ob,mg "__builtins__"=some (.ref bm)/\bm≠builtinsNs/\O3.heap.get? bm=some ob/\ob.cls=.type "module"/\ob.dict=some builtinsNs/\ob.data=.plain) (G:∀ t∈tl,W.CodeHd O3.heap t.2.1 t.2.2/\O3.heap.get? t.2.2=some (W.tabObj #[])) (Z:∀ x∈zBs,tabQ K x=tl.lookup x) (b8:(tl.map λt=>t.2.2).Nodup) (b7:W.noTabs K=true)
  (c3:∀ H:Hp,(∀ xs,H a≠some (.lst xs))->SqL K H a (ns.map V.int)->sp [.ref a] H (λv _=>v=.bl true) λ_ _ _=>False)
  (d2:∀ H e s',CX [] H O3 (λ_ _ _=>False) e s'->False) :
  codeAny (model P w) callerA (.call (.ref fa) ⟨[.ref a],[]⟩) (λr s'=>r=.ok (.ret (.bool true))/\OldK O3.heap s'.heap/\s'.os=O3.os/\AllBare s'.gens) O3:=by
 have rv:=zC9 hi;have a4:=hi.length;have p:∀ {b:Addr} {j:Str},(tblT tl).lookup b=some j->∃ c,W.CodeHd O3.heap c b/\O3.heap.get? b=some (W.tabObj #[]):=λ{b j} e=>by
  obtain⟨t,mt,et⟩:=mem_map.mp (zGU e);cases et;exact⟨t.2.1,G t mt⟩
 have U:(tblT tl).lookup a=none:=by
  cases e:(tblT tl).lookup a with
  | none=>rfl
  | some j =>
   obtain⟨_,_,g⟩:=p e;rw[Q] at g;cases g
 have J:∀ D:Hp,Only D->SqL K D a (ns.map V.int)->HOk P w D O3.heap->(∀ b,D b≠none->b=a)->(D a≠none->K.lookup a=none) ->
   codeAny (model P w) callerA (.call (.ref fa) ⟨[.ref a],[]⟩) (λr s'=>r=.ok (.ret (.bool true))/\OldK O3.heap s'.heap/\s'.os=O3.os/\AllBare s'.gens) O3:=by
  intro D a7 c4 a8 a3 d1;obtain⟨H,eH⟩:∃ H:Hp,H=hpT tl D:=⟨_,rfl⟩;have M:∀ {b:Addr} {j:Str},(tblT tl).lookup b=some j->H b=some (.tbl j):=λ{b j} e=>by rw[eH];unfold hpT;rw[e]
  have l:∀ {b:Addr},(tblT tl).lookup b=none->H b=D b:=λ{b} e=>by rw[eH];unfold hpT;rw[e]
  have B:∀ {b:Addr} {u:HO},D b=some u->H b=some u:=λ{b u} e=>by
   have z:b=a:=a3 b (by rw[e];simp);rw[l (by rw[z];exact U)];exact e
  have hS:SqL K H a (ns.map V.int):=by
   rcases c4 with (z | ⟨o,z⟩) | z
   .exact .inl (.inl (B z))
   .exact .inl (.inr ⟨o,B z⟩)
   .exact .inr z
  have hL:∀ xs,H a≠some (.lst xs):=λxs e=>by
   rw[l U] at e;rcases a7 a with z | ⟨o,ys,z⟩
   .rw [z] at e;cases e
   .rw [z] at e;cases e
  have a9:HOk P w H O3.heap:=λb u e=>by
   cases z:(tblT tl).lookup b with
   | some j =>
    rw[M z] at e;cases e;obtain⟨_,_,g⟩:=p z;exact⟨#[],g,trivial,λpos cv z=>by cases (show (none:Option Value)=some cv from z)⟩
   | none =>
    rw[l z] at e;exact(a8 b u e).stay (λ_ _ _ q=>q) (λ_ q=>B q) (λ_ _ q=>B q) λ_ _ _ q _=>B q
  have hT:zIc K H:=λx hx c P e=>M (by
   have g:=Z x hx;rw[e] at g;exact zE4 b8 (PySem.mem_of_lookup g.symm))
  have split:∀ {b:Addr},H b≠none->((tblT tl).lookup b=none/\b=a/\D a≠none)\/∃ j,(tblT tl).lookup b=some j:=λ{b} e=>by
   cases z:(tblT tl).lookup b with
   | some j=>exact .inr ⟨j,rfl⟩
   | none =>
    rw[l z] at e;have:=a3 b e;exact .inl ⟨rfl,this,by rw[<- this];exact e⟩
  have f:∀ {b:Addr} {o:Obj},O3.heap.get? b=some o->H b=none->(hidT O3.heap H).get? b=some o:=λe n=>zMs e n
  have c9:∀ {b:Addr} {o:Obj} {es:Array DictEntry} {R:Nat},O3.heap.get? b=some o->o.data=.dict es R->H b=none:=λ{b o es R} e d=>by
   cases q:H b with
   | none=>rfl
   | some u =>
    rcases split (b:=b) (by rw[q];simp) with ⟨_,L,_⟩ | ⟨j,z⟩
    .subst L;rw[Q] at e;cases e;have d':Data.seq vs.toArray _=Data.dict es R:=d;cases d'
    .obtain ⟨_,_,g⟩:=p z;rw[g] at e;cases e;cases (show Data.fields #[]=Data.dict es R from d)
  have S:∀ {b:Addr} {o:Obj},O3.heap.get? b=some o->o.cls=.type "module"->H b=none:=λ{b o} e d=>by
   cases q:H b with
   | none=>rfl
   | some u =>
    rcases split (b:=b) (by rw[q];simp) with ⟨_,L,_⟩ | ⟨j,z⟩
    .subst L;rw[Q] at e;cases e;exact absurd (show Value.type "list"=Value.type "module" from d) (by decide)
    .obtain ⟨_,_,g⟩:=p z;rw[g] at e;cases e;exact absurd (show Value.none=Value.type "module" from d) (by decide)
  have i:∀ {b:Addr} {m:Str->Option Value},O3.heap.Ns b m->(hidT O3.heap H).Ns b m:=λ{b m} ⟨o,es,R,e,d,r⟩=>⟨o,es,R,f e (c9 e d),d,r⟩
  have a1:K.In (hidT O3.heap H):=λb o e=>f (KX b o e) (by
   cases q:H b with
   | none=>rfl
   | some u =>
    rcases split (b:=b) (by rw[q];simp) with ⟨_,L,n0⟩ | ⟨j,z⟩
    .subst L;rw[d1 n0] at e;cases e
    .obtain ⟨_,_,g⟩:=p z;have e3:=KX b o e;rw[g] at e3;cases e3;have h2:=all_eq_true.mp b7 (b,W.tabObj #[]) (W.mem_of_lookupK e);exact absurd (show false=true from h2) qX)
  have hM:Mod K mg (hidT O3.heap H):=⟨a1,i Y,⟨mb,i A,b9⟩,let ⟨mc,h1,h2⟩:=T;⟨mc,i h1,h2⟩,⟨let ⟨mc,h1,h2⟩:=E.statics;⟨mc,i h1,h2⟩,let ⟨mc,h1,h2⟩:=E.mods;⟨mc,i h1,h2⟩,let ⟨mc,h1,h2⟩:=E.imp;⟨mc,i h1,h2⟩,let ⟨mc,bm,ob,h1,h2,h3,h4,h5⟩:=E.main;⟨mc,bm,ob,i h1,h2,f h3 (S h3 h4),h4,h5⟩⟩,let ⟨bm,ob,b1,b2,b3,b4,b5⟩:=c8;⟨bm,ob,b1,b2,f b3 (S b3 b4),b4,b5⟩,λx hx c P e=>by
   have g:=Z x hx;rw[e] at g;obtain⟨o,c7,a6,tf,O,tg,d0,b0,tt,g1,g2,g3,g4,g5,g6,g7,g8,g9,c5⟩:=(G (x,c,P) (PySem.mem_of_lookup g.symm)).1;refine⟨o,c7,a6,tf,O,tg,d0,b0,tt,f g1 ?_,g2,g3,g4,g5,g6,g7,g8,g9,c5⟩;cases q:H c with
   | none=>rfl
   | some u =>
    rcases split (b:=c) (by rw[q];simp) with ⟨_,L,_⟩ | ⟨j,z⟩
    .subst L;rw[Q] at g1;cases g1;exact absurd (show Value.type "list"=Value.type "code" from g2) (by decide)
    .obtain ⟨_,_,g⟩:=p z;rw[g] at g1;cases g1;exact absurd (show Value.none=Value.type "code" from g2) (by decide)⟩
  have e0:Env0 P w K mg (hidT O3.heap H) callerA [] O3 H:=⟨rfl,hM,λb o e=>zPK e,Nat.le_of_eq ((W.hideAll_size _ _)),trivial,λb A=>absurd (show b∈([]:List Addr) from A) (by simp),a9,.of_eq hg,c1,hT⟩;refine codeAny_mono ((F _ a1 (i Y)).run callerA [] O3 H ⟨[.ref a],[]⟩ [.ref a] [.ref a] _ _ hr e0 (N O3 (.ref a)) (.cons rfl .nil) (c3 H hL hS)) λr s' h=>?_
  cases r with
  | error e=>exact(d2 H e s' h).elim
  | ok fl =>
   cases fl with
   | next=>exact False.elim h
   | brk=>exact False.elim h
   | cont=>exact False.elim h
   | ret u =>
    obtain⟨v,H',os,X,un,I,r',q⟩:=h;have q':v=.bl true:=q;subst q';obtain rfl:u=Value.bool true:=r';have a0:∀ b o,O3.heap.get? b=some o->asItWas O3.heap s'.heap b o/\∃ o',s'.heap.get? b=some o':=λb o e=>by
     cases z:(tblT tl).lookup b with
     | some j =>
      obtain⟨c,C,g⟩:=p z;rw[e] at g;cases g;obtain⟨ps,e3,_⟩:=I b _ (un.tbls b _ (M z));exact⟨.inr (.inl ⟨(C.tab e).isCodeTable,rfl,#[],ps,rfl,by rw[e3];simp⟩),_,e3⟩
     | none =>
      have k:s'.heap.get? b=some o:=by
       cases q:H b with
       | none=>exact un.keep b o e q (by intro z;exact absurd (show b∈([]:List Addr) from z) (by simp)) (by simp)
       | some u =>
        rcases a7 b with y | ⟨ob,xs,y⟩
        .rw [l z,y] at q;cases q
        .have y1:=B y;have z2:=un.frzs b ob _ y1;obtain⟨e1,_⟩:=a9 b _ y1;obtain⟨g,_⟩:=I b _ z2;rw[e] at e1;cases e1;exact g
      exact⟨.inl k,o,k⟩
    exact⟨rfl,⟨λb o e=>(a0 b o e).1,λb o e=>(a0 b o e).2⟩,os,X⟩
 cases hk:K.lookup a with
 | some o =>
  have e:=KX a o hk;rw[Q] at e;cases e;refine J (λ_=>none) (λ_=>.inl rfl) (.inr ⟨_,vs.toArray,_,hk,rfl,rfl,rfl,by rw[xq,a4];exact hl,by simpa using rv⟩) (λb u z=>by have z':(none:Option HO)=some u:=z;cases z') (λb z=>absurd rfl z) λz=>absurd rfl z
 | none =>
  refine J (λb=>if b=a then some (.frz { cls:=.type "list",data:=.seq vs.toArray } (.lst (ns.map V.int))) else none) (λb=>?_) (.inl (.inr ⟨{ cls:=.type "list",data:=.seq vs.toArray },if_pos rfl⟩)) (λb u z=>?_) (λb z=>?_) λ_=>hk
  .by_cases A:b=a
   .exact .inr ⟨_,_,if_pos A⟩
   .exact .inl (if_neg A)
  .by_cases A:b=a
   .have z':=(if_pos A).symm.trans z;cases z';subst A;exact⟨Q,by rw[qy];exact hl,vs,_,rv,Q⟩
   .have z':=(if_neg A).symm.trans z;cases z'
  .by_cases A:b=a
   .exact A
   .exact absurd (if_neg A) z
end L2
namespace L2
open PySem Spec PyProof.Rows
def zOj {l:W.OpenLaw}{K:Params->W.Frag}{CX:World->CXT}{D:World->Sp}
  (O:l.most=some n) (z:n<=sizeLine) (p:d.params.defaults=[]) (hq:importsNone q=true) (R:∀ w,(model l.prog w).prog.given.tree=none) (U:Room k callerA) (tl:List (Str×Addr×Addr)) (i:∀ (w:World) (h:Heap),YP w h->∀ t∈tl,W.CodeHd h t.2.1 t.2.2/\h.get? t.2.2=some (W.tabObj #[])) (r:∀ w:World,∀ x∈zBs,tabQ (K w.params) x=tl.lookup x) (M:∀ t∈tl,t.1∈zBs/\tl.lookup t.1=some t.2) (A:(tl.map λt=>t.2.2).Nodup) (y:∀ w:World,W.noTabs (K w.params)=true)
  (S:∀ (w:World) (h:Heap),YP w h->(K w.params).In h)
  (F:∀ (w:World) (mg:Str->Option Value) (fa:Addr) (h:Heap),(K w.params).In h->h.Ns mainGlobals mg->mg d.name=some (.ref fa) ->
   ∃ fd:FuncData,(∀ (s:Shared) (u:Value),BindsTo s fd ⟨[u],[]⟩ [(x,u)]) /\
    ∀ base:Heap,(K w.params).In base->base.Ns mainGlobals mg->FnOk l.prog w (K w.params) mg base (CX w) k fa fd [x] (D w))
  (B:∀ (w:World) (H:Hp) (a:Addr) (ns:List Int),(ns.length<=n/\∀ x∈ns,Builtin.Int.intBits x<=2^20)->(∀ xs,H a≠some (.lst xs))->SqL (K w.params) H a (ns.map V.int)->D w [.ref a] H (λv _=>v=.bl true) λ_ _ _=>False)
  (m:∀ (w:World) (H:Hp) (s:Shared) (e:Value) (s':Shared),CX w [] H s (λ_ _ _=>False) e s'->False) :
  W.WalkO q loose XP YP l.row.toRowW d [] (λf vs=>PySem.call f vs):=by
 refine Att.zHm O p λw s0 Q mg X fa o Z cd T a vs ns G Y ho hd L j g c b E=>?_
 have C:=S w _ Y;obtain⟨fd,I,J⟩:=F w mg fa _ C G.T.g j;exact zMk C G.T.g G.T.b G.T.builtins G.T.nolimit (G.T.seer hq) (R w) E g c (le_trans b.1 z) U J I G.T.bmain (i w _ Y) (r w) A (y w) (λH P N=>B w H a ns b P N) λH e s'=>m w H Q e s'
noncomputable def zAB (s:Stmt)(j:Nat):Stmt:=match s with
 | .ClassDef _ _ _ body _ _ _ _ _ _ _=>body.getD j (.Pass ⟨0,0,0,0⟩)
 | _=>.Pass ⟨0,0,0,0⟩
noncomputable def zAZ (s:Stmt):Arguments:=match s with
 | .FunctionDef _ a _ _ _ _ _ _ _ _=>a
 | _=>{ posonlyargs:=[],args:=[],vararg:=none,kwonlyargs:=[],kw_defaults:=[],kwarg:=none,defaults:=[] }
noncomputable def zAE (s:Stmt):List Stmt:=match s with
 | .FunctionDef _ _ b _ _ _ _ _ _ _=>b
 | _=>[]
noncomputable def zAA (s:Stmt):Scope:=match s with
 | .FunctionDef _ _ _ _ _ _ sc _ _ _=>sc
 | _=>{ kind:=.function,names:=[],isGenerator:=false,isCoroutine:=false }
abbrev CX0:CXT:=λ_ _ _ _ _ _=>False
abbrev E0:XK:=λ_ _ _=>False
def zHJ :zFN CX0 X E0:=λ_ _ _ _ _ _ _ h=>h.elim
structure Fun (K:W.Frag)(x qual:Str)(st:Stmt)(f:Addr)(fd:FuncData):Prop where
 ex:∃ (oc:Value) (od:Option Addr) (kV doc pm:Value) (an:Option Addr) (cdv ct:Value) (osl:Array (Option Value)),
  fd=W.fnOf x qual (zAZ st) (zAE st) (zAA st) .none kV doc pm an cdv ct/\K.lookup f=some ⟨oc,od,.func fd,osl⟩/\W.codeIn K cdv qual=true
 kp:W.keepIn K (.ref f)=true
section
variable {P:Program}{w:World}{K:W.Frag}{mg:Str->Option Value}{base:Heap}
def Fun.ok {st:Stmt}(F:Fun K x qual st f fd)(S:zAV N ps (zAA st))(len:∀ vs H Q E,sp vs H Q E->vs.length=ps.length)
  (a:∀ (cdv:Value) (A:Around) (outer:List Env) (s:Shared) (H:Hp) (vs:List V) (Q:VK) (E:XK),Room k (A.deeper (envOfC qual (zAA st) s.heap.objs.size f cdv))->sp vs H Q E ->
   ∃ t,PSs (cxOf CX0 P w K mg base N qual (zAA st) f cdv A outer s H E).nox (zAE st) t/\t { nx:=λ_ H'=>Q .non H',rt:=Q } (zBy N vs) H):FnOk P w K mg base CX0 (k+1) f fd ps sp:=by
 obtain⟨m,j,kV,d,l,n,cdv,ct,i,rfl,e,b⟩:=F.ex;refine zS5 e b S len λA outer s H vs Q E g c=>?_
 obtain⟨t,h,q⟩:=a cdv A outer s H vs Q E g c;exact⟨t,h.nox,q⟩
def Fun.binds {st:Stmt}(F:Fun K x qual st f fd)
  (h:∀ (kV doc pm:Value) (an:Option Addr) (cdv ct:Value) (us:List Value),us.length=ps.length->bindArgs (W.fnOf x qual (zAZ st) (zAE st) (zAA st) .none kV doc pm an cdv ct) ⟨us,[]⟩=pure (ps.zip us)):zBH K fd ps []:=by
 obtain⟨d,c,kV,doc,pm,an,cdv,ct,b,rfl,e,a⟩:=F.ex;exact .all (h kV doc pm an cdv ct)
def zK4 {st:Stmt}{kV:Value}(l:K.lookup f=some ⟨oc,od,.func (W.fnOf x qual (zAZ st) (zAE st) (zAA st) .none kV doc pm an cdv ct),osl⟩)
  (c:W.codeIn K cdv qual=true) (k:W.keepIn K (.ref f)=true):Fun K x qual st f (W.fnOf x qual (zAZ st) (zAE st) (zAA st) .none kV doc pm an cdv ct):=⟨⟨oc,od,kV,doc,pm,an,cdv,ct,osl,rfl,l,c⟩,k⟩
end
def iteF {B:Prop}(h:B):if false=true then A else B:=by grind
def iteT {B:Prop}(h:A):if true=true then A else B:=by simp_all
def Same (H H':Hp):Prop:=∀ b o,H b=some o->H' b=some o
def Same.refl (H:Hp):Same H H:=λ_ _ h=>h
def Same.trans (a:Same H H1)(b:Same H1 H2):Same H H2:=λc o h=>b c o (a c o h)
def Same.free (e:Same H H')(h:H' l=Option.none):H l=Option.none:=by
 cases q:H l with
 | none=>rfl
 | some o =>
  rw[e l o q] at h;omega
def Same.seq {K:W.Frag}(e:Same H H')(h:SqL K H a xs):SqL K H' a xs:=by
 rcases h with (h | ⟨o,h⟩) | h
 .exact .inl (.inl (e _ _ h))
 .exact .inl (.inr ⟨o,e _ _ h⟩)
 .exact .inr h
end L2
end
section
namespace DL
def nof {p:Prop}(h:false=true):p:=nomatch h
open PySem Spec PyProof.Rows L2
abbrev St:=L2.St
abbrev anyU:HO:=.ext λ_=>True
structure LamI where
 qual:Str
 params:Arguments
 body:Expr
 scope:Scope
noncomputable def frN (L:LamI):List Str:=((L.scope.names.filter λp=>p.2==.free).map (·.1)).reverse
def zBU (H:Hp):List (Str×Addr)->List V->Prop:=Paired λp v=>∃ o u,H p.2=some (.frz o anyU)/\o.data=.cell (some u)/\RelV v u
def zDv (H:Hp)(L:LamI)(f:Addr)(vs:List V):Prop:=∃ cl pm c ctv oc u1,H f=some (.frz (W.kla_obj "<lambda>" L.qual L.params L.body L.scope cl pm c ctv) anyU)/\H c=some (.frz oc u1)/\zLz oc L.qual/\cl.map (·.1)=frN L/\(cl.map (·.2)).Nodup/\zBU H cl vs
noncomputable def zFl:List Str:=["shape","ink","strength","layer","layers"]
noncomputable def zLY (ns:List Str):Bool:=(ns.any λn=>n==("strength":Str)||n==("layer":Str))&&ns.all λn=>zFl.contains n
noncomputable def zEc (fs:List (Str×V)):Bool:=zLY (fs.map (·.1))
abbrev zCf (H H':Hp):Prop:=∀ b o,H b=some o->(∀ C dx fs,o=.ins C dx fs->zEc fs=true)->H' b=some o
def zBU.monoF (e:zCf H H')(h:zBU H cl vs):zBU H' cl vs:=Paired.mapP h λ_ _ a=>by obtain⟨o,u,h1,h2⟩:=a;exact⟨o,u,e _ _ h1 (λ_ _ _ z=>nomatch z),h2⟩
def zDv.monoF (e:zCf H H')(h:zDv H L f vs):zDv H' L f vs:=by
 obtain⟨cl,g,c,a,b,d,h1,h2,h3,h4,h5,h6⟩:=h;exact⟨cl,g,c,a,b,d,e _ _ h1 (λ_ _ _ z=>nomatch z),e _ _ h2 (λ_ _ _ z=>nomatch z),h3,h4,h5,h6.monoF e⟩
def zDv.mono (e:Same H H')(h:zDv H L f vs):zDv H' L f vs:=h.monoF λb o q _=>e b o q
inductive D where
 | non | bl (b:Bool) | int (i:Int) | str (x:Str) | tup (l:List D) | lst (l:List D) | exc (c:Str) | dct (ks:List (Int×Int)) | lam (j:Nat) (L:LamI) (l:List D) | obj (c:Str) (ns:List Str) (l:List D) | fn (n:Nat) (x:Str)
noncomputable instance:Inhabited D:=⟨.non⟩
def zBT (K:W.Frag)(c:Str)(C:Addr):Prop:=W.nsIn K mainGlobals c=some (some (.ref C))
def zLw (K:W.Frag)(H:Hp)(c:Str)(ns:List Str)(a:Addr)(vs:List V):Prop:=∃ C dx gs,H a=some (.ins C dx gs)/\zEc gs=true/\zBT K c C/\(ns.map λn=>gs.lookup n)=vs.map some
def zLw.monoF {K:W.Frag}(e:zCf H H')(h:zLw K H c ns a vs):zLw K H' c ns a vs :=
 let ⟨C,dx,gs,h1,h2,h3⟩:=h;⟨C,dx,gs,e _ _ h1 λ_ _ _ z=>by cases z;exact h2,h2,h3⟩
noncomputable def pk (p:Int×Int):List Key:=[Sum.inl p.1,Sum.inl p.2]
mutual
noncomputable def Den (K:W.Frag)(H:Hp):D->V->Prop
 | .non,v=>v=.non
 | .bl b,v=>v=.bl b
 | .int i,v=>v=.int i
 | .str x,v=>v=.str x
 | .tup ds,v=>∃ a vs,v=.ref a/\SqT K H a vs/\DenL K H ds vs
 | .lst ds,v=>∃ a vs,v=.ref a/\SqL K H a vs/\DenL K H ds vs
 | .exc c,v=>∃ a o u C,v=.ref a/\H a=some (.frz o u)/\o.cls=.ref C/\(∃ vs,o.data=.fields vs)/\zBT K c C
 | .dct ks,v=>∃ a kvs,v=.ref a/\H a=some (.dT kvs)/\kvs.map (·.1)=ks.map pk
 | .lam _ L ds,v=>∃ a vs,v=.ref a/\zDv H L a vs/\DenL K H ds vs
 | .obj c ns ds,v=>∃ a vs,v=.ref a/\zLw K H c ns a vs/\DenL K H ds vs
 | .fn _ x,v=>∃ a,v=.ref a/\zBT K x a
noncomputable def DenL (K:W.Frag)(H:Hp):List D->List V->Prop
 | [],vs=>vs=[]
 | d::ds,vs=>∃ v ws,vs=v::ws/\Den K H d v/\DenL K H ds ws
end
def Same.tupS {K:W.Frag}(e:Same H H')(h:SqT K H a xs):SqT K H' a xs:=by
 rcases h with (h | ⟨o,h⟩) | h
 .exact .inl (.inl (e _ _ h))
 .exact .inl (.inr ⟨o,e _ _ h⟩)
 .exact .inr h
def zCf.tupS {K:W.Frag}(e:zCf H H')(h:SqT K H a xs):SqT K H' a xs:=by
 rcases h with (h | ⟨o,h⟩) | h
 .exact .inl (.inl (e _ _ h λ_ _ _ z=>nomatch z))
 .exact .inl (.inr ⟨o,e _ _ h λ_ _ _ z=>nomatch z⟩)
 .exact .inr h
def zCf.seq {K:W.Frag}(e:zCf H H')(h:SqL K H a xs):SqL K H' a xs:=by
 rcases h with (h | ⟨o,h⟩) | h
 .exact .inl (.inl (e _ _ h λ_ _ _ z=>nomatch z))
 .exact .inl (.inr ⟨o,e _ _ h λ_ _ _ z=>nomatch z⟩)
 .exact .inr h
section
variable {K:W.Frag}{H H':Hp}
mutual
theorem Den.monoF (e:zCf H H'):∀ {d:D} {v:V},Den K H d v->Den K H' d v
 | .non,_,h=>by rw[Den] at h ⊢;exact h
 | .bl _,_,h=>by rw[Den] at h ⊢;exact h
 | .int _,_,h=>by rw[Den] at h ⊢;exact h
 | .str _,_,h=>by rw[Den] at h ⊢;exact h
 | .tup ds,_,h=>by
  rw[Den] at h ⊢;obtain⟨a,vs,h1,h2,h3⟩:=h;exact⟨a,vs,h1,zCf.tupS e h2,DenL.monoF e h3⟩
 | .lst ds,_,h=>by
  rw[Den] at h ⊢;obtain⟨a,vs,h1,h2,h3⟩:=h;exact⟨a,vs,h1,zCf.seq e h2,DenL.monoF e h3⟩
 | .exc c,_,h=>by
  rw[Den] at h ⊢;obtain⟨a,o,u,C,h1,h2,h3⟩:=h;exact⟨a,o,u,C,h1,e _ _ h2 (λ_ _ _ z=>nomatch z),h3⟩
 | .dct ks,_,h=>by
  rw[Den] at h ⊢;obtain⟨a,kvs,h1,h2,h3⟩:=h;exact⟨a,kvs,h1,e _ _ h2 (λ_ _ _ z=>nomatch z),h3⟩
 | .lam _ L ds,_,h=>by
  rw[Den] at h ⊢;obtain⟨a,vs,h1,h2,h3⟩:=h;exact⟨a,vs,h1,h2.monoF e,DenL.monoF e h3⟩
 | .obj c ns ds,_,h=>by
  rw[Den] at h ⊢;obtain⟨a,vs,h1,h2,h3⟩:=h;exact⟨a,vs,h1,h2.monoF e,DenL.monoF e h3⟩
 | .fn _ x,_,h=>by rw[Den] at h ⊢;exact h
theorem DenL.monoF (e:zCf H H'):∀ {ds:List D} {vs:List V},DenL K H ds vs->DenL K H' ds vs
 | [],_,h=>by rw[DenL] at h ⊢;exact h
 | d::ds,_,h=>by
  rw[DenL] at h ⊢;obtain⟨v,ws,h1,h2,h3⟩:=h;exact⟨v,ws,h1,Den.monoF e h2,DenL.monoF e h3⟩
end
def Den.mono (e:Same H H')(h:Den K H d v):Den K H' d v:=h.monoF λb o q _=>e b o q
def DenL.mono (e:Same H H')(h:DenL K H ds vs):DenL K H' ds vs:=h.monoF λb o q _=>e b o q
def DenL.nil:DenL K H [] []:=rfl
def DenL.cons (h:Den K H d v)(t:DenL K H ds vs):DenL K H (d::ds) (v::vs):=⟨v,vs,rfl,h,t⟩
def DenL.length:∀ {ds:List D} {vs:List V},DenL K H ds vs->ds.length=vs.length
 | [],_,h=>by rw[DenL] at h;rw[h];rfl
 | _::ds,_,h=>by
  rw[DenL] at h;obtain⟨v,ws,h1,h2,h3⟩:=h;rw[h1,xX,xX,DenL.length h3]
def DenL.get:∀ {ds:List D} {vs:List V} {i:Nat} {d:D},DenL K H ds vs->ds[i]?=some d->∃ v,vs[i]?=some v/\Den K H d v
 | [],_,_,_,_,e=>by simp at e
 | x::ds,_,i,d,h,e=>by
  rw[DenL] at h;obtain⟨v,ws,h1,h2,h3⟩:=h;subst h1;cases i with
  | zero=>simp at e;subst e;exact⟨v,by simp,h2⟩
  | succ i =>
   obtain⟨u,b,a⟩:=DenL.get (i:=i) (d:=d) h3 (by simpa using e);exact⟨u,by simpa using b,a⟩
theorem DenL.of_get:∀ {ds:List D} {vs:List V},ds.length=vs.length->(∀ (i:Nat) d v,ds[i]?=some d->vs[i]?=some v->Den K H d v)->DenL K H ds vs
 | [],[],_,_=>.nil
 | [],_::_,e,_=>by simp at e
 | _::_,[],e,_=>by simp at e
 | d::ds,v::vs,e,h=>.cons (h 0 d v (by simp) (by simp)) (DenL.of_get (by simpa using e) λi d' v' q1 q2=>h (i+1) d' v' (by simpa using q1) (by simpa using q2))
def DenL.append:∀ {ds es:List D} {vs a:List V},DenL K H ds vs->DenL K H es a->DenL K H (ds++es) (vs++a)
 | [],_,_,_,h,t=>by rw[DenL] at h;subst h;exact t
 | _::ds,_,_,_,h,t=>by
  rw[DenL] at h;obtain⟨v,a,h1,h2,h3⟩:=h;subst h1;exact .cons h2 (DenL.append h3 t)
def DenL.take:∀ {ds:List D} {vs:List V} (n:Nat),DenL K H ds vs->DenL K H (ds.take n) (vs.take n)
 | _,_,0,_=>by rw[take_zero,take_zero];exact .nil
 | [],_,n+1,h=>by rw[DenL] at h;subst h;exact .nil
 | _::ds,_,n+1,h=>by
  rw[DenL] at h;obtain⟨v,ws,h1,h2,h3⟩:=h;subst h1;rw[take_succ_cons,take_succ_cons];exact .cons h2 (DenL.take n h3)
def DenL.drop:∀ {ds:List D} {vs:List V} (n:Nat),DenL K H ds vs->DenL K H (ds.drop n) (vs.drop n)
 | _,_,0,h=>h
 | [],_,n+1,h=>by rw[DenL] at h;subst h;exact .nil
 | _::ds,_,n+1,h=>by
  rw[DenL] at h;obtain⟨v,ws,h1,h2,h3⟩:=h;subst h1;rw[List.drop_succ_cons,List.drop_succ_cons];exact DenL.drop n h3
def DenL.set (a:Den K H d v):∀ {ds:List D} {vs:List V} (n:Nat),DenL K H ds vs->DenL K H (ds.set n d) (vs.set n v)
 | [],_,n,h=>by rw[DenL] at h;subst h;exact .nil
 | _::ds,_,n,h=>by
  rw[DenL] at h;obtain⟨u,ws,h1,h2,h3⟩:=h;subst h1;cases n with
  | zero=>exact .cons a h3
  | succ n=>exact .cons h2 (DenL.set a n h3)
theorem DenL.ints:∀ ns:List Int,DenL K H (ns.map D.int) (ns.map V.int)
 | []=>.nil
 | n::ns=>.cons (by rw[Den]) (DenL.ints ns)
end
noncomputable def hide (H:Hp)(S:List Addr):Hp:=λb=>if b∈S then none else H b
section
variable {H H':Hp}{S:List Addr}{a b:Addr}{o:HO}
def zCB (h:b∈S):hide H S b=none:=if_pos h
def zAO (h:b∉S):hide H S b=H b:=if_neg h
def zA0 (h:hide H S b=some o):b∉S/\H b=some o:=by
 unfold hide at h;grind
def zAf:Same (hide H S) H:=λ_ _ h=>(zA0 h).2
def zAP (e:Same H H'):Same (hide H S) (hide H' S):=λb o h=>by
 obtain⟨h1,h2⟩:=zA0 h;rw[zAO h1];exact e _ _ h2
def zB2 (h:∀ b∈S,b∈T):Same (hide H T) (hide H S):=λb o q=>by
 obtain⟨h1,h2⟩:=zA0 q;rw[zAO λz=>h1 (h b z)];exact h2
def zD4 (e:Same H H')(n:H a=none):Same (hide H S) (hide H' (a::S)):=λb o q=>by
 obtain⟨h1,h2⟩:=zA0 q;rw[zAO λz=>(mem_cons.mp z).elim (zAq h2 n) h1];exact e _ _ h2
def zCp:hide H []=H:=rfl
def zFr (h:a∈S):hide (upd H a o) S=hide H S:=by
 funext b;by_cases q:b∈S
 .rw [zCB q,zCB q]
 .rw [zAO q,zAO q,zAQ λz=>q (by rw[z];exact h)]
def zAX (h:H p=none)(o:HO):Same H (upd H p o):=λb u q=>by rw[zAQ (zAq q h)];exact q
end
inductive Kd where
 | cl | fr | dt
 deriving DecidableEq
abbrev R:=D×Kd
abbrev Dst:=List (Option (D×Bool))
def RV (K:W.Frag)(H H':Hp)(S:List Addr):R->V->Prop
 | (d,.cl),v=>Den K (hide H' S) d v
 | (d,.fr),v=>∃ a vs ds,v=.ref a/\d=.lst ds/\a∉S/\H a=none/\H' a=some (.lst vs)/\DenL K (hide H' (a::S)) ds vs
 | (d,.dt),v=>∃ a vs ds,v=.ref a/\d=.lst ds/\SqL K H' a vs/\DenL K (hide H' S) ds vs
def Rdv (K:W.Frag)(H:Hp)(S:List Addr)(d:D)(v:V):Prop :=
 Den K (hide H S) d v\/∃ a vs ds,v=.ref a/\d=.lst ds/\SqL K H a vs/\DenL K (hide H S) ds vs
section
variable {K:W.Frag}{H H1 H':Hp}{S:List Addr}{d:D}{v:V}{r:R}
def RV.clean (h:RV K H H' S (d,.fr) v):Den K (hide H' S) d v:=by
 obtain⟨a,c,f,rfl,rfl,e,_,b,t⟩:=h;exact⟨a,c,rfl,SqL.of (by rw[zAO e];exact b),t.mono (zB2 λb z=>qY _ z)⟩
def RV.den (h:RV K H H' S (d,k) v)(a:k≠.dt):Den K (hide H' S) d v:=by
 cases k with
 | cl=>exact h
 | fr=>exact h.clean
 | dt=>exact absurd rfl a
def RV.rd (h:RV K H H' S r v):Rdv K H' S r.1 v:=by
 obtain⟨d,k⟩:=r;cases k with
 | cl=>exact .inl h
 | fr=>exact .inl h.clean
 | dt=>exact .inr h
def RV.from (e:Same H H1)(h:RV K H1 H' S r v):RV K H H' S r v:=by
 obtain⟨d,k⟩:=r;cases k with
 | cl=>exact h
 | fr =>
  obtain⟨a,g,b,l,c,f,j,i⟩:=h;exact⟨a,g,b,l,c,f,e.free j,i⟩
 | dt=>exact h
def Rdv.mono (e:Same H H')(h:Rdv K H S d v):Rdv K H' S d v:=by
 rcases h with h | ⟨a,vs,ds,h1,h2,h3,h4⟩
 .exact .inl (h.mono (zAP e))
 .exact .inr ⟨a,vs,ds,h1,h2,e.seq h3,h4.mono (zAP e)⟩
def Rdv.int (h:Rdv K H S (.int i) v):v=.int i:=by
 rcases h with h | _
 .exact h
 .grind
def Rdv.bl (h:Rdv K H S (.bl b) v):v=.bl b:=by
 rcases h with h | _
 .exact h
 .grind
def Rdv.str (h:Rdv K H S (.str x) v):v=.str x:=by
 rcases h with h | _
 .exact h
 .grind
def Rdv.lst (h:Rdv K H S (.lst ds) v):∃ a vs,v=.ref a/\SqL K H a vs/\DenL K (hide H S) ds vs:=by
 rcases h with h | ⟨a,vs,ds',h1,h2,h3,h4⟩
 .rw [Den] at h;obtain⟨a,vs,h1,h2,h3⟩:=h;exact⟨a,vs,h1,zAf.seq h2,h3⟩
 .cases h2;exact⟨a,vs,h1,h3,h4⟩
def Rdv.tup (h:Rdv K H S (.tup ds) v):∃ a vs,v=.ref a/\SqT K H a vs/\DenL K (hide H S) ds vs:=by
 rcases h with h | ⟨a,vs,ds',h1,h2,h3,h4⟩
 .rw [Den] at h;obtain⟨a,vs,h1,h2,h3⟩:=h;exact⟨a,vs,h1,Same.tupS zAf h2,h3⟩
 .cases h2
def Rdv.dct (h:Rdv K H S (.dct ks) v):∃ a kvs,v=.ref a/\H a=some (.dT kvs)/\kvs.map (·.1)=ks.map pk:=by
 rcases h with h | ⟨a,vs,ds',h1,h2,h3,h4⟩
 .rw [Den] at h;obtain⟨a,kvs,h1,h2,h3⟩:=h;exact⟨a,kvs,h1,zAf _ _ h2,h3⟩
 .cases h2
def RV.int (i:Int):RV K H H' S (.int i,.cl) (.int i):=rfl
def RV.bl (b:Bool):RV K H H' S (.bl b,.cl) (.bl b):=rfl
end
def MuB:HO->Prop
 | .lst _=>True
 | .dT _=>True
 | _=>False
def OwnO (K:W.Frag)(H:Hp):D->HO->Prop
 | .lst ds,o=>∃ vs,o=.lst vs/\DenL K H ds vs
 | .dct ks,o=>∃ kvs,o=.dT kvs/\kvs.map (·.1)=ks.map pk
 | _,_=>False
def OwnO.mono {K:W.Frag}(e:Same H H')(h:OwnO K H d o):OwnO K H' d o:=by
 cases d with
 | lst c=>obtain⟨a,h1,h2⟩:=h;exact⟨a,h1,h2.mono e⟩
 | dct b=>exact h
 | non=>exact h
 | bl _=>exact h
 | int _=>exact h
 | str _=>exact h
 | tup _=>exact h
 | exc _=>exact h
 | lam _ _ _=>exact h
 | obj _ _ _=>exact h
 | fn _ _=>exact h
def OwnO.mu {K:W.Frag}(h:OwnO K H d o):MuB o:=by
 cases d with
 | lst e=>obtain⟨b,rfl,_⟩:=h;exact True.intro
 | dct c=>obtain⟨a,rfl,_⟩:=h;exact True.intro
 | non=>cases h
 | bl _=>cases h
 | int _=>cases h
 | str _=>cases h
 | tup _=>cases h
 | exc _=>cases h
 | lam _ _ _=>cases h
 | obj _ _ _=>cases h
 | fn _ _=>cases h
def OwnO.den {K:W.Frag}(h:OwnO K H d o)(e:H a=some o):Den K H d (.ref a):=by
 cases d with
 | lst f=>obtain⟨c,rfl,h2⟩:=h;exact⟨a,c,rfl,SqL.of e,h2⟩
 | dct g=>obtain⟨b,rfl,h2⟩:=h;exact⟨a,b,rfl,e,h2⟩
 | non=>cases h
 | bl _=>cases h
 | int _=>cases h
 | str _=>cases h
 | tup _=>cases h
 | exc _=>cases h
 | lam _ _ _=>cases h
 | obj _ _ _=>cases h
 | fn _ _=>cases h
def SV (K:W.Frag)(H:Hp)(S:List Addr)(d:D)(o:Bool)(v:V):Prop :=
 if o=true then ∃ a u,v=.ref a/\a∈S/\H a=some u/\OwnO K (hide H S) d u else Den K (hide H S) d v
structure DS (K:W.Frag)(H:Hp)(S:List Addr)(σ:St)(G:Dst):Prop where
 len:σ.length=G.length
 sok:∀ a∈S,∃ xs:HO,H a=some xs/\MuB xs
 get:∀ (i:Nat) d o,G[i]?=some (some (d,o))->∃ v,σ[i]?=some (some v)/\SV K H S d o v
 inj:∀ (i j:Nat) d e a,G[i]?=some (some (d,true))->G[j]?=some (some (e,true))->σ[i]?=some (some (.ref a))->σ[j]?=some (some (.ref a))->i=j
section
variable {K:W.Frag}{H H1 H':Hp}{S:List Addr}{σ:St}{G:Dst}{d:D}{v:V}{i:Nat}
def SV.own (h:SV K H S d o v)(b:o=true):∃ a u,v=.ref a/\a∈S/\H a=some u/\OwnO K (hide H S) d u:=by
 unfold SV at h;rw[if_pos b] at h;exact h
def SV.ownL (h:SV K H S (.lst ds) o v)(b:o=true):∃ a vs es,v=.ref a/\D.lst ds=.lst es/\a∈S/\H a=some (.lst vs)/\DenL K (hide H S) es vs:=by
 obtain⟨a,u,h1,h2,h3,vs,rfl,h5⟩:=h.own b;exact⟨a,vs,ds,h1,rfl,h2,h3,h5⟩
def SV.den (h:SV K H S d o v)(a:o=false):Den K (hide H S) d v:=by
 unfold SV at h;rw[if_neg (by simp_all)] at h;exact h
def SV.of_den (h:Den K (hide H S) d v):SV K H S d false v:=by assumption
def SV.of_own (h1:a∈S)(h2:H a=some u)(h3:OwnO K (hide H S) d u):SV K H S d true (.ref a):=⟨a,u,rfl,h1,h2,h3⟩
def SV.mono (e:Same H H')(h:SV K H S d o v):SV K H' S d o v:=by
 cases o with
 | true =>
  obtain⟨a,u,rfl,h1,h2,h3⟩:=h.own rfl;exact .of_own h1 (e _ _ h2) (h3.mono (zAP e))
 | false=>exact .of_den ((h.den rfl).mono (zAP e))
def DS.mono (h:DS K H S σ G)(e:Same H H'):DS K H' S σ G :=
 ⟨h.len,λa z=>let ⟨xs,q,mu⟩:=h.sok a z;⟨xs,e _ _ q,mu⟩,λi d o z=>let ⟨v,q1,q2⟩:=h.get i d o z;⟨v,q1,q2.mono e⟩,h.inj⟩
def zBO {O:Type}{l:List O}{i:Nat}{x:O}(h:i < l.length):(l.set i x)[i]?=some x:=by simp[h]
def zB3 {O:Type}{l:List O}{i j:Nat}{x:O}(h:i≠j):(l.set i x)[j]?=l[j]?:=by simp_all
def zAS {O:Type}{l:List O}{i j:Nat}{x y:O}(h:(l.set i x)[j]?=some y):(i=j/\y=x/\i < l.length)\/(i≠j/\l[j]?=some y):=by
 by_cases e:i=j
 .subst e;by_cases q:i < l.length
  .simp_all
  .simp_all
 .simp_all
def DS.set (h:DS K H S σ G)(g:Den K (hide H S) d v):DS K H S (σ.set i (some v)) (G.set i (some (d,false))):=by
 refine⟨by rw[length_set,length_set];exact h.len,h.sok,λj e o q=>?_,λj k e f a n c b l=>?_⟩
 .rcases zAS q with ⟨rfl,z,m⟩ | ⟨ne,z⟩
  .cases z;exact⟨v,zBO (by rw[h.len];exact m),.of_den g⟩
  .obtain _:=h.get j e o z
   simp_all
 .rcases zAS n with ⟨_,z,_⟩ | ⟨ne1,z1⟩
  .grind
  .rcases zAS c with ⟨_,z,_⟩ | ⟨ne2,z2⟩
   .cases z
   .rw [zB3 ne1] at b
    simp_all
    exact h.inj j k e f a z1 z2 b l
def DS.setG (h:DS K H S σ G)(e:Same H H')(n:H a=none)(A:H' a=some u)(t:OwnO K (hide H' (a::S)) d u) :
  DS K H' (a::S) (σ.set i (some (.ref a))) (G.set i (some (d,true))):=by
 refine⟨by rw[length_set,length_set];exact h.len,λb z=>?_,λj y o q=>?_,λj k y f b s c g l=>?_⟩
 .rcases mem_cons.mp z with rfl | z
  .exact ⟨_,A,t.mu⟩
  .obtain ⟨J,q,mu⟩:=h.sok b z;exact⟨J,e _ _ q,mu⟩
 .rcases zAS q with ⟨rfl,z,M⟩ | ⟨L,z⟩
  .cases z;exact⟨.ref a,zBO (by rw[h.len];exact M),.of_own q0 A t⟩
  .obtain ⟨u,s,c⟩:=h.get j y o z
   simp_all
   cases o with
   | true =>
    obtain⟨b,w,rfl,E,C,N⟩:=c.own rfl;exact .of_own (qY _ E) (e _ _ C) (N.mono (zD4 e n))
   | false=>exact .of_den ((c.den rfl).mono (zD4 e n))
 .have m:∀ {j:Nat} {x:D},i≠j->G[j]?=some (some (x,true))->σ[j]?=some (some (.ref a))->False:=λ{j x} L z q=>by
   obtain⟨u,s,c⟩:=h.get j x true z;obtain⟨b,w,rfl,E,C,_⟩:=c.own rfl;grind
  rcases zAS s with ⟨F,r,I⟩ | ⟨ne1,r⟩
  .rcases zAS c with ⟨v,p,B⟩ | ⟨ne2,p⟩
   .exact F.symm.trans v
   .rw [<- F,zBO (by rw[h.len];exact I)] at g;cases g;rw[zB3 ne2] at l;exact(m ne2 p l).elim
  .rcases zAS c with ⟨v,p,B⟩ | ⟨ne2,p⟩
   .rw [<- v,zBO (by rw[h.len];exact B)] at l;cases l;rw[zB3 ne1] at g;exact(m ne1 r g).elim
   .rw [zB3 ne1] at g;rw[zB3 ne2] at l;exact h.inj j k y f b r p g l
def DS.setF (h:DS K H S σ G)(e:Same H H')(n:H a=none)(b:H' a=some (.lst vs))(t:DenL K (hide H' (a::S)) ds vs) :
  DS K H' (a::S) (σ.set i (some (.ref a))) (G.set i (some (.lst ds,true))):=h.setG e n b ⟨vs,rfl,t⟩
def DS.changeG (h:DS K H S σ G)(p:G[i]?=some (some (d,true)))(n:σ[i]?=some (some (.ref a)))(t:OwnO K (hide H S) e0 u) :
  DS K (upd H a u) S σ (G.set i (some (e0,true))):=by
 obtain⟨w,g,e⟩:=h.get i _ true p;obtain⟨b,O,m,s,P,_⟩:=e.own rfl;subst m;rw[n] at g;cases g;have A:hide (upd H a u) S=hide H S:=zFr s;refine⟨by rw[length_set];exact h.len,λb z=>?_,λj r o q=>?_,λj k r f b g e F J=>?_⟩
 .by_cases q:b=a
  .subst q;exact⟨_,zAW,t.mu⟩
  .rw [zAQ q];exact h.sok b z
 .rcases zAS q with ⟨rfl,z,M⟩ | ⟨ne,z⟩
  .cases z;exact⟨.ref a,n,.of_own s zAW (by rw[A];exact t)⟩
  .obtain ⟨w,g,e⟩:=h.get j r o z
   simp_all
   cases o with
   | true =>
    obtain⟨b,E,rfl,B,l,N⟩:=e.own rfl;exact .of_own B (by rw[zAQ (λz2=>by subst z2;exact ne (h.inj i j _ _ b p z n g))];exact l) (by simp_all)
   | false=>exact .of_den (by rw[A];exact e.den rfl)
 .have c:∀ {j:Nat} {x:D},(G.set i (some (e0,true)))[j]?=some (some (x,true))->∃ y,G[j]?=some (some (y,true)):=λ{j x} z=>by
   rcases zAS z with ⟨m,_,_⟩ | ⟨_,z⟩
   .rw [<- m];exact⟨_,p⟩
   .exact ⟨_,z⟩
  obtain⟨I,L⟩:=c g;obtain⟨C,z2⟩:=c e;exact h.inj j k I C b L z2 F J
def DS.change (h:DS K H S σ G)(b:G[i]?=some (some (.lst ds,true)))(c:σ[i]?=some (some (.ref a)))(t:DenL K (hide H S) es vs) :
  DS K (upd H a (.lst vs)) S σ (G.set i (some (.lst es,true))):=h.changeG b c ⟨vs,rfl,t⟩
def DS.freeze (h:DS K H S σ G)(t:G[i]?=some (some (d,true))):∃ S',(∀ b∈S',b∈S)/\DS K H S' σ (G.set i (some (d,false))):=by
 obtain⟨u,r,C⟩:=h.get i _ true t;obtain⟨a,w,rfl,E,B,x⟩:=C.own rfl;have sub:∀ b∈S.filter (λb=>decide (b≠a)),b∈S:=λb z=>(mem_filter.mp z).1
 refine⟨S.filter _,sub,?_⟩;have n:Same (hide H S) _:=zB2 sub;refine⟨by rw[length_set];exact h.len,λb z=>h.sok b (sub b z),λj g o q=>?_,λj k g f b m z2 y D=>?_⟩
 .rcases zAS q with ⟨rfl,z,F⟩ | ⟨ne,z⟩
  .cases z;exact⟨.ref a,r,.of_den ((x.mono n).den (by rw[zAO (λz=>by simpa using (mem_filter.mp z).2)];exact B))⟩
  .obtain ⟨u,s,p⟩:=h.get j g o z;refine⟨u,s,?_⟩;cases o with
   | true =>
    obtain⟨b,v,rfl,A,l,e⟩:=p.own rfl;exact .of_own (mem_filter.mpr ⟨A,by simpa using (λz2=>by subst z2;exact ne (h.inj i j _ _ b t z r s))⟩) l (e.mono n)
   | false=>exact .of_den ((p.den rfl).mono n)
 .rcases zAS m with ⟨_,z,_⟩ | ⟨_,m⟩
  .cases z
  .rcases zAS z2 with ⟨_,z,_⟩ | ⟨_,z2⟩
   .cases z
   .exact h.inj j k g f b m z2 y D
end
end DL
end
section
namespace DL
open PySem Spec PyProof.Rows L2
def gT (K:W.Frag)(f:Dst->Option R):TE:=fun σ H Q=>∃ S G r,DS K H S σ G/\f G=some r/\∀ v H',Same H H'->RV K H H' S r v->Q v H'
def gB (K:W.Frag)(f:Dst->Option Bool):TT:=fun σ H Q=>∃ S G b,DS K H S σ G/\f G=some b/\∀ H',Same H H'->Q b H'
def gA (K:W.Frag)(f:Dst->Option (List D)):TA:=fun σ H Q=>∃ S G ds,DS K H S σ G/\f G=some ds/\∀ vs H',Same H H'->DenL K (hide H' S) ds vs->Q vs H'
def GE (X:Cx)(e:Expr)(f:Dst->Option R):Prop:=PE X e (gT X.K f)
def GT (X:Cx)(e:Expr)(f:Dst->Option Bool):Prop:=PT X e (gB X.K f)
def GA (X:Cx)(es:List Expr)(f:Dst->Option (List D)):Prop:=PA X es (gA X.K f)
theorem _root_.L2.PE.imp (h:PE X e t)(i:∀ σ H Q,t' σ H Q->t σ H Q):PE X e t':=λpins s σ H Q I q=>h pins s σ H Q I (i σ H Q q)
theorem _root_.L2.PT.imp (h:PT X e t)(i:∀ σ H Q,t' σ H Q->t σ H Q):PT X e t':=λpins s σ H Q I q=>h pins s σ H Q I (i σ H Q q)
theorem _root_.L2.PA.imp (h:PA X e t)(i:∀ σ H Q,t' σ H Q->t σ H Q):PA X e t':=λpos pins s σ H Q I q=>h pos pins s σ H Q I (i σ H Q q)
def bind_some {O M:Type}{o:Option O}{f:O->Option M}{b:M}(h:(o.bind f)=some b):∃ a,o=some a/\f a=some b:=by
 cases o with
 | none=>cases h
 | some a=>exact⟨a,rfl,h⟩
section
variable {X:Cx}
def OpD (K:W.Frag)(r:R2)(o:D->D->Option R):Prop :=
 ∀ (S:List Addr) (H:Hp) (x y:D) (z:R) (vx vy:V) (Q:VK),(∀ a∈S,∃ xs:HO,H a=some xs/\MuB xs)->o x y=some z->Rdv K H S x vx->Rdv K H S y vy->(∀ v H',Same H H'->RV K H H' S z v->Q v H')->r vx vy H Q
noncomputable def two (f g:Dst->Option R)(o:D->D->Option R):Dst->Option R:=λG=>(f G).bind λx=>(g G).bind λy=>o x.1 y.1
def zH0 (h:OpD X.K r o){σ:St}(q:gT X.K (two f g o) σ H Q):tOp r (gT X.K f) (gT X.K g) σ H Q:=by
 obtain⟨S,G,z,d,e,c⟩:=q;obtain⟨x,l,e⟩:=bind_some e;obtain⟨y,m,e⟩:=bind_some e;refine⟨S,G,x,d,l,λvx p b r1=>⟨S,G,y,d.mono b,m,λvy j a r2=>?_⟩⟩;exact h S j x.1 y.1 z vx vy Q (d.mono (b.trans a)).sok e (r1.rd.mono a) r2.rd λv i k r3=>c v i (b.trans (a.trans k)) (r3.from (b.trans a))
def zI6 (d:OpR X (binaryOp op) r)(h:OpD X.K r o)(c:GE X a f)(e:GE X b g):GE X (.BinOp a op b pos) (two f g o) :=
 (zO3 d c e).imp λ_ _ _ q=>zH0 h q
noncomputable def asB (f:Dst->Option R):Dst->Option Bool:=λG=>match f G with
 | some (.bl b,_)=>some b
 | _=>none
def zCH (h:asB f G=some b):∃ k,f G=some (.bl b,k):=by
 unfold asB at h;split at h
 .simp_all
 .cases h
def zHX {σ:St}(q:gB X.K (asB f) σ H Q):gT X.K f σ H λx H'=>∃ k,x=.bl k/\Q k H':=by
 obtain⟨S,G,b,a,e,c⟩:=q;obtain⟨k,e⟩:=zCH e;refine⟨S,G,_,a,e,λv H' d r1=>⟨b,r1.rd.bl,c H' d⟩⟩
def zSR (e:OpR X (compareOp op) r)(h:OpD X.K r o)(d:behindInMarks op b=false)(c:GE X a f)(i:GE X b g):GT X (.Compare a [op] [b] pos) (asB (two f g o)) :=
 (zOz e c i d).imp λ_ _ _ q=>zH0 h (zHX q)
noncomputable def lstB:D->Bool
 | .lst _=>true
 | _=>false
noncomputable def varD (i:Nat):Dst->Option R:=λG=>match G[i]? with
 | some (some (d,o))=>if o=true then (if lstB d=true then some (d,.dt) else none) else some (d,.cl)
 | _=>none
def zSf (k:X.N[i]?=some x)(p:Vis X.env.scope x)(n:(x==("__debug__":Str))=false)(b:(x==("__classdict__":Str))=false) :
  GE X (.Name x pos) (varD i):=by
 refine(zDD k p n b).imp fun σ H Q q=>?_
 obtain⟨S,G,z,l,e,c⟩:=q;unfold varD at e;split at e
 .rename_i d o q;obtain⟨v,g,f⟩:=l.get i d o q;cases o with
  | false =>
   cases e;exact⟨v,g,c v H (Same.refl _) (f.den rfl)⟩
  | true =>
   rw[if_pos rfl] at e;cases d with
   | lst s =>
    cases e;refine⟨v,g,c v H (Same.refl _) ?_⟩;obtain⟨a,j,es,rfl,r,_,m,h⟩:=f.ownL rfl;exact⟨a,j,es,rfl,r,SqL.of m,h⟩
   | _=>cases e
 .cases e
def zD5 (h:PE X e (tC v))(a:∀ K H,Den K H d v):GE X e (λ_=>some (d,.cl)) :=
 h.imp fun σ H Q zz35=>by
  obtain⟨S,G,z,b,e,c⟩:=zz35;cases e;exact c v H (Same.refl _) (a _ _)
def ge_int {j pos}:GE X (.Constant (.int i) j pos) (λ_=>some (.int i,.cl)):=zD5 (λ_ _ _ H _ I h=>wpAny_Constant_int ⟨.int i,H,I.tok _,⟨_,rfl⟩,h⟩) λ_ _=>by rw[Den]
def zUk {j pos}:GE X (.Constant (.bool b) j pos) (λ_=>some (.bl b,.cl)):=zD5 (λ_ _ _ H _ I h=>Constant_bool ⟨.bl b,H,I,rfl,h⟩) λ_ _=>by rw[Den]
def zSk {j pos}:GE X (.Constant .none j pos) (λ_=>some (.non,.cl)):=zD5 (λ_ _ _ H _ I h=>Constant_none ⟨.non,H,I,rfl,h⟩) λ_ _=>by rw[Den]
def zSi {j pos}:GE X (.Constant (.str x) j pos) (λ_=>some (.str x,.cl)):=zD5 (λ_ _ _ H _ I h=>Calls.Constant_str ⟨.str x,H,I.tok _,⟨_,rfl⟩,h⟩) λ_ _=>by rw[Den]
def zP6 (b:Gl X x)(g:X.mg x=some u)(r:RelV v u)(f:Den X.K (λ_=>none) d v)(a:(x==("__debug__":Str))=false):GE X (.Name x pos) (λ_=>some (d,.cl)) :=
 (zJ4 b g r a).imp fun σ H Q zz36=>by
  obtain⟨S,G,z,h,e,c⟩:=zz36;cases e;exact c v H (Same.refl _) (f.mono λb o q=>by cases q)
def zHL {g:Int->Int->Int}(h:∀ x y z,o x y=some z->∃ i j,x=.int i/\y=.int j/\C i j/\z=(.int (g i j),.cl)):OpD X.K (rI C λi j=>.int (g i j)) o:=by
 intro S H x y z k f Q _ e d a c;obtain⟨i,j,rfl,rfl,b,rfl⟩:=h x y z e;exact⟨i,j,d.int,a.int,b,c _ H (Same.refl _) (.int _)⟩
def zMU {g:Int->Int->Int}(h:∀ x y z,o x y=some z->∃ i j,x=.int i/\y=.int j/\z=(.int (g i j),.cl)):OpD X.K (rI0 λi j=>.int (g i j)) o:=by
 intro S H x y z d f Q _ e a b c;obtain⟨i,j,rfl,rfl,rfl⟩:=h x y z e;exact⟨i,j,a.int,b.int,c _ H (Same.refl _) (.int _)⟩
def zBM {g:Int->Int->Bool}(h:∀ x y z,o x y=some z->∃ i j,x=.int i/\y=.int j/\z=(.bl (g i j),.cl)):OpD X.K (rI0 λi j=>.bl (g i j)) o:=by
 intro S H x y z f d Q _ e b a c;obtain⟨i,j,rfl,rfl,rfl⟩:=h x y z e;exact⟨i,j,b.int,a.int,c _ H (Same.refl _) (.bl _)⟩
def zPE:OpR X (binaryOp .Mult) (rI IntMulOk λi j=>.int (i*j)):=opI λ_ _ _ _ _ _ _ a q=>mul_int q a
def zJJ (_ j:Int):Prop:=j≠0
def zMV:OpR X (binaryOp .FloorDiv) (rI zJJ λi j=>.int (i.fdiv j)):=by
 intro a s σ H x y v u Q I c b h;obtain⟨i,j,rfl,rfl,d,q⟩:=h;obtain⟨t,rfl⟩:=c;obtain⟨f,rfl⟩:=b;exact floordiv_int d ⟨.int (i.fdiv j),H,I.tok _,⟨_,rfl⟩,q⟩ (.inr ((by obtain⟨h1,h2,e,l,h3,h4,h5,h6,h7⟩:=I.ok.pyl;exact PylongRoom.of I.nolimit h1 (SeerAt.of (I.mod.seer.keeps I.bk) h2 (by rw[I.ok.frames,h3]) h4 h5 h6 h7))))
def zGW (l:Addr)(items:Array Value)(n:Nat)(j:Option Addr)(sl:Array (Option Value))(b:Addr)(a:Array Value)(i:Nat)(c:Option Addr)(d:Array (Option Value))(f:items.size+a.size<=sizeLine) :
  Meets (Builtin.«list.__add__» ⟨[.ref l,.ref b],[]⟩) (λ_ R s=>s.heap.get? l=some { cls:=.type "list",dict:=j,data:=.seq items n,slots:=sl }/\s.heap.get? b=some { cls:=.type "list",dict:=c,data:=.seq a i,slots:=d }/\R (.ok (.ret (Value.ref s.heap.objs.size))) { s with heap:=s.heap.push { cls:=Value.type "list",data:=Data.seq (items++a) },toks:=s.toks }) :=
 .of_wp λprog w A R s h=>by obtain _:=s;obtain⟨g,e,h⟩:=h;have k:=AutoSeq1.sub_list_list;wp_walk using AutoSeq1.wpAny_loadPart' g,AutoSeq1.wpAny_loadPart' e;exact⟨_,rfl,h⟩
end
mutual
noncomputable def toPy:D->PyData
 | .non=>.none
 | .bl b=>.bool b
 | .int i=>.int i
 | .str x=>.str x
 | .tup ds=>.tuple (toPyL ds)
 | .lst ds=>.list (toPyL ds)
 | .exc _=>.str ⟨#[1114112]⟩
 | .dct _=>.str ⟨#[1114112]⟩
 | .lam _ _ _=>.str ⟨#[1114112]⟩
 | .obj _ _ _=>.str ⟨#[1114112]⟩
 | .fn _ _=>.str ⟨#[1114112]⟩
noncomputable def toPyL:List D->List PyData
 | []=>[]
 | d::ds=>toPy d::toPyL ds
end
theorem Rdv.whole {K:W.Frag}(h:Rdv K H S d v):Den K H d v:=by
 rcases h with h | ⟨a,vs,ds,rfl,rfl,h1,h2⟩
 .exact h.mono zAf
 .exact ⟨a,vs,rfl,h1,h2.mono zAf⟩
section
variable {X:Cx}{pins:List (Addr×Obj)}{σ:St}{H:Hp}{s:Shared}
mutual
theorem zDC (I:Inv X pins σ H s):∀ {d:D} {v:V} {u:Value},Den X.K H d v->RelV v u->(toPy d).canLay0=true->∃ as,Reads s.heap u (toPy d) as
 | .non,_,_,h,r,_=>by rw[Den] at h;subst h;cases r;rw[toPy];exact⟨_,.none⟩
 | .bl b,_,_,h,r,_=>by rw[Den] at h;subst h;cases r;rw[toPy];exact⟨_,.bool b⟩
 | .int i,_,_,h,r,_=>by rw[Den] at h;subst h;obtain⟨t,rfl⟩:=r;rw[toPy];exact⟨_,.int i t⟩
 | .str x,_,_,h,r,_=>by rw[Den] at h;subst h;obtain⟨t,rfl⟩:=r;rw[toPy];exact⟨_,.str x t⟩
 | .tup ds,_,_,h,r,cl=>by
  rw[toPy,PyData.canLay0] at cl;rw[Den] at h;obtain⟨a,vs,rfl,h1,h2⟩:=h;cases r;obtain⟨its,rv,⟨o,e1,e2,n,e3⟩,_⟩:=I.tuple h1;obtain⟨as,q⟩:=readsL_of I h2 rv cl;rw[toPy];exact⟨_,.tuple e1 e2 e3 q⟩
 | .exc c,_,_,h,r,cl=>by rw[toPy,PyData.canLay0] at cl;exact absurd cl (by decide +kernel)
 | .dct c,_,_,h,r,cl=>by rw[toPy,PyData.canLay0] at cl;exact absurd cl (by decide +kernel)
 | .lam _ _ _,_,_,h,r,cl=>by rw[toPy,PyData.canLay0] at cl;exact absurd cl (by decide +kernel)
 | .obj _ _ _,_,_,h,r,cl=>by rw[toPy,PyData.canLay0] at cl;exact absurd cl (by decide +kernel)
 | .fn _ _,_,_,h,r,cl=>by rw[toPy,PyData.canLay0] at cl;exact absurd cl (by decide +kernel)
 | .lst ds,_,_,h,r,cl=>by
  rw[toPy,PyData.canLay0] at cl;rw[Den] at h;obtain⟨a,vs,rfl,h1,h2⟩:=h;cases r;obtain⟨its,rv,⟨o,n,e1,e2,_,e3⟩,_⟩:=I.list h1;obtain⟨as,q⟩:=readsL_of I h2 rv cl;rw[toPy];exact⟨_,.list e1 e2 e3 q⟩
theorem readsL_of (I:Inv X pins σ H s):∀ {ds:List D} {vs:List V} {us:List Value},DenL X.K H ds vs->Vals vs us->PyData.canLayAll0 (toPyL ds)=true->∃ as,ReadsAll s.heap us (toPyL ds) as
 | [],_,_,h,r,_=>by rw[DenL] at h;subst h;cases r;rw[toPyL];exact⟨_,.nil⟩
 | d::ds,_,_,h,r,cl=>by
  rw[toPyL,PyData.canLayAll0,x8] at cl;rw[DenL] at h;obtain⟨v,ws,rfl,h1,h2⟩:=h;cases r with
  | cons r1 r2 =>
   obtain⟨a1,q1⟩:=zDC I h1 r1 cl.1;obtain⟨a2,q2⟩:=readsL_of I h2 r2 cl.2;rw[toPyL];exact⟨_,.cons q1 q2⟩
end
end
def EqOk (x y:D):Prop:=(toPy x).canLay0=true/\(toPy y).canLay0=true/\(toPy x).depth<=64
noncomputable instance (x y:D):Decidable (EqOk x y):=by unfold EqOk;exact inferInstance
noncomputable def eqb (x y:D):Bool:=PyData.eqv (toPy x) (toPy y)
def rEqD (K:W.Frag)(f:Bool->Bool):R2:=λvx vy H Q=>∃ x y,Den K H x vx/\Den K H y vy/\EqOk x y/\Q (.bl (f (eqb x y))) H
section
variable {X:Cx}
def eqD (f:Bool->Bool)(x y:D):Option R:=if EqOk x y then some (.bl (f (eqb x y)),.cl) else none
def zN8 :OpD X.K (rEqD X.K f) (eqD f):=by
 intro S H x y z g d Q _ e b a c;unfold eqD at e;by_cases ok:EqOk x y
 .rw [if_pos ok] at e;cases e;exact⟨x,y,b.whole,a.whole,ok,c _ H (Same.refl _) (.bl _)⟩
 .simp_all
noncomputable def nonB:D->Bool
 | .non=>true
 | _=>false
noncomputable def isN (f:Bool->Bool)(x y:D):Option R:=match y with
 | .non=>some (.bl (f (nonB x)),.cl)
 | _=>none
def zLa {K:W.Frag}(h:Den K H x v):decide (v=.non)=nonB x:=by
 cases x with
 | non=>rw[Den] at h;subst h;rfl
 | bl b=>rw[Den] at h;subst h;rfl
 | int i=>rw[Den] at h;subst h;rfl
 | str i=>rw[Den] at h;subst h;rfl
 | tup f=>rw[Den] at h;obtain⟨a,d,rfl,_⟩:=h;rfl
 | lst f=>rw[Den] at h;obtain⟨a,d,rfl,_⟩:=h;rfl
 | exc c=>rw[Den] at h;obtain⟨a,o,u,C,rfl,_⟩:=h;rfl
 | dct c=>rw[Den] at h;obtain⟨a,e,rfl,_⟩:=h;rfl
 | lam _ _ _=>rw[Den] at h;obtain⟨a,d,rfl,_⟩:=h;rfl
 | obj _ _ _=>rw[Den] at h;obtain⟨a,d,rfl,_⟩:=h;rfl
 | fn _ _=>rw[Den] at h;obtain⟨a,rfl,_⟩:=h;rfl
def zPA:OpD X.K (λx y H Q=>y=.non/\Q (.bl (decide (x=.non))) H) (isN id):=by
 intro S H x y z d f Q _ e a b c;cases y with
 | non =>
  cases e;exact⟨b.whole,by rw[zLa a.whole];exact c _ H (Same.refl _) (.bl _)⟩
 | _=>cases e
def zMT:OpD X.K (λx y H Q=>y=.non/\Q (.bl (!decide (x=.non))) H) (isN (λb=>!b)):=by
 intro S H x y z f d Q _ e b a c;cases y with
 | non =>
  cases e;exact⟨a.whole,by rw[zLa b.whole];exact c _ H (Same.refl _) (.bl _)⟩
 | _=>cases e
theorem DenL.atI {K:W.Frag}(h:DenL K H ds vs)(e:atI ds i=some d):∃ v,L2.atI vs i=some v/\Den K H d v:=by
 unfold L2.atI at e ⊢;obtain⟨j,e1,e2⟩:=bind_some e;obtain⟨v,q1,q2⟩:=h.get e2;refine⟨v,?_,q2⟩;rw[<- h.length,e1];exact q1
noncomputable def ixD (x y:D):Option R:=match x,y with
 | .lst ds,.int i=>(atI ds i).map λd=>(d,.cl)
 | .tup ds,.int i=>(atI ds i).map λd=>(d,.cl)
 | _,_=>none
def zRg:OpD X.K (λx y H Q=>rIxL X.K x y H Q\/rIxT X.K x y H Q) ixD:=by
 intro S H x y z n m Q _ e k j c;unfold ixD at e;split at e
 .rename_i l i;obtain⟨d,h,rfl⟩:=x9.mp e;obtain⟨a,g,rfl,h1,h2⟩:=k.lst;obtain⟨v,f,b⟩:=h2.atI h;exact .inl ⟨a,g,i,v,rfl,j.int,h1,f,c v H (Same.refl _) b⟩
 .rename_i l i;obtain⟨d,h,rfl⟩:=x9.mp e;obtain⟨a,g,rfl,h1,h2⟩:=k.tup;obtain⟨v,f,b⟩:=h2.atI h;exact .inr ⟨a,g,i,v,rfl,j.int,h1,f,c v H (Same.refl _) b⟩
 .cases e
def zUh (c:GE X a f)(e:GE X b g)(d:zF8 b):GE X (.Subscript a b pos) (two f g ixD) :=
 (zRa (zKk.or zOI) c e d).imp λ_ _ _ q=>zH0 zRg q
def zSz:GA X [] (λ_=>some []):=zA2.imp fun σ H Q zz37=>by
 obtain⟨S,G,z,a,e,c⟩:=zz37;cases e;exact c [] H (Same.refl _) .nil
noncomputable def zNW (f:Dst->Option R)(g:Dst->Option (List D)):Dst->Option (List D):=λG=>(f G).bind λx=>if x.2=.dt then none else (g G).bind λxs=>some (x.1::xs)
def zQE (p:GE X e f)(l:GA X es g)(m:starEach (e::es) X.env=(false,eval e X.env)::starEach es X.env):GA X (e::es) (zNW f g):=by
 refine(zAU p l m).imp fun σ H Q zz38=>?_
 obtain⟨S,G,z,b,e,c⟩:=zz38;obtain⟨x,o,e⟩:=bind_some e;by_cases hx:x.2=.dt
 .rw [if_pos hx] at e;cases e
 rw[if_neg hx] at e;obtain⟨j,a,e⟩:=bind_some e;cases e;refine⟨S,G,x,b,o,λv q i r1=>⟨S,G,j,b.mono i,a,λvs n h r2=>?_⟩⟩;exact c _ n (i.trans h) (.cons ((RV.den (d:=x.1) (k:=x.2) r1 hx).mono (zAP h)) r2)
noncomputable def tupD (g:Dst->Option (List D)):Dst->Option R:=λG=>(g G).bind λxs=>if xs.length<=10000 then some (.tup xs,.cl) else none
noncomputable def lstD (g:Dst->Option (List D)):Dst->Option R:=λG=>(g G).bind λxs=>if xs.length<=10000 then some (.lst xs,.fr) else none
def zDB (h:n<=10000):n<=sizeLine:=le_trans h (by decide)
def notS {H:Hp}{S:List Addr}(h:∀ a∈S,∃ xs:HO,H a=some xs/\MuB xs)(n:H p=none):p∉S:=by grind
theorem RV.tupNew {K:W.Frag}(hS:∀ a∈S,∃ xs:HO,H1 a=some xs/\MuB xs)(n:H1 p=none)(t:DenL K (hide H1 S) ds vs):RV K H (upd H1 p (.tup vs)) S (.tup ds,.cl) (.ref p):=⟨p,vs,rfl,SqT.of (by rw[zAO (notS hS n)];exact zAW),t.mono (zAP (zAX n _))⟩
theorem RV.lstNew {K:W.Frag}(e:Same H H1)(hS:∀ a∈S,∃ xs:HO,H1 a=some xs/\MuB xs)(n:H1 p=none)(t:DenL K (hide H1 S) ds vs):RV K H (upd H1 p (.lst vs)) S (.lst ds,.fr) (.ref p) :=
 ⟨p,vs,ds,rfl,rfl,notS hS n,e.free n,zAW,t.mono (zD4 (zAX n _) n)⟩
def zSg {x1}(h:GA X es g):GE X (.Tuple es x1 pos) (tupD g):=by
 refine(zRV h).imp fun σ H Q zz39=>?_
 obtain⟨S,G,z,d,e,c⟩:=zz39;obtain⟨b,a,e⟩:=bind_some e;by_cases hx:b.length<=10000
 .rw [if_pos hx] at e;cases e;refine⟨S,G,b,d,a,λvs i f r1=>⟨by rw[<- r1.length];exact zDB hx,λp n=>?_⟩⟩;exact c _ _ (f.trans (zAX n _)) (.tupNew (d.mono f).sok n r1)
 .rw [if_neg hx] at e;cases e
def zSm (h:GA X es g):GE X (.List es pos) (lstD g):=by
 refine(zN6 h).imp fun σ H Q zz40=>?_
 obtain⟨S,G,z,f,e,c⟩:=zz40;obtain⟨d,b,e⟩:=bind_some e;by_cases hx:d.length<=10000
 .rw [if_pos hx] at e;cases e;refine⟨S,G,d,f,b,λvs i a r1=>⟨by rw[<- r1.length];exact zDB hx,λp n=>?_⟩⟩;exact c _ _ (a.trans (zAX n _)) (.lstNew a (f.mono a).sok n r1)
 .rw [if_neg hx] at e;cases e
end
section
variable {X:Cx}
noncomputable def notD (f:Dst->Option R):Dst->Option R:=λG=>(asB f G).bind λb=>some (.bl (!b),.cl)
theorem zHY {σ:St}(ds:DS X.K H S σ G)(e:asB f G=some b)(c:∀ H',Same H H'->Q (.bl b) H'):gT X.K f σ H Q:=by
 obtain⟨k,e⟩:=zCH e;exact⟨S,G,_,ds,e,λv H' s1 r1=>by rw[r1.rd.bl];exact c H' s1⟩
def zSj (h:GE X a f):GE X (.UnaryOp .Not a pos) (notD f):=by
 refine(zRY h).imp fun σ H Q zz41=>?_
 obtain⟨S,G,z,g,e,c⟩:=zz41;obtain⟨b,d,e⟩:=bind_some e;cases e;exact zHY g d λH' i=>⟨b,rfl,c _ H' i (.bl _)⟩
def zQq (h:asB (notD f) G=some b):asB f G=some (!b):=by
 obtain⟨k,e⟩:=zCH h;obtain⟨c,a,e⟩:=bind_some e
 simp_all
def zSP (h:GT X a (asB f)):GT X (.UnaryOp .Not a pos) (asB (notD f)) :=
 (zN3 h).imp fun σ H Q zy131=>by obtain⟨S,G,b,g,e,c⟩:=zy131;exact⟨S,G,!b,g,zQq e,λH' i=>by show Q (!!b) H';rw[Bool.not_not];exact c H' i⟩
noncomputable def andD (f g:Dst->Option R):Dst->Option R:=λG=>(asB f G).bind λb=>if b=true then g G else some (.bl false,.cl)
noncomputable def orD (f g:Dst->Option R):Dst->Option R:=λG=>(asB f G).bind λb=>if b=true then some (.bl true,.cl) else g G
def zSu (j:GE X a f)(m:GE X (.BoolOp .And (b::rest) pos) g):GE X (.BoolOp .And (a::b::rest) pos) (andD f g):=by
 refine(zRd j m).imp fun σ H Q zz42=>?_
 obtain⟨S,G,z,h,e,c⟩:=zz42;obtain⟨b,l,e⟩:=bind_some e;refine zHY h l λH1 d=>⟨b,rfl,?_⟩
 cases b with
 | true =>
  rw[if_pos rfl] at e ⊢;exact⟨S,G,z,h.mono d,e,λv k i r2=>c v k (d.trans i) (r2.from d)⟩
 | false =>
  rw[if_neg qX] at e ⊢;cases e;exact c _ H1 d (.bl _)
def zUg (i:GE X a f)(l:GE X (.BoolOp .Or (b::rest) pos) g):GE X (.BoolOp .Or (a::b::rest) pos) (orD f g):=by
 refine(zUB i l).imp fun σ H Q zz43=>?_
 obtain⟨S,G,z,h,e,c⟩:=zz43;obtain⟨b,k,e⟩:=bind_some e;refine zHY h k λH1 d=>⟨b,rfl,?_⟩
 cases b with
 | true =>
  rw[if_pos rfl] at e ⊢;cases e;exact c _ H1 d (.bl _)
 | false =>
  rw[if_neg qX] at e ⊢;exact⟨S,G,z,h.mono d,e,λv j m r2=>c v j (d.trans m) (r2.from d)⟩
def zON {op}(h:GE X a f):GE X (.BoolOp op [a] pos) f:=(by assumption)
def GW (X:Cx)(e:Expr)(f:Dst->Option Bool):Prop:=PW X e (gB X.K f)
theorem _root_.L2.PW.imp (h:PW X e t)(i:∀ σ H Q,t' σ H Q->t σ H Q):PW X e t':=λwhole pins s σ H Q I q=>h whole pins s σ H Q I (i σ H Q q)
def zQr (h:asB (andD f g) G=some b):(asB f G=some true/\asB g G=some b)\/(asB f G=some false/\b=false):=by
 obtain⟨k,e⟩:=zCH h;obtain⟨c,a,e⟩:=bind_some e;cases c with
 | true =>
  rw[if_pos rfl] at e;exact .inl ⟨a,by unfold asB;rw[e]⟩
 | false =>
  grind
def zTk (h:asB (orD f g) G=some b):(asB f G=some false/\asB g G=some b)\/(asB f G=some true/\b=true):=by
 obtain⟨k,e⟩:=zCH h;obtain⟨c,a,e⟩:=bind_some e;cases c with
 | true =>
  grind
 | false =>
  rw[if_neg qX] at e;exact .inl ⟨a,by unfold asB;rw[e]⟩
def zSM (k:GT X a (asB f))(m:GW X (.BoolOp .And (b::rest) pos) (asB g)):GW X (.BoolOp .And (a::b::rest) pos) (asB (andD f g)):=by
 refine PW.imp (zN1 k m) fun σ H Q zz44=>?_
 obtain⟨S,G,b,i,e,c⟩:=zz44;rcases zQr e with ⟨h,j⟩ | ⟨h,rfl⟩
 .refine ⟨S,G,true,i,h,λH1 d=>?_⟩;refine iteT ?_;exact⟨S,G,b,i.mono d,j,λH' l=>c H' (d.trans l)⟩
 .refine ⟨S,G,false,i,h,λH1 d=>?_⟩;refine iteF ?_;exact c H1 d
def zUa (l:GT X a (asB f))(k:GW X (.BoolOp .Or (b::rest) pos) (asB g)):GW X (.BoolOp .Or (a::b::rest) pos) (asB (orD f g)):=by
 refine PW.imp (zRQ l k) fun σ H Q zz45=>?_
 obtain⟨S,G,b,h,e,c⟩:=zz45;rcases zTk e with ⟨i,m⟩ | ⟨i,rfl⟩
 .refine ⟨S,G,false,h,i,λH1 d=>?_⟩;refine iteF ?_;exact⟨S,G,b,h.mono d,m,λH' j=>c H' (d.trans j)⟩
 .refine ⟨S,G,true,h,i,λH1 d=>?_⟩;refine iteT ?_;exact c H1 d
noncomputable def iteD (c f g:Dst->Option R):Dst->Option R:=λG=>(asB c G).bind λb=>if b=true then f G else g G
def zSn (l:GT X c (asB k))(m:GE X a f)(o:GE X b g):GE X (.IfExp c a b pos) (iteD k f g):=by
 refine(zMP l m o).imp fun σ H Q zz46=>?_
 obtain⟨S,G,z,i,e,c⟩:=zz46;obtain⟨b,n,e⟩:=bind_some e;refine⟨S,G,b,i,n,λH1 d=>?_⟩;cases b with
 | true =>
  rw[if_pos rfl] at e ⊢;exact⟨S,G,z,i.mono d,e,λv j h r2=>c v j (d.trans h) (r2.from d)⟩
 | false =>
  rw[if_neg qX] at e ⊢;exact⟨S,G,z,i.mono d,e,λv j h r2=>c v j (d.trans h) (r2.from d)⟩
def zSQ (w:GT X c (asB k))(r:GT X a (asB f))(x:GT X b (asB g)):GT X (.IfExp c a b pos) (asB (iteD k f g)):=by
 intro h s σ H Q I ⟨S,G,z,n,e,p⟩;obtain⟨A,e⟩:=zCH e;obtain⟨b,v,e⟩:=bind_some e;refine isTrue_IfExp (thn (w h s σ H (λb' j=>b'=b/\Same H j) I ⟨S,G,b,n,v,λH1 m=>⟨rfl,m⟩⟩) λd m i=>?_);obtain⟨j,q,u,l⟩:=i;subst u;cases d with
 | true =>
  rw[if_pos rfl] at e;exact r h m σ j Q q ⟨S,G,z,n.mono l,by unfold asB;rw[e],λH' o=>p H' (l.trans o)⟩
 | false =>
  rw[if_neg qX] at e;exact x h m σ j Q q ⟨S,G,z,n.mono l,by unfold asB;rw[e],λH' o=>p H' (l.trans o)⟩
noncomputable def negD (f:Dst->Option R):Dst->Option R:=λG=>match f G with
 | some (.int i,_)=>some (.int (-i),.cl)
 | _=>none
def zSl (h:GE X a f):GE X (.UnaryOp .USub a pos) (negD f):=by
 refine(zUA (unI λ_ _ _ _ _ q=>neg_int q) h).imp fun σ H Q zz48=>?_
 obtain⟨S,G,z,d,e,c⟩:=zz48;unfold negD at e;split at e
 .rename_i i k g;cases e;exact⟨S,G,_,d,g,λv b j r1=>⟨i,r1.rd.int,c _ b j (.int _)⟩⟩
 .cases e
noncomputable def cutD (ds:List D)(lo hi:Option Int):List D:=(ds.drop (HT.sIx ds.length 0 lo)).take (HT.sIx ds.length ds.length hi - HT.sIx ds.length 0 lo)
def DenL.cut {K:W.Frag}(h:DenL K H ds vs)(b a:Option Int):DenL K H (cutD ds b a) (cutV vs b a):=by
 unfold cutD cutV;rw[<- h.length];exact(h.drop _).take _
def gO (K:W.Frag)(f:Dst->Option (Option Int)):TO:=fun σ H Q=>∃ S G o,DS K H S σ G/\f G=some o/\∀ H',Same H H'->Q o H'
def GO (X:Cx)(e:Option Expr)(f:Dst->Option (Option Int)):Prop:=PO X e (gO X.K f)
theorem _root_.L2.PO.imp (h:PO X e t)(i:∀ σ H Q,t' σ H Q->t σ H Q):PO X e t':=λpins s σ H Q I q=>h pins s σ H Q I (i σ H Q q)
noncomputable def zJ9 (f:Dst->Option R):Dst->Option (Option Int):=λG=>match f G with
 | some (.int i,_)=>some (some i)
 | _=>none
def zPw (h:GE X e f):GO X (some e) (zJ9 f):=PO.imp (zHG h) fun σ H Q zz49=>by
 obtain⟨S,G,o,g,e,c⟩:=zz49;unfold zJ9 at e;split at e
 .rename_i i k a;cases e;exact⟨S,G,_,g,a,λv b d r1=>⟨i,r1.rd.int,c b d⟩⟩
 .cases e
noncomputable def slD (f:Dst->Option R)(l h:Dst->Option (Option Int)):Dst->Option R:=λG=>(f G).bind λx=>(l G).bind λlo=>(h G).bind λhi=>match x.1 with
 | .lst ds=>some (.lst (cutD ds lo hi),.fr)
 | .tup ds=>if HT.sIx ds.length 0 lo=0/\HT.sIx ds.length ds.length hi=ds.length then none else some (.tup (cutD ds lo hi),.cl)
 | _=>none
def zUf {r:Option Expr}(w:GE X a f)(y:GO X r l)(v:GO X hi h):GE X (.Subscript a (.Slice r hi none p2) pos) (slD f l h):=by
 refine(zFi (zG4.or zRF) w y v).imp fun σ H Q zz50=>?_
 obtain⟨S,G,z,i,e,c⟩:=zz50;obtain⟨x,q,e⟩:=bind_some e;obtain⟨d,t,e⟩:=bind_some e;obtain⟨g,s,e⟩:=bind_some e;split at e
 .rename_i es m;cases e;refine⟨S,G,x,i,q,λvx A j r1=>⟨S,G,d,i.mono j,t,λH2 k=>⟨S,G,g,i.mono (j.trans k),s,λH3 o=>?_⟩⟩⟩;have r3:=r1.rd.mono (k.trans o);rw[m] at r3;obtain⟨a,p,rfl,h1,h2⟩:=r3.lst;have b:=j.trans (k.trans o);exact .inl ⟨a,p,rfl,h1,λp n=>c _ _ (b.trans (zAX n _)) (.lstNew b (i.mono b).sok n (h2.cut d g))⟩
 .rename_i es m;split at e
  .cases e
  .rename_i u;cases e;refine⟨S,G,x,i,q,λvx A j r1=>⟨S,G,d,i.mono j,t,λH2 k=>⟨S,G,g,i.mono (j.trans k),s,λH3 o=>?_⟩⟩⟩;have r3:=r1.rd.mono (k.trans o);rw[m] at r3;obtain⟨a,p,rfl,h1,h2⟩:=r3.tup;have b:=j.trans (k.trans o);exact .inr ⟨a,p,rfl,h1,by rw[<- h2.length];exact u,λp n=>c _ _ (b.trans (zAX n _)) (.tupNew (i.mono b).sok n (h2.cut d g))⟩
 .cases e
def OpD1 (K:W.Frag)(r:List V->Hp->VK->Prop)(o:D->Option R):Prop :=
 ∀ (S:List Addr) (H:Hp) (x:D) (z:R) (vx:V) (Q:VK),(∀ a∈S,∃ xs:HO,H a=some xs/\MuB xs)->o x=some z->Rdv K H S x vx->(∀ v H',Same H H'->RV K H H' S z v->Q v H')->r [vx] H Q
noncomputable def one (f:Dst->Option R)(o:D->Option R):Dst->Option R:=λG=>(f G).bind λx=>o x.1
def zN9 (h:OpD1 X.K r o){σ:St}(q:gT X.K (one f o) σ H Q):tCB r (zQ9 (gT X.K f) tNil) σ H Q:=by
 obtain⟨S,G,z,b,e,c⟩:=q;obtain⟨x,j,e⟩:=bind_some e;exact⟨S,G,x,b,j,λvx i a r1=>h S i x.1 z vx Q (b.mono a).sok e r1.rd λv d g r2=>c v d (a.trans g) (r2.from a)⟩
def zSt {c:String}(i:zDh X (.builtin c) r)(h:OpD1 X.K r o)(l:Gl X x)(g:X.mg x=none)(d:bootBuiltins x=some (.builtin c))(j:GE X e f)
  (b:starEach [e] X.env=[(false,eval e X.env)]) (k:x ≠ "__name__") (a:(x==("__debug__":Str))=false):GE X (.Call (.Name x p) [e] [] pos) (one f o) :=
 (zD0 i l g d (zAU j zA2 b) k a b rfl).imp λ_ _ _ q=>zN9 h q
def zSh (i:zDh X (.type T) r)(h:OpD1 X.K r o)(d:Gl X x)(k:X.mg x=none)(j:bootBuiltins x=some (.type T))(c:GE X e f)
  (b:starEach [e] X.env=[(false,eval e X.env)]) (g:x ≠ "__name__") (a:(x==("__debug__":Str))=false):GE X (.Call (.Name x p) [e] [] pos) (one f o) :=
 (zEC i d k j (zAU c zA2 b) g a b rfl).imp λ_ _ _ q=>zN9 h q
noncomputable def lenD:D->Option R
 | .lst ds=>some (.int ds.length,.cl)
 | .tup ds=>some (.int ds.length,.cl)
 | _=>none
def zO9:OpD1 X.K (λxs H Q=>∃ p ys,xs=[.ref p]/\(SqL X.K H p ys\/SqT X.K H p ys)/\Q (.int ys.length) H) lenD:=by
 intro S H x z f Q _ e d c;unfold lenD at e;split at e
 .cases e;obtain⟨a,b,rfl,h1,h2⟩:=d.lst;exact⟨a,b,rfl,.inl h1,by rw[<- h2.length];exact c _ H (Same.refl _) (.int _)⟩
 .cases e;obtain⟨a,b,rfl,h1,h2⟩:=d.tup;exact⟨a,b,rfl,.inr h1,by rw[<- h2.length];exact c _ H (Same.refl _) (.int _)⟩
 .cases e
noncomputable def absD:D->Option R
 | .int i=>some (.int (if i < 0 then -i else i),.cl)
 | _=>none
def zPC:OpD1 X.K (λxs H Q=>∃ i,xs=[.int i]/\Q (.int (if i < 0 then -i else i)) H) absD:=by
 intro S H x z b Q _ e a c;unfold absD at e;split at e
 .cases e;rename_i i;have:=a.int;subst this;exact⟨i,rfl,c _ H (Same.refl _) (.int _)⟩
 .cases e
noncomputable def zI1:D->Option R
 | .lst ds=>some (.lst ds,.fr)
 | .tup ds=>some (.lst ds,.fr)
 | _=>none
def zMS:OpD1 X.K (λxs H Q=>∃ p ys,xs=[.ref p]/\(SqL X.K H p ys\/SqT X.K H p ys)/\∀ l,H l=none->Q (.ref l) (upd H l (.lst ys))) zI1:=by
 intro S H x z g Q b e f c;unfold zI1 at e;split at e
 .cases e;obtain⟨a,d,rfl,h1,h2⟩:=f.lst;exact⟨a,d,rfl,.inl h1,λp n=>c _ _ (zAX n _) (.lstNew (Same.refl _) b n h2)⟩
 .cases e;obtain⟨a,d,rfl,h1,h2⟩:=f.tup;exact⟨a,d,rfl,.inr h1,λp n=>c _ _ (zAX n _) (.lstNew (Same.refl _) b n h2)⟩
 .cases e
def zUl {l:String}{k:Int->Int->Int}(I:zDh X (.builtin l) (λxs H Q=>∃ i j,xs=[.int i,.int j]/\Q (.int (k i j)) H))
  (h:∀ x y z,o x y=some z->∃ i j,x=.int i/\y=.int j/\z=(.int (k i j),.cl)) (s:Gl X x) (C:X.mg x=none) (w:bootBuiltins x=some (.builtin l)) (D:GE X e1 f) (t:GE X e2 g)
  (n:starEach [e1,e2] X.env=(false,eval e1 X.env)::starEach [e2] X.env) (a:starEach [e2] X.env=[(false,eval e2 X.env)]) (E:x ≠ "__name__") (b:(x==("__debug__":Str))=false):GE X (.Call (.Name x p) [e1,e2] [] pos) (two f g o):=by
 refine(zD0 I s C w (zAU D (zAU t zA2 a) n) E b n (by rw[a];rfl)).imp fun σ H Q zz51=>?_
 obtain⟨S,G,z,r,e,c⟩:=zz51;obtain⟨x,v,e⟩:=bind_some e;obtain⟨y,F,e⟩:=bind_some e;obtain⟨i,j,J,B,rfl⟩:=h _ _ _ e;refine⟨S,G,x,r,v,λvx K d r1=>⟨S,G,y,r.mono d,F,λvy u A r2=>⟨i,j,?_,c _ u (d.trans A) (.int _)⟩⟩⟩;have m:=r1.rd;have q:=r2.rd;rw[J] at m;rw[B] at q;rw[m.int,q.int]
noncomputable def maxD (x y:D):Option R:=match x,y with
 | .int i,.int j=>some (.int (if j>i then j else i),.cl)
 | _,_=>none
inductive Ty where
 | int | bool | str | tuple | list
 deriving DecidableEq
noncomputable def Ty.nm:Ty->String
 | .int => "int" | .bool => "bool" | .str => "str" | .tuple => "tuple" | .list => "list"
noncomputable def isiD (t:Ty):D->Bool
 | .non=>false
 | .bl _=>t=.bool||t=.int
 | .int _=>t=.int
 | .str _=>t=.str
 | .tup _=>t=.tuple
 | .lst _=>t=.list
 | .exc _=>false
 | .dct _=>false
 | .lam _ _ _=>false
 | .obj _ _ _=>false
 | .fn _ _=>false
noncomputable def excB:D->Bool
 | .exc _=>true
 | .dct _=>true
 | .lam _ _ _=>true
 | .obj _ _ _=>true
 | .fn _ _=>true
 | _=>false
noncomputable def tyD:D->String
 | .non => "NoneType" | .bl _ => "bool" | .int _ => "int" | .str _ => "str" | .tup _ => "tuple" | .lst _ => "list" | .exc _ => "" | .dct _ => "" | .lam _ _ _ => "" | .obj _ _ _ => "" | .fn _ _ => ""
def zSD (K:W.Frag)(d:D)(t:Ty)(a:excB d=false):W.kitOne K (.type (tyD d)) (.type t.nm)=some (isiD t d):=by
 cases d<;>cases t<;>first | rfl | decide +kernel | cases a
def zNb (t:Ty):zDh X (.builtin "isinstance") (λxs H Q=>∃ v d,xs=[v,.ty t.nm]/\Den X.K H d v/\excB d=false/\Q (.bl (isiD t d)) H):=by
 intro j s σ H xs us Q I r h;obtain⟨v,d,rfl,f,g,q⟩:=h;obtain⟨u,E,rfl,r1,r2⟩:=zL6 r;cases r2;have k:=zSD X.K d t g;have e:∀ tk,EP X j σ Q _ { s with toks:=tk }:=λtk=>⟨.bl _,H,I.tok tk,rfl,q⟩
 cases d with
 | exc c=>cases g
 | dct c=>cases g
 | lam _ _ _=>cases g
 | obj _ _ _=>cases g
 | fn _ _=>cases g
 | non=>rw[Den] at f;subst f;cases r1;exact W.kia_one W.kitx_none I.kIn True.intro k (λz=>nomatch z) e
 | bl b=>rw[Den] at f;subst f;cases r1;exact W.kia_one W.kitx_bool I.kIn True.intro k (λz=>nomatch z) e
 | int i=>rw[Den] at f;subst f;obtain⟨B,rfl⟩:=r1;exact W.kia_one W.kitx_int I.kIn True.intro k (λz=>nomatch z) e
 | str i=>rw[Den] at f;subst f;obtain⟨B,rfl⟩:=r1;exact W.kia_one W.kitx_str I.kIn True.intro k (λz=>nomatch z) e
 | tup A =>
  obtain⟨a,y,rfl,h1,h2⟩:=f;cases r1;obtain⟨p,D,⟨o,m,w,n,C⟩,_⟩:=I.tuple h1;exact W.kia_one W.kitx_tuple I.kIn ⟨o,m,w⟩ k (λz=>nomatch z) e
 | lst A =>
  obtain⟨a,y,rfl,h1,h2⟩:=f;cases r1;obtain⟨p,D,⟨o,n,m,w,_,C⟩,_⟩:=I.list h1;exact W.kia_one W.kitx_list I.kIn ⟨o,m,w⟩ k (λz=>nomatch z) e
noncomputable def isiF (t:Ty)(x:D):Option R:=if excB x=true then none else some (.bl (isiD t x),.cl)
def zRv (t:Ty):(Str.ofString t.nm)≠("__name__":Str)/\((Str.ofString t.nm)==("__debug__":Str))=false:=by cases t<;>decide +kernel
def zSp (j:Gl X "isinstance")(l:X.mg "isinstance"=none)(b:Gl X (Str.ofString t.nm))(a:X.mg (Str.ofString t.nm)=none)(i:GE X e f)
  (d:starEach [e,.Name (Str.ofString t.nm) p2] X.env=(false,eval e X.env)::starEach [.Name (Str.ofString t.nm) p2] X.env):GE X (.Call (.Name "isinstance" p) [e,.Name (Str.ofString t.nm) p2] [] pos) (one f (isiF t)):=by
 refine(zD0 (zNb t) j l boot_isinstance (zAU i (zAU (zO6 b a ((by cases t<;>decide +kernel)) (v:=.ty t.nm) rfl (zRv t).1 (zRv t).2) zA2 rfl) d) (by decide) (by decide) d rfl).imp fun σ H Q zz52=>?_
 obtain⟨S,G,z,g,e,c⟩:=zz52;obtain⟨x,k,e⟩:=bind_some e;unfold isiF at e;by_cases hx:excB x.1=true
 .rw [if_pos hx] at e;cases e
 .rw [if_neg hx] at e;cases e;exact⟨S,G,x,g,k,λvx h m r1=>⟨vx,x.1,rfl,r1.rd.whole,by simpa using hx,c _ h m (.bl _)⟩⟩
def spD (K:W.Frag)(F:List D->Option R):Sp:=λvs H Q _=>∃ S ds r,(∀ a∈S,∃ xs:HO,H a=some xs/\MuB xs)/\DenL K (hide H S) ds vs/\F ds=some r/\r.2≠.dt/\∀ v H',Same H H'->RV K H H' S r v->Q v H'
def spD0 (K:W.Frag)(F:List D->Option R):Sp:=λvs H Q _=>∃ ds r,DenL K H ds vs/\F ds=some r/\r.2≠.dt/\∀ v H',Same H H'->RV K H H' [] r v->Q v H'
noncomputable def zJD (F:List D->Option R)(g:Dst->Option (List D)):Dst->Option R:=λG=>(g G).bind λds=>(F ds).bind λr=>if r.2=.dt then none else some r
def zIZ {σ:St}(q:gT X.K (zJD F g) σ H Q):zMA (spD X.K F) [] E0 (gA X.K g) σ H Q:=by
 obtain⟨S,G,z,b,e,c⟩:=q;obtain⟨d,j,e⟩:=bind_some e;obtain⟨r,f,e⟩:=bind_some e;by_cases hr:r.2=.dt
 .rw [if_pos hr] at e;cases e
 rw[if_neg hr] at e;cases e;refine⟨S,G,d,b,j,λvs k a r1=>?_⟩;show spD X.K F (vs++[]) k Q E0;rw[append_nil];exact⟨S,d,_,(b.mono a).sok,r1,f,hr,λv h i r2=>c v h (a.trans i) (r2.from a)⟩
def gAL (K:W.Frag)(f:Dst->Option (List D)):TA:=fun σ H Q=>∃ S G ds,DS K H S σ G/\f G=some ds/\∀ vs H',Same H H'->DenL K H' ds vs->Q vs H'
def GAL (X:Cx)(es:List Expr)(f:Dst->Option (List D)):Prop:=PA X es (gAL X.K f)
def zQD:GAL X [] (λ_=>some []):=zA2.imp fun σ H Q zz53=>by
 obtain⟨S,G,z,a,e,c⟩:=zz53;cases e;exact c [] H (Same.refl _) .nil
noncomputable def zTe (f:Dst->Option R)(g:Dst->Option (List D)):Dst->Option (List D):=λG=>(f G).bind λx=>(g G).bind λxs=>some (x.1::xs)
def zM8 (j:GE X e f)(i:GAL X es g)(n:starEach (e::es) X.env=(false,eval e X.env)::starEach es X.env):GAL X (e::es) (zTe f g):=by
 refine(zAU j i n).imp fun σ H Q zz54=>?_
 obtain⟨S,G,z,h,e,c⟩:=zz54;obtain⟨x,l,e⟩:=bind_some e;obtain⟨k,a,e⟩:=bind_some e;cases e;refine⟨S,G,x,h,l,λv o d r1=>⟨S,G,k,h.mono d,a,λvs m b r2=>?_⟩⟩;exact c _ m (d.trans b) (.cons (r1.rd.whole.mono b) r2)
theorem zEX {K:W.Frag}(e0:Env0 P w K mg base A outer s H)(hS:∀ a∈S,∃ xs:HO,H a=some xs/\MuB xs)(hk:r.2≠.dt)
  (run:Env0 P w K mg base A outer s (hide H S)->codeAny (model P w) A cd (CR CX0 outer P w (hide H S) s (λv H2=>RV K (hide H S) H2 [] r v/\Same (hide H S) H2) E) s) (c:∀ v H',Same H H'->RV K H H' S r v->Q v H'):codeAny (model P w) A cd (CR CX0 outer P w H s Q E) s:=by
 have inS:∀ {b:Addr} {o:HO},b∈S->H b=some o->MuB o:=λ{b o} z e=>by
  obtain⟨xs,q,mu⟩:=hS b z;rw[q] at e;cases e;exact mu
 have hok:HOk P w (hide H S) s.heap:=λb o e=>by
  obtain⟨nb,e'⟩:=zA0 e;refine(e0.hok b o e').stay (λc u _ q=>q) (λc q=>?_) (λc xs q=>?_) λc ob u q _=>?_
  .rw [zAO λz=>?_]
   .exact q
   .exact (inS z q).elim
  .rw [zAO λz=>?_]
   .exact q
   .exact (inS z q).elim
  .rw [zAO λz=>?_]
   .exact q
   .exact (inS z q).elim
 have none_of:∀ {b:Addr},H b=none->hide H S b=none:=λ{b} q=>by
  by_cases z:b∈S
  .exact zCB z
  .rw [zAO z];exact q
 have e1:Env0 P w K mg base A outer s (hide H S):=⟨e0.frames,e0.mod,λb o e=>⟨(e0.bs b o e).1,none_of (e0.bs b o e).2⟩,e0.bsz,e0.funs,λb z=>none_of (e0.frf b z),hok,e0.bare,e0.tree,λx hx c P e=>by
  have q:=e0.tabs x hx c P e;rw[zAO λz=>(inS z q).elim];exact q⟩
 refine codeAny_mono (run e1) λres s' h=>?_
 cases res with
 | error e=>exact h.elim
 | ok fl =>
  cases fl with
  | next=>exact h
  | brk=>exact h
  | cont=>exact h
  | ret u =>
   obtain⟨v,H2,os,bare,un,hok2,rv2,r2,s2⟩:=h;have there:∀ {b:Addr},b∈S->∃ ob xs,s.heap.get? b=some ob/\s'.heap.get? b=some ob/\H2 b=none/\H b=some xs/\MuB xs/\zBl P w H s.heap b xs:=λ{b} z=>by
    obtain⟨xs,q,mu⟩:=hS b z;have ok:=e0.hok b _ q;obtain⟨ob,e⟩:∃ ob,s.heap.get? b=some ob:=by
     cases xs with
     | lst ys=>obtain⟨z1,its,n,r1,e⟩:=id ok;exact⟨_,e⟩
     | dT kvs=>obtain⟨_,_,_,_,ob,_,_,e,_⟩:=id ok;exact⟨ob,e⟩
     | _=>exact mu.elim
    exact⟨ob,xs,e,un.keep b _ e (zCB z) (λz2=>by rw[e0.frf b z2] at q;cases q) (by simp),un.free b _ e (zCB z) (by simp),q,mu,ok⟩
   have out:∀ {b:Addr} {o:HO},H2 b=some o->b∉S:=λ{b o} e z=>by
    obtain⟨_,_,_,_,q,_⟩:=there z;rw[q] at e;cases e
   obtain⟨H',h'in,h'out⟩:∃ H':Hp,(∀ {b:Addr},b∈S->H' b=H b)/\(∀ {b:Addr},b∉S->H' b=H2 b):=⟨λb=>if b∈S then H b else H2 b,λz=>if_pos z,λz=>if_neg z⟩;have sH:Same H H':=λb o e=>by
    by_cases z:b∈S
    .rw [h'in z];exact e
    .rw [h'out z];exact s2 b o (by rw[zAO z];exact e)
   have sub:Same H2 (hide H' S):=λb o e=>by
    rw[zAO (out e),h'out (out e)];exact e
   refine⟨v,H',os,bare,⟨λb o e n=>un.keep b o e (none_of n),λb o e n=>un.slot b o e (none_of n),λb o e n hx=>?_,un.there,λb xs e=>?_,λb o u e=>?_,λb ps e=>?_⟩,λb o e=>?_,rv2,c v H' sH ?_⟩
   .by_cases z:b∈S
    .rw [h'in z];exact n
    .rw [h'out z];exact un.free b o e (none_of n) hx
   .exact sH b _ e
   .exact sH b _ e
   .exact sH b _ e
   .by_cases z:b∈S
    .rw [h'in z] at e;obtain⟨ob,xs,g1,g2,_,g4,mu,ok⟩:=there z;rw[g4] at e;cases e;cases o with
     | lst ys =>
      obtain⟨z1,its,n,r1,e⟩:=ok;rw[g1] at e;cases e;exact⟨z1,its,n,r1,g2⟩
     | dT kvs =>
      obtain⟨z1,z2,xs,r1,ob',es,ep,e,rest⟩:=ok;rw[g1] at e;cases e;exact⟨z1,z2,xs,Paired.mapP r1 λp q z=>⟨z.1,sH _ _ z.2.1,z.2.2⟩,ob,es,ep,g2,rest⟩
     | _=>exact mu.elim
    .rw [h'out z] at e;exact(hok2 b o e).stay (λc u _ q=>q) (λc q=>by rw[h'out (out q)];exact q) (λc xs q=>by rw[h'out (out q)];exact q) λc ob u q _=>by rw[h'out (out q)];exact q
   .obtain ⟨d,kd⟩:=r;cases kd with
    | cl =>
     have q:Den K (hide H2 []) d v:=r2;rw[zCp] at q;exact q.mono sub
    | fr =>
     obtain⟨a,ws,es,ev,ed,_,na,ha,t⟩:=r2;have aS:a∉S:=out ha;refine⟨a,ws,es,ev,ed,aS,by rw[zAO aS] at na;exact na,by rw[h'out aS];exact ha,t.mono λb o e=>?_⟩;obtain⟨q1,q2⟩:=zA0 e;have nb:b∉a::S:=λz=>(mem_cons.mp z).elim (λz=>q1 (by rw[z];exact q0)) (out q2)
     rw[zAO nb,h'out (out q2)];exact q2
    | dt=>exact absurd rfl hk
def FnOk.framed {K:W.Frag}(G:FnOk P w K mg base CX0 k f fd ps (spD0 K F)):FnOk P w K mg base CX0 k f fd ps (spD K F):=by
 refine⟨λvs H Q E h=>?_,λA a s H b us vs Q E p m q n h=>?_⟩
 .obtain ⟨S,i,r,l,g,e,d,c⟩:=h;exact G.len vs _ _ E ⟨i,r,g,e,d,λ_ _ _ _=>trivial⟩
 obtain⟨S,i,r,l,g,e,d,c⟩:=h;exact zEX m l d (λe1=>G.run A a s _ b us vs _ E p e1 q n ⟨i,r,g,e,d,λv u o r1=>⟨r1,o⟩⟩) c
end
inductive Out where
 | nx (G:Dst) | rt (r:R) | bk (G:Dst) | ct (G:Dst)
def Post (K:W.Frag)(H0:Hp)(o:Out)(E:Ends):Prop:=match o with
 | .nx G'=>∀ S' O1 H',DS K H' S' O1 G'->Same H0 (hide H' S')->E.nx O1 H'
 | .bk G'=>∀ S' O1 H',DS K H' S' O1 G'->Same H0 (hide H' S')->E.bk O1 H'
 | .ct G'=>∀ S' O1 H',DS K H' S' O1 G'->Same H0 (hide H' S')->E.ct O1 H'
 | .rt r=>r.2≠.dt/\∀ v H',Same H0 H'->RV K H0 H' [] r v->E.rt v H'
def gS (K:W.Frag)(H0:Hp)(g:Dst->Option Out):TS:=λE σ H=>∃ S G o,DS K H S σ G/\Same H0 (hide H S)/\g G=some o/\Post K H0 o E
def GS (X:Cx)(st:Stmt)(g:Dst->Option Out):Prop:=∀ H0,PS X st (gS X.K H0 g)
def GSs (X:Cx)(st:List Stmt)(g:Dst->Option Out):Prop:=∀ H0,PSs X st (gS X.K H0 g)
theorem _root_.L2.PS.imp {st:Stmt}(h:PS X st t)(i:∀ E σ H,t' E σ H->t E σ H):PS X st t':=λpins s σ H E I q=>h pins s σ H E I (i E σ H q)
theorem _root_.L2.PSs.imp {st:List Stmt}(h:PSs X st t)(i:∀ E σ H,t' E σ H->t E σ H):PSs X st t':=λpins s σ H E I q=>h pins s σ H E I (i E σ H q)
section
variable {X:Cx}
noncomputable def seqD (f g:Dst->Option Out):Dst->Option Out:=λG=>(f G).bind λo=>match o with
 | .nx G'=>g G'
 | o=>some o
def zPq:GSs X [] (λG=>some (.nx G)):=λH0=>zHE.imp λE σ H a=>by
 obtain⟨S,G,o,b,h0,e,p⟩:=a;cases e;exact p S σ H b h0
def zMy {st:Stmt}(h1:GS X st f)(h2:GSs X rest g):GSs X (st::rest) (seqD f g):=λH0=>(zDz (h1 H0) (h2 H0)).imp λE σ H a=>by
 obtain⟨S,G,o,h,h0,e,p⟩:=a;obtain⟨c,k,e⟩:=bind_some e;refine⟨S,G,c,h,h0,k,?_⟩;cases c with
 | nx b=>exact λS' n l j i=>⟨S',b,o,j,i,e,p⟩
 | rt r=>cases e;exact p
 | bk b=>cases e;exact p
 | ct b=>cases e;exact p
def zPp (d:∀ G o,f G=some o->∃ G',o=.nx G'/\∀ K H S σ,DS K H S σ G->∃ S',(∀ b∈S',b∈S)/\DS K H S' σ G')(h2:GSs X rest g):GSs X rest (seqD f g):=λH0=>(h2 H0).imp λE σ H a=>by
 obtain⟨S,G,o,j,h0,e,p⟩:=a;obtain⟨i,c,e⟩:=bind_some e;obtain⟨G',rfl,k⟩:=d G i c;obtain⟨S',sub,h⟩:=k _ H S σ j;exact⟨S',G',o,h,h0.trans (zB2 sub),e,p⟩
theorem zTR {K:W.Frag}{σ:St}(ds:DS K H S σ G)(h0:Same H0 (hide H S))(s1:Same H H')(p:Post K H0 (.nx G) E):E.nx σ H' :=
 p S σ H' (ds.mono s1) (h0.trans (zAP s1))
noncomputable def retD (f:Dst->Option R):Dst->Option Out:=λG=>(f G).bind λr=>if r.2=.dt then none else some (.rt r)
theorem RV.up {K:W.Frag}(h0:Same H0 (hide H S))(s1:Same H H')(hr:r.2≠.dt)(h:RV K H H' S r v):Same H0 H'/\RV K H0 H' [] r v:=by
 refine⟨h0.trans (zAf.trans s1),?_⟩;obtain⟨d,k⟩:=r;cases k with
 | cl =>
  exact Den.mono zAf h
 | fr =>
  obtain⟨a,vs,ds,e1,e2,e3,e4,e5,t⟩:=h;refine⟨a,vs,ds,e1,e2,by simp,?_,e5,t.mono (zB2 λb z=>by
   have:b=a:=by simpa using z
   rw[this];exact q0)⟩
  cases q:H0 a with
  | none=>rfl
  | some o =>
   have:=(zA0 (h0 a o q)).2;grind
 | dt=>exact absurd rfl hr
def zST (h:GE X e f):GS X (.Return (some e) pos) (retD f):=λH0=>(zJz h).imp λE σ H a=>by
 obtain⟨S,G,o,j,h0,e,p⟩:=a;obtain⟨r,g,e⟩:=bind_some e;by_cases hr:r.2=.dt
 .rw [if_pos hr] at e;cases e
 rw[if_neg hr] at e;cases e;refine⟨S,G,r,j,g,λv c b r1=>?_⟩;obtain⟨d,i⟩:=RV.up h0 b hr r1;exact p.2 v c d i
noncomputable def zEB (i:Nat):Dst->Option Out:=λG=>match G[i]? with
 | some (some (.lst d,true))=>some (.rt (.lst d,.fr))
 | _=>none
def zKu (k:X.N[i]?=some x)(s:Vis X.env.scope x)(r:(x==("__debug__":Str))=false)(f:(x==("__classdict__":Str))=false):GS X (.Return (some (.Name x pos')) pos) (zEB i):=λH0=>(zJz (zDD k s r f)).imp λE σ H c=>by
 obtain⟨S,G,o,m,h0,e,p⟩:=c;unfold zEB at e;split at e
 .rename_i d q;cases e;obtain⟨v,t,j⟩:=m.get i _ true q;obtain⟨a,l,es,rfl,u,g,n,h⟩:=j.ownL rfl;refine⟨.ref a,t,p.2 _ H (h0.trans zAf) ⟨a,l,es,rfl,u,by simp,?_,n,h.mono (zB2 λb z=>by
   have:b=a:=by simpa using z
   rw[this];exact g)⟩⟩
  cases q:H0 a with
  | none=>rfl
  | some o=>exact absurd g (zA0 (h0 a o q)).1
 .cases e
def zIC {st:Stmt}:GS X st (λ_=>none):=λH0=>(zFe (X:=X) (st:=st)).imp λE σ H a=>by obtain⟨S,G,o,b,h0,e,p⟩:=a;cases e
noncomputable def setD (i:Nat)(f:Dst->Option R):Dst->Option Out:=λG=>(f G).bind λr=>match r.2 with
 | .cl=>some (.nx (G.set i (some (r.1,false))))
 | .fr=>some (.nx (G.set i (some (r.1,true))))
 | .dt=>none
theorem zEt {K:W.Frag}{σ:St}(ds:DS K H S σ G)(h0:Same H0 (hide H S))(s1:Same H H')(r1:RV K H H' S r v)
  (e:(match r.2 with | .cl=>some (Out.nx (G.set i (some (r.1,false)))) | .fr=>some (Out.nx (G.set i (some (r.1,true)))) | .dt=>none)=some o) (p:Post K H0 o E):E.nx (σ.set i (some v)) H':=by
 obtain⟨d,k⟩:=r;cases k with
 | cl =>
  cases e;exact p S _ H' ((ds.mono s1).set r1) (h0.trans (zAP s1))
 | fr =>
  cases e;obtain⟨a,vs,es,rfl,rfl,e3,e4,e5,t⟩:=r1;exact p (a::S) _ H' (ds.setF s1 e4 e5 t) (h0.trans (zD4 s1 e4))
 | dt=>cases e
def zOM (k:X.N.Nodup)(m:X.N[i]?=some x)(j:Loc X.env.scope x)(h:GE X e f)(d:swapsWith e (some (.Name x pos')) pos.line X.env=pure false)(g:X.fn x=true\/X.env.scope.names.lookup x=some .local) :
  GS X (.Assign [.Name x pos'] e pos) (setD i f):=λH0=>(zJy k m j h d g).imp λE σ H a=>by
 obtain⟨S,G,o,b,h0,e,p⟩:=a;obtain⟨r,c,e⟩:=bind_some e;exact⟨S,G,r,b,c,λv n l r1=>zEt b h0 l r1 e p⟩
noncomputable def appD (i:Nat)(f:Dst->Option R):Dst->Option Out:=λG=>match G[i]? with
 | some (some (.lst xs,true))=>(f G).bind λr=>if r.2=.dt then none else if xs.length<=10000 then some (.nx (G.set i (some (.lst (xs++[r.1]),true)))) else none
 | _=>none
def zSX (M:X.N[i]?=some x)(K:Vis X.env.scope x)(L:(x==("__debug__":Str))=false)(s:(x==("__classdict__":Str))=false)(h:GE X e f)
  (l:starEach [e] X.env=[(false,eval e X.env)]) (c:attributeBase (.Name x npos) "append" X.env (eval (.Name x npos) X.env)=eval (.Name x npos) X.env) (b:(apos.endLine==cpos.line)=true) :
  GS X (.Expr (.Call (.Attribute (.Name x npos) "append" apos) [e] [] cpos) pos) (appD i f):=λH0=>(zFf (zO5 PySem.F.plainAttrs_list PySem.F.slot_list_append PySem.F.type_list_append zGR (zDD M K L s) (zAU h zA2 l) c (by rw[l];rfl) b l rfl) rfl).imp λE σ H g=>by
 obtain⟨S,G,o,m,h0,e,p⟩:=g;unfold appD at e;split at e
 .rename_i w q;obtain⟨r,I,e⟩:=bind_some e;by_cases hr:r.2=.dt
  .rw [if_pos hr] at e;cases e
  rw[if_neg hr] at e;by_cases hl:w.length<=10000
  .rw [if_pos hl] at e;cases e;obtain⟨v,B,E⟩:=m.get i _ true q;obtain⟨a,C,es,rfl,J,D,A,u⟩:=E.ownL rfl;cases J;refine⟨.ref a,B,.inl ⟨rfl,_,SqL.of A⟩,S,G,r,m,I,λy z j r1=>?_⟩;have F:Den X.K (hide z S) r.1 y:=RV.den (d:=r.1) (k:=r.2) r1 hr;have n:=u.mono (zAP j (S:=S));refine⟨a,C,y,rfl,rfl,j _ _ A,by rw[<- u.length];exact Nat.lt_of_le_of_lt hl (by decide),?_⟩;have t:DenL X.K (hide z S) (w++[r.1]) (C++[y]):=n.append (.cons F .nil);have N:=(m.mono j).change (i:=i) q B t;refine p S σ _ N ?_;rw[zFr D];exact h0.trans (zAP j)
  .rw [if_neg hl] at e;cases e
 .cases e
noncomputable def ifD (c:Dst->Option Bool)(f g:Dst->Option Out):Dst->Option Out:=λG=>(c G).bind λb=>if b=true then f G else g G
def zUb (q:GT X c k)(l:GSs X a f)(j:GSs X b g):GS X (.If c a b pos) (ifD k f g):=λH0=>(zRS q (l H0) (j H0)).imp λE σ H d=>by
 obtain⟨S,G,o,i,h0,e,p⟩:=d;obtain⟨b,n,e⟩:=bind_some e;refine⟨S,G,b,i,n,λH1 h=>?_⟩;cases b with
 | true =>
  rw[if_pos rfl] at e ⊢;exact⟨S,G,o,i.mono h,h0.trans (zAP h),e,p⟩
 | false =>
  rw[if_neg qX] at e ⊢;exact⟨S,G,o,i.mono h,h0.trans (zAP h),e,p⟩
noncomputable def zBx (c:Dst->Option Bool)(b:Dst->Option Out):Nat->Dst->Option Out
 | 0,_=>none
 | n+1,G=>(c G).bind λk=>if k=true then (b G).bind λo=>(match o with
   | .nx G'=>zBx c b n G'
   | .ct G'=>zBx c b n G'
   | .bk G'=>some (.nx G')
   | .rt r=>some (.rt r)) else some (.nx G)
theorem zCy :∀ {n:Nat} {G:Dst} {o:Out},zBx c b n G=some o->zBx c b (n+1) G=some o
 | 0,_,_,h=>by cases h
 | n+1,G,o,h=>by
  obtain⟨k,ek,h⟩:=bind_some h;show (c G).bind _=some o;rw[ek];cases k with
  | false =>
   rw[if_neg qX] at h;rw[qx,if_neg qX];exact h
  | true =>
   rw[if_pos rfl] at h;rw[qx,if_pos rfl];obtain⟨o1,e1,h⟩:=bind_some h;rw[e1];cases o1 with
   | nx G'=>exact zCy (n:=n) h
   | ct G'=>exact zCy (n:=n) h
   | bk G'=>exact h
   | rt r=>exact h
def zD7 (h:zBx c b n G=some o)(l:n<=m):zBx c b m G=some o:=by
 induction m with
 | zero =>
      have:n=0:=by omega
      grind
 | succ m a =>
  by_cases q:n<=m
  .exact zCy (a q)
  .grind
open Classical in
def zBV (c:Dst->Option Bool)(b:Dst->Option Out)(G:Dst):Option Out :=
 if h:∃ n o,zBx c b n G=some o then some (Classical.choose (choose_spec h)) else none
def zCQ (h:zBx c b n G=some o):zBV c b G=some o:=by
 have a:∃ n o,zBx c b n G=some o:=⟨n,o,h⟩;unfold zBV;rw[dif_pos a];have d:=zD7 h (Nat.le_max_right (Classical.choose a) n);rw[zD7 (choose_spec (choose_spec a)) (Nat.le_max_left _ n)] at d;omega
def zDP (h:zBV c b G=some o):∃ n,zBx c b n G=some o:=by
 unfold zBV at h;by_cases ex:∃ n o,zBx c b n G=some o
 .grind
 .grind
def zM0 (B:PassesOwn (model X.prog X.w) X.A X.env X.xe)(x:GT X c k)(z:GSs X body f):GS X (.While c body [] pos) (zBV k f):=λH0=>(zMM B x (z H0)).imp λE σ H h=>by
 obtain⟨S,G,o,d,h0,e,p⟩:=h;obtain⟨n,a⟩:=zDP e;refine⟨λm σ H=>∃ S G,DS X.K H S σ G/\Same H0 (hide H S)/\zBx k f m G=some o,⟨n,S,G,d,h0,a⟩,?_⟩;rintro m σ H ⟨S,G,d,h0,a⟩;cases m with
 | zero=>cases a
 | succ m =>
  obtain⟨b,w,a⟩:=bind_some a;refine⟨S,G,b,d,w,λH1 s=>?_⟩;cases b with
  | false =>
   rw[if_neg qX] at a ⊢;cases a;exact zTR d h0 s p
  | true =>
   rw[if_pos rfl] at a ⊢;obtain⟨u,y,a⟩:=bind_some a;refine⟨λO1 g=>∃ S G,DS X.K g S O1 G/\Same H0 (hide g S)/\zBx k f m G=some o,λO1 g q=>⟨m,Nat.lt_succ_self m,q⟩,S,G,u,d.mono s,h0.trans (zAP s),y,?_⟩;cases u with
   | nx i=>exact λS' O1 g j l=>⟨S',i,j,l,a⟩
   | ct i=>exact λS' O1 g j l=>⟨S',i,j,l,a⟩
   | bk i=>cases a;exact p
   | rt r=>cases a;exact p
noncomputable def forD (t:D->Dst->Option Dst)(b:Dst->Option Out):List D->Dst->Option Out
 | [],G=>some (.nx G)
 | x::xs,G=>(t x G).bind λO5=>(b O5).bind λo=>match o with
  | .nx G'=>forD t b xs G'
  | .ct G'=>forD t b xs G'
  | .bk G'=>some (.nx G')
  | .rt r=>some (.rt r)
def GG (X:Cx)(tg:Expr)(t:D->Dst->Option Dst):Prop:=∃ g,PG X tg g/\∀ (K:W.Frag),K=X.K->∀ (x:D) (v:V) (σ:St) (H:Hp) (S:List Addr) (G G':Dst) (Q:St->Hp->Prop),DS K H S σ G->Den K (hide H S) x v->t x G=some G'->(∀ O1,DS K H S O1 G'->Q O1 H)->g v σ H Q
def zK0 (h:X.N.Nodup)(g:X.N[i]?=some x)(c:Loc X.env.scope x)(b:X.fn x=true\/X.env.scope.names.lookup x=some .local):GG X (.Name x pos) (λd G=>some (G.set i (some (d,false)))) :=
 ⟨_,zFh h g c b,λK j x v σ H S G k Q f a e q=>by
  cases e;exact q _ (f.set a)⟩
noncomputable def tg2 (i j:Nat):D->Dst->Option Dst:=λd G=>match d with
 | .tup [a,b]=>some ((G.set i (some (a,false))).set j (some (b,false)))
 | _=>none
def GI (X:Cx)(tg iter:Expr)(f:Dst->Option (List D)):Prop:=∃ wi,PI X tg iter wi/\∀ (σ:St) (H:Hp) (S:List Addr) (G:Dst) (xs:List D) (Rr:It->Hp->Prop),DS X.K H S σ G->f G=some xs ->
 (∀ J H1,Same H H1->(∀ (i:Nat) H2,i<=xs.length->Same (hide H1 S) H2->(i=xs.length->J.stop i H2)/\(i < xs.length->J.go i H2/\∀ v H3,J.yld i H2 v H3->H3=H2/\∀ x,xs[i]?=some x->Den X.K (hide H1 S) x v))->Rr J H1)->wi σ H Rr
def zSU (hp:PassesOwn (model X.prog X.w) X.A X.env X.xe)(Y:X.calm=true)(M:GI X tg iter f)(K:GG X tg t)(hb:GSs X body b)
  (hs:∀ x,foldedSetIterable iter X.env x=pure x):GS X (.For tg iter body [] pos) (λG=>(f G).bind λxs=>forD t b xs G):=by
 intro V;obtain⟨wi,J,hI⟩:=M;obtain⟨g,K,hG⟩:=K;intro c s σ H E I ⟨S,G,o,N,h0,e,p⟩;obtain⟨xs,T,e⟩:=bind_some e;refine(zN4 (tb:=λE σ l=>∃ d,gS X.K (hide d S) b E σ l/\Same (hide d S) (hide d S)) hp Y J K ?_ hs) c s σ H E I ?_
 .intro c s σ H E I ⟨d,q,_⟩;exact hb (hide d S) c s σ H E I q
 refine hI σ H S G xs _ N T λJ d P Z=>?_
 refine⟨λi m B l=>i<=xs.length/\m=xs.length - i/\∃ h j,DS X.K l h B j/\Same (hide d S) (hide l h)/\forD t b (xs.drop i) j=some o,⟨xs.length,zero_le _,by omega,S,G,N.mono P,Same.refl _,e⟩,?_⟩;rintro i m B l ⟨M,rfl,h,j,w,A,a⟩;have C:Same V (hide d S):=h0.trans (zAP P);obtain⟨j1,U⟩:=Z i l M (A.trans zAf);by_cases hlt:i < xs.length
 .obtain ⟨go,yl⟩:=U hlt;have hd:xs.drop i=xs[i]::xs.drop (i+1):=List.drop_eq_getElem_cons hlt;rw[hd] at a;obtain⟨R,W,a⟩:=bind_some a;obtain⟨O,e2,a⟩:=bind_some a;refine .inr ⟨go,λO9 n=>∃ h j,DS X.K n h O9 j/\Same (hide d S) (hide n h)/\forD t b (xs.drop (i+1)) j=some o,λO9 n q=>⟨xs.length - (i+1),by omega,hlt,rfl,q⟩,λv n y=>?_⟩;obtain⟨rfl,hv⟩:=yl v n y;refine hG X.K rfl xs[i] v B n h j R _ w ((hv _ (by simp[hlt])).mono A) W λZ6 F=>⟨d,⟨h,R,O,F,A,e2,?_⟩,Same.refl _⟩
  cases O with
  | nx D=>exact λS2 L u z k=>⟨S2,D,z,k,a⟩
  | ct D=>exact λS2 L u z k=>⟨S2,D,z,k,a⟩
  | bk D =>
   cases a;exact λS2 L u z k=>p S2 L u z (C.trans k)
  | rt r =>
   cases a;refine⟨p.1,λv u q1 k=>p.2 v u (C.trans q1) (k.from C)⟩
 .have ei:i=xs.length:=by omega
  subst ei;rw[drop_eq_nil_of_le (le_refl _)] at a;cases a;exact .inl ⟨j1 rfl,p h B l w (C.trans A)⟩
noncomputable def rngL (lo:Int)(n:Nat):List D:=(List.range n).map λ(k:Nat)=>D.int (lo+k)
theorem zGM {K:W.Frag}{lo:Int}(i:Nat)(H2:Hp)(hi:i<=(rngL lo n).length):(i=(rngL lo n).length->(Itr lo n).stop i H2)/\(i < (rngL lo n).length->(Itr lo n).go i H2/\∀ v H3,(Itr lo n).yld i H2 v H3->H3=H2/\∀ x,(rngL lo n)[i]?=some x->Den K (hide H1 S) x v):=by
 have hl:(rngL lo n).length=n:=by unfold rngL;simp
 refine⟨λe=>by rw[hl] at e;exact Nat.le_of_eq e.symm,λh=>⟨by rw[hl] at h;exact h,λv H3 y=>⟨y.1,λx ex=>?_⟩⟩⟩;rw[hl] at h;have:(rngL lo n)[i]?=some (D.int (lo+i)):=by unfold rngL;simp[h]
 rw[this] at ex;cases ex;exact y.2
noncomputable def zJp (f:Dst->Option R):Dst->Option (List D):=λG=>match f G with
 | some (.int j,_)=>if -(2^62)<=j/\j < 2^62 then some (rngL 0 j.toNat) else none
 | _=>none
def zKz (c:Gl X "range")(o:X.mg "range"=none)(h:GE X a f)(b:starEach [a] X.env=[(false,eval a X.env)]):GI X tg (.Call (.Name "range" p) [a] [] pos) (zJp f):=by
 refine⟨_,zGN c o (zAU h zA2 b) b,fun σ H S G xs Rr ds e q=>?_⟩;unfold zJp at e;split at e
 .rename_i j k d;by_cases hj:-2^62<=j/\j < 2^62
  .rw [if_pos hj] at e;cases e;exact⟨S,G,_,ds,d,λv n l r1=>⟨j,by rw[r1.rd.int],hj.1,hj.2,q _ n l λi g m _=>zGM i g m⟩⟩
  .simp_all
 .cases e
noncomputable def zMG (f g:Dst->Option R):Dst->Option (List D):=λG=>match f G,g G with
 | some (.int i,_),some (.int j,_)=>if (-(2^62)<=i/\i < 2^62)/\-(2^62)<=j/\j < 2^62 then some (rngL i (j - i).toNat) else none
 | _,_=>none
def zKy (s:Gl X "range")(l:X.mg "range"=none)(m:GE X a f)(u:GE X b g)(n:starEach [a,b] X.env=(false,eval a X.env)::starEach [b] X.env)(c:starEach [b] X.env=[(false,eval b X.env)]):GI X tg (.Call (.Name "range" p) [a,b] [] pos) (zMG f g):=by
 refine⟨_,zJ3 s l (zAU m (zAU u zA2 c) n) (by simp_all) c,fun σ H S G xs Rr ds e q=>?_⟩;unfold zMG at e;split at e
 .rename_i i k j w o r;by_cases hj:(-2^62<=i/\i < 2^62)/\-(2^62)<=j/\j < 2^62
  .rw [if_pos hj] at e;cases e;exact⟨S,G,_,ds,o,λv x h r1=>⟨S,G,_,ds.mono h,r,λu d t r2=>⟨i,j,by rw[r1.rd.int,r2.rd.int],⟨hj.1.1,hj.1.2,hj.2.1,hj.2.2⟩,q _ d (h.trans t) λi d v _=>zGM i d v⟩⟩⟩
  .rw [if_neg hj] at e;cases e
 .cases e
noncomputable def frzD (i:Nat):Dst->Option Out:=λG=>match G[i]? with
 | some (some (d,true))=>some (.nx (G.set i (some (d,false))))
 | _=>some (.nx G)
def zS4 :∀ G o,frzD i G=some o->∃ G',o=.nx G'/\∀ K H S σ,DS K H S σ G->∃ S',(∀ b∈S',b∈S)/\DS K H S' σ G':=λG o e=>by
 unfold frzD at e;split at e
 .rename_i d q;cases e;exact⟨_,rfl,λK H S σ a=>a.freeze q⟩
 .cases e;exact⟨_,rfl,λK H S σ a=>⟨S,λ_ z=>z,a⟩⟩
noncomputable def dFun (np nN:Nat)(g:Dst->Option Out)(ds:List D):Option R :=
 if ds.length=np/\np<=nN then (g (ds.map (λd=>some (d,false))++List.replicate (nN - np) none)).bind λo=>match o with
  | .rt r=>some r
  | .nx _=>some (.non,.cl)
  | _=>none
 else none
def zNQ {K:W.Frag}(h:DenL K H ds vs)(l:ds.length<=N.length):DS K H [] (zBy N vs) (ds.map (λd=>some (d,false))++List.replicate (N.length - ds.length) none):=by
 have g:=h.length;refine⟨by unfold L2.zBy;simp[<- g],λa z=>absurd z (by simp),λi d o q=>?_,λi j d e a b _ _ _=>?_⟩
 .have c:i < ds.length:=by
   by_cases z:i < ds.length
   .exact z
   .rw [getElem?_append_right (by simpa using z),getElem?_replicate] at q;split at q<;>cases q
  rw[getElem?_append_left (by simpa using c),getElem?_map] at q;cases e:ds[i]? with
  | none=>rw[e] at q;cases q
  | some k =>
   rw[e] at q;cases q;obtain⟨v,b,f⟩:=h.get e;refine⟨v,?_,.of_den (by rw[zCp];exact f)⟩;unfold L2.zBy;rw[getElem?_append_left (by simp_all),getElem?_map,b]
   rfl
 .have c:i < ds.length:=by
   by_cases z:i < ds.length
   .exact z
   .rw [getElem?_append_right (by simpa using z),getElem?_replicate] at b;split at b<;>cases b
  rw[getElem?_append_left (by simpa using c)] at b
  simp_all
def zS3 {K:W.Frag}{st:Stmt}(F:Fun K x qual st f fd)(S:zAV N ps (zAA st))
  (b:∀ (cdv:Value) (A:Around) (outer:List Env) (s:Shared) (H:Hp) (E:XK),Room k (A.deeper (envOfC qual (zAA st) s.heap.objs.size f cdv))->GSs (cxOf CX0 P w K mg base N qual (zAA st) f cdv A outer s H E).nox (zAE st) g) :
  FnOk P w K mg base CX0 (k+1) f fd ps (spD K (dFun ps.length N.length g)):=by
 refine FnOk.framed (F.ok S (λvs H Q E h=>?_) λcdv A outer s H v Q E n h=>?_)
 .obtain ⟨d,r,e,a,j,c⟩:=h;unfold dFun at a;by_cases q:d.length=ps.length/\ps.length<=N.length
  .rw [<- e.length];exact q.1
  .simp_all
 obtain⟨d,r,e,a,j,c⟩:=h;refine⟨_,b cdv A outer s H E n H,?_⟩;unfold dFun at a;by_cases q:d.length=ps.length/\ps.length<=N.length
 .rw [if_pos q] at a;obtain⟨o,i,a⟩:=bind_some a;rw[<- q.1] at i;refine⟨[],_,o,zNQ e (by rw[q.1];exact q.2),by rw[zCp];exact Same.refl _,i,?_⟩;cases o with
  | nx l =>
   cases a;exact λS' t p u m=>c _ p (m.trans zAf) rfl
  | rt y =>
   cases a;exact⟨j,c⟩
  | bk l=>cases a
  | ct l=>cases a
 .simp_all
end
end DL
end
section
namespace DL
open PySem
noncomputable def zBt (env:Env):List (Str×NameKind)->List (Str×Addr)->List (Str×Addr)
 | [],acc=>acc
 | (n,k)::r,acc=>zBt env r (if k==.free then (match env.cells.lookup n with | some c=>(n,c)::acc | none=>acc) else acc)
theorem zFz (f:Str×NameKind->List (Str×Addr)->Sem (ForInStep (List (Str×Addr))))
  (hf:∀ n k cs,f (n,k) cs=if k==.free then (do let a<-cellOf env n;pure (.yield ((n,a)::cs))) else pure (.yield cs)) :
  ∀ (names:List (Str×NameKind)) (acc:List (Str×Addr)),(∀ x∈names,x.2=.free->∃ c,env.cells.lookup x.1=some c)->forIn names acc f=(pure (zBt env names acc):Sem (List (Str×Addr)))
 | [],acc,_=>by rw[List.forIn_nil];rfl
 | (n,k)::r,acc,h=>by
  rw[forIn_cons,hf];have hr:∀ x∈r,x.2=.free->∃ c,env.cells.lookup x.1=some c:=λx z=>h x (qY _ z)
  cases e:k==.free with
  | true =>
   obtain⟨c,ec⟩:=h (n,k) q0 (by simpa using e);have e1:cellOf env n=pure c:=by unfold cellOf;rw[ec]
   rw[if_pos rfl,e1];unfold zBt;rw[e,if_pos rfl,ec];exact zFz f hf r _ hr
  | false =>
   rw[if_neg qX];unfold zBt;rw[e,if_neg qX];exact zFz f hf r _ hr
def zBZ (h:∀ x∈scope.names,x.2=.free->∃ c,env.cells.lookup x.1=some c):closureFor scope env=pure (zBt env scope.names []):=by
 show (forIn scope.names _ _>>=λcs=>pure cs)=_;rw[zFz _ (λn k cs=>rfl) scope.names [] h]
 rfl
def zGm :∀ (f:List (Str×NameKind)) (a:List (Str×Addr)),(∀ x c,a.lookup x=some c->env.cells.lookup x=some c)->∀ x c,(zBt env f a).lookup x=some c->env.cells.lookup x=some c
 | [],a,h,x,c,e=>h x c e
 | (n,k)::r,a,h,x,c,e=>by
  unfold zBt at e;refine zGm r _ ?_ x c e;intro y d q;cases z:k==.free with
  | false=>rw[z,if_neg qX] at q;exact h y d q
  | true =>
   rw[z,if_pos rfl] at q;cases w:env.cells.lookup n with
   | none=>rw[w] at q;exact h y d q
   | some c' =>
    rw[w] at q;dsimp only at q;rw[lookup_cons] at q;cases b:y==n with
    | true =>
     rw[b] at q;cases q;have:y=n:=by simpa using b
     rw[this];exact w
    | false=>rw[b] at q;exact h y d q
theorem zFJ :∀ (names:List (Str×NameKind)) (acc:List (Str×Addr)),(∃ c,acc.lookup x=some c)->∃ c,(zBt env names acc).lookup x=some c
 | [],acc,h=>h
 | (n,k)::r,acc,h=>by
  unfold zBt;refine zFJ r _ ?_;cases z:k==.free with
  | false=>rw[if_neg qX];exact h
  | true =>
   rw[if_pos rfl];cases w:env.cells.lookup n with
   | none=>exact h
   | some c' =>
    dsimp only;rw[lookup_cons];cases b:x==n with
    | true=>exact⟨_,rfl⟩
    | false=>exact h
theorem zEh :∀ (names:List (Str×NameKind)) (acc:List (Str×Addr)),(x,NameKind.free)∈names->(∃ c,env.cells.lookup x=some c)->∃ c,(zBt env names acc).lookup x=some c
 | (n,k)::r,acc,hm,hc=>by
  unfold zBt;rcases mem_cons.mp hm with e | hm
  .cases e;obtain⟨c,hc⟩:=hc;refine zFJ r _ ?_;rw[show (NameKind.free==NameKind.free)=true from rfl,if_pos rfl,hc];exact⟨c,by rw[lookup_cons];simp⟩
  .exact zEh r _ hm hc
def zFI :∀ (a:List (Str×NameKind)) (e:List (Str×Addr)) (c:Addr),(zBt env a e).lookup x=some c->(x,NameKind.free)∈a\/∃ c,e.lookup x=some c
 | [],e,c,h=>.inr ⟨c,h⟩
 | (n,k)::r,e,c,h=>by
  unfold zBt at h;rcases zFI r _ c h with q | ⟨d,q⟩
  .exact .inl (qY _ q)
  .cases z:k==.free with
   | false=>rw[z,if_neg qX] at q;exact .inr ⟨d,q⟩
   | true =>
    rw[z,if_pos rfl] at q;cases w:env.cells.lookup n with
    | none=>rw[w] at q;exact .inr ⟨d,q⟩
    | some c' =>
     rw[w] at q;dsimp only at q;rw[lookup_cons] at q;cases b:x==n with
     | true =>
      have e1:x=n:=by simpa using b
      have f:k=.free:=by simpa using z
      subst e1 f;exact .inl q0
     | false=>rw[b] at q;exact .inr ⟨d,q⟩
def zCF :∀ (a:List (Str×NameKind)) (n:Nat) (d:List (Str×Addr)) (c:Addr),(cellsFrom n a d).lookup x=some c->((x,NameKind.cell)∈a/\n<=c)\/d.lookup x=some c
 | [],n,d,c,h=>.inr h
 | (y,k)::r,n,d,c,h=>by
  unfold cellsFrom at h;cases z:k==.cell with
  | false =>
   rw[z,if_neg qX] at h;rcases zCF r n d c h with ⟨q1,q2⟩ | q
   .exact .inl ⟨qY _ q1,q2⟩
   .exact .inr q
  | true =>
   rw[z,if_pos rfl] at h;rcases zCF r (n+1) _ c h with ⟨q1,q2⟩ | q
   .exact .inl ⟨qY _ q1,by omega⟩
   .rw [lookup_cons] at q;cases b:x==y with
    | true =>
     rw[b] at q;cases q;have e1:x=y:=by simpa using b
     have e:k=.cell:=by simpa using z
     subst e1 e;exact .inl ⟨q0,le_refl _⟩
    | false=>rw[b] at q;exact .inr q
section
variable {M:Model}{A:Around}{E:Value->Shared->Prop}{s:Shared}
def zHO 
  (c:Q (newEnv scope s.heap.objs.size globals (cellsFrom (s.heap.objs.size+1) scope.names cl) qual none .none (some outer) builtinsNs) { s with heap:=pushCells (s.heap.push { cls:=.type "dict",data:=.dict #[] }) scope.names }) :
  wpAny M A (newFunctionEnv scope globals cl [] qual none .none (some outer)) Q E s:=by
 refine qQ (wpAny_alloc ?_);refine qQ (wpAny_layCells _ λname a b=>by cases hkc:a==NameKind.cell<;>simp[hkc] _ _ _ _ ?_);simp;exact qQ (q8 (q8 c))
end
section
variable {prog:Program}{w:World}{A:Around}{R:Result->Shared->Prop}{s:Shared}
abbrev NB (prog:Program) (w:World) (A:Around) (env:Env) (R:Result->Shared->Prop):Value->Shared->Prop:=notedBy (model prog w) A env λe s'=>R (.error e) s'
theorem zGl (I:Nat->Shared->Prop)
  (turn:∀ n s,I n s->wpAny (model prog w) A (pyNext it) (λr O3=>match r with
   | none=>R (.ok .next) O3
   | some v=>wpAny (model prog w) A (letOwnedTupleGo target it v) (λ_ s1'=>wpAny (model prog w) A (assign target env v) (λ_ Y1 =>
     wpAny (model prog w) A (forIn ifs true λc r=>if r=true then do let ok<-isTrue c env (eval c env);pure (ForInStep.yield ok) else pure (ForInStep.yield r)) (λok Y4 =>
      if ok=true then wpAny (model prog w) A (eval elt env) (λx Y7 =>
       wpAny (model prog w) A (call (.builtin "list.append") [acc,x]) (λ_ U1=>∃ m,m < n/\I m U1) (NB prog w A env R) Y7) (NB prog w A env R) Y4
      else ∃ m,m < n/\I m Y4) (NB prog w A env R) Y1) (NB prog w A env R) s1') (NB prog w A env R) O3) (NB prog w A env R) s)
  (n:Nat) (h:I n s) :
  codeAny (model prog w) A (.compLoop (.ListComp elt [⟨target,iter,ifs,0⟩] scope pos) 0 it acc env) R s:=by
 refine codeAny_loop rfl I (λn s hI=>?_) n h;show wpAny _ A ((compTurn (.ListComp elt [⟨target,iter,ifs,0⟩] scope pos) 0 it acc env).onRaise (λx=>do noteFrame x env;theTreesLotGoes x)) _ _ s;refine wpAny_noted ?_;rw[compTurn_list];refine qQ (wpAny_standAt (qQ (wpAny_mono (turn n s hI) (λr O3 O8=>?_) λ_ _ h'=>h')));cases r with
 | none=>exact q8 O8
 | some v =>
  refine qQ (wpAny_mono O8 (λ_ s1' U3=>?_) λ_ _ h'=>h');refine qQ (wpAny_mono U3 (λ_ Y1 Z1=>qQ (wpAny_mono Z1 (λok Y4 Z2=>?_) λ_ _ h'=>h')) λ_ _ h'=>h');cases ok with
  | false=>exact q8 ⟨rfl,Z2⟩
  | true =>
   exact qQ (qQ (wpAny_mono Z2 (λx Y7 U4=>qQ (wpAny_mono U4 (λ_ U1 U5=>q8 (q8 ⟨rfl,U5⟩)) λ_ _ h'=>h')) λ_ _ h'=>h'))
end
end DL
end
section
namespace DL
open PySem Spec PyProof.Rows L2
noncomputable def relS (sc scope:Scope):Scope :=
 { scope with names:=scope.names.map λ(n,k)=>if (k==.free&&sc.kind==.function&&sc.names.lookup n==some .cell) then (n,.cell) else (n,k) }
def zDW {a:List (Str×NameKind)}:a.lookup x=some k->(x,k)∈a:=λh=>PySem.mem_of_lookup h
theorem zCo:∀ {names:List (Str×NameKind)} {x:Str} {k:NameKind},(names.map (·.1)).Nodup->(x,k)∈names->names.lookup x=some k
 | (y,j)::r,x,k,nd,hm=>by
  rw[map_cons,nodup_cons] at nd;rw[lookup_cons];rcases mem_cons.mp hm with e | hm2
  .cases e;simp
  .have ne:(x==y)=false:=by
    cases b:x==y with
    | false=>rfl
    | true =>
     have e1:x=y:=by simpa using b
     exact absurd (show y∈r.map (·.1) from mem_map.mpr ⟨(x,k),hm2,e1⟩) nd.1
   rw[ne];exact zCo nd.2 hm2
theorem zDV {sc:Scope}:∀ (names:List (Str×NameKind)) (x:Str),(names.map λ(n,k)=>if (k==NameKind.free&&sc.kind==.function&&sc.names.lookup n==some .cell) then (n,NameKind.cell) else (n,k)).lookup x =
  (names.lookup x).map λk=>if (k==NameKind.free&&sc.kind==.function&&sc.names.lookup x==some .cell) then NameKind.cell else k
 | [],x=>rfl
 | (n,k)::r,x=>by
  rw[map_cons,lookup_cons];have ih:=zDV (sc:=sc) r x;cases b:x==n with
  | true =>
   have e1:x=n:=by simpa using b
   subst e1;dsimp only;by_cases c:(k==NameKind.free&&sc.kind==.function&&sc.names.lookup x==some .cell)=true
   .rw [if_pos c,lookup_cons];simp only[beq_self_eq_true,Option.map_some,if_pos c]
   .rw [if_neg c,lookup_cons];simp only[beq_self_eq_true,Option.map_some,if_neg c]
  | false =>
   dsimp only;by_cases c:(k==NameKind.free&&sc.kind==.function&&sc.names.lookup n==some .cell)=true
   .rw [if_pos c,lookup_cons,b];exact ih
   .rw [if_neg c,lookup_cons,b];exact ih
noncomputable def ownB (scope:Scope)(y:Str):Bool:=match scope.names.lookup y with
 | some .local=>true
 | some .cell=>true
 | _=>false
structure zCO (sc scope:Scope):Prop where
 kind:scope.kind=.function
 nd:(scope.names.map (·.1)).Nodup
 fr:∀ x∈scope.names,x.2=.free->sc.names.lookup x.1=some .cell\/sc.names.lookup x.1=some .free
def zCD:∀ (d:List (Str×NameKind)) (n:Nat) (a:List (Str×Addr)),(∀ x y c,a.lookup x=some c->a.lookup y=some c->x=y)->(∀ x c,a.lookup x=some c->c < n)->∀ x y c,(cellsFrom n d a).lookup x=some c->(cellsFrom n d a).lookup y=some c->x=y
 | [],n,a,h1,_,x,y,c,e1,e2=>h1 x y c e1 e2
 | (z,k)::r,n,a,h1,h2,x,y,c,e1,e2=>by
  unfold cellsFrom at e1 e2;cases b:k==.cell with
  | false =>
   rw[b,if_neg qX] at e1 e2;exact zCD r n a h1 h2 x y c e1 e2
  | true =>
   rw[b,if_pos rfl] at e1 e2;refine zCD r (n+1) _ ?_ ?_ x y c e1 e2
   .intro x y c q1 q2;rw[lookup_cons] at q1 q2;cases b1:x==z with
    | true =>
     cases b2:y==z with
     | true =>
      have e3:x=z:=by simpa using b1
      have e:y=z:=by simpa using b2
      rw[e3,e]
     | false =>
      rw[b1] at q1;rw[b2] at q2;cases q1;exact absurd (h2 y _ q2) (lt_irrefl _)
    | false =>
     cases b2:y==z with
     | true =>
      rw[b1] at q1;rw[b2] at q2;cases q2;exact absurd (h2 x _ q1) (lt_irrefl _)
     | false =>
      rw[b1] at q1;rw[b2] at q2;exact h1 x y c q1 q2
   .intro x c q1;rw[lookup_cons] at q1;cases b1:x==z with
    | true=>rw[b1] at q1;cases q1;exact Nat.lt_succ_self _
    | false=>rw[b1] at q1;exact Nat.lt_succ_of_lt (h2 x c q1)
theorem zA6 :∀ (names:List (Str×NameKind)) (n:Nat) (acc:List (Str×Addr)),(∃ c,acc.lookup x=some c)->∃ c,(cellsFrom n names acc).lookup x=some c
 | [],n,acc,h=>h
 | (z,k)::r,n,acc,h=>by
  unfold cellsFrom;cases b:k==.cell with
  | false=>rw[if_neg qX];exact zA6 r n acc h
  | true =>
   rw[if_pos rfl];refine zA6 r (n+1) _ ?_;rw[lookup_cons];cases b1:x==z with
   | true=>exact⟨_,rfl⟩
   | false=>exact h
theorem zCE :∀ (names:List (Str×NameKind)) (n:Nat) (acc:List (Str×Addr)),(x,NameKind.cell)∈names->∃ c,(cellsFrom n names acc).lookup x=some c
 | (z,k)::r,n,acc,hm=>by
  unfold cellsFrom;rcases mem_cons.mp hm with e | hm
  .cases e;rw[show (NameKind.cell==NameKind.cell)=true from rfl,if_pos rfl];exact zA6 r (n+1) _ ⟨n,by rw[lookup_cons];simp⟩
  .cases b:k==.cell with
   | false=>rw[if_neg qX];exact zCE r n acc hm
   | true=>rw[if_pos rfl];exact zCE r (n+1) _ hm
theorem zAw:∀ (names:List (Str×NameKind)) (h:Heap) (b:Addr) (o:Obj),h.get? b=some o->(pushCells h names).get? b=some o
 | [],h,b,o,e=>e
 | (z,k)::r,h,b,o,e=>by
  unfold pushCells;cases c:k==.cell with
  | false=>rw[if_neg qX];exact zAw r h b o e
  | true=>rw[if_pos rfl];exact zAw r _ b o (get?_push_of_some _ e)
theorem zBu:∀ (names:List (Str×NameKind)) (h:Heap) (acc:List (Str×Addr)),(∀ x c,acc.lookup x=some c->∃ v,h.IsCell c v)->∀ x c,(cellsFrom h.objs.size names acc).lookup x=some c->∃ v,(pushCells h names).IsCell c v
 | [],h,acc,q,x,c,e=>q x c e
 | (z,k)::r,h,acc,q,x,c,e=>by
  unfold cellsFrom at e;unfold pushCells;cases b:k==.cell with
  | false =>
   rw[b,if_neg qX] at e;rw[if_neg qX];exact zBu r h acc q x c e
  | true =>
   rw[b,if_pos rfl] at e;rw[if_pos rfl];have es:(h.push { cls:=.type "cell",data:=.cell none }).objs.size=h.objs.size+1:=Heap.size_push ..;rw[<- es] at e;refine zBu r (h.push { cls:=.type "cell",data:=.cell none }) ((z,h.objs.size)::acc) ?_ x c e;intro y d p;rw[lookup_cons] at p;cases b1:y==z with
   | true =>
    rw[b1] at p;cases p;exact⟨none,_,get?_push_size _ rfl,rfl⟩
   | false =>
    rw[b1] at p;obtain⟨v,o,ho,hd⟩:=q y d p;exact⟨v,o,get?_push_of_some _ ho,hd⟩
noncomputable def zBp (scope:Scope)(X:Cx)(s:Shared):Env :=
 { newEnv scope s.heap.objs.size X.env.globals (cellsFrom (s.heap.objs.size+1) scope.names (zBt X.env scope.names [])) X.env.qual none .none (some X.env) builtinsNs with scope:=relabel scope X.env }
noncomputable def zAY (X:Cx)(N:List Str)(scope:Scope)(s:Shared)(H:Hp)(fp:List Addr):Cx :=
 { X with N:=N,s0:=s,Y8:=H,env:=zBp scope X s,outer:=X.stack,stack:=X.stack,ex:=fp,fn:=ownB scope,pn:=[],xe:=λ_ _=>False }
section
variable {X:Cx}{pins:List (Addr×Obj)}{σ σc:St}{H:Hp}{s:Shared}{fp:List Addr}{scope:Scope}{N:List Str}
def zEg (I:Inv X pins σ H s)(cs:zCO X.env.scope scope):∀ x∈scope.names,x.2=.free->∃ c,X.env.cells.lookup x.1=some c:=λx b a =>
 I.ok.has x.1 (cs.fr x b a)
def zMo (I:Inv X pins σ H s)(D:∀ b∈fp,FpOk X pins H b/\∃ o,s.heap.get? b=some o)(cs:zCO X.env.scope scope)
  (Z7:∀ (i:Nat) (x:Str) (v:V),N[i]?=some x->σc[i]?=some (some v)->Vis (relS X.env.scope scope) x->scope.names.lookup x=some .free/\∃ j:Nat,X.N[j]?=some x/\σ[j]?=some (some v)) (C:σc.length=N.length) :
  Inv (zAY X N scope s H fp) [] σc H { s with heap:=pushCells (s.heap.push { cls:=.type "dict",data:=.dict #[] }) scope.names }:=by
 have O:∀ b o,s.heap.get? b=some o->(pushCells (s.heap.push { cls:=.type "dict",data:=.dict #[] }) scope.names).get? b=some o:=λb o e=>zAw _ _ b o (get?_push_of_some _ e)
 have a:∀ x c,(zBt X.env scope.names []).lookup x=some c->X.env.cells.lookup x=some c:=λx c e=>zGm scope.names [] (λ_ _ q=>by simp at q) x c e
 have n:∀ x c,(zBt X.env scope.names []).lookup x=some c->c < s.heap.objs.size:=λx c e=>by
  obtain⟨v,q⟩:=I.cell x c (a x c e);exact q.lt
 have f:∀ x c,(zBp scope X s).cells.lookup x=some c->((x,NameKind.cell)∈scope.names/\s.heap.objs.size+1<=c)\/(zBt X.env scope.names []).lookup x=some c:=λx c e=>zCF scope.names _ _ c e
 have R:∀ x,(zBp scope X s).kindOf x=(scope.names.lookup x).map λk=>if (k==NameKind.free&&X.env.scope.kind==.function&&X.env.scope.names.lookup x==some .cell) then NameKind.cell else k:=λx=>zDV (sc:=X.env.scope) scope.names x
 have J:(s.heap.push { cls:=.type "dict",data:=.dict #[] }).objs.size=s.heap.objs.size+1:=Heap.size_push ..;refine⟨⟨I.ok.mod,cs.kind,I.ok.glob,I.ok.blt,le_refl _,λx y c h1 h2=>?_,λx g=>?_,λx c g h=>?_,I.ok.hd,I.ok.frames,.inl rfl,λb A=>⟨?_,λx c h z=>?_⟩,λb o e=>I.bs b o e,le_trans I.ok.bsz I.sz,λb o e A=>?_,λb A z=>?_,I.stack,I.stkFree,I.ok.pyl,I.tabs⟩,
  rfl,I.bare,Un.kept O,⟨λ_=>none,?_,λi x v h1 h2 h3=>?_⟩,λx c h=>?_,I.hok.fresh (le_refl _),λx c h=>?_,λp hp=>absurd (show p∈([]:List (Addr×Obj)) from hp) (by simp),I.hok.kept O,C⟩
 .exact zCD scope.names _ _ (λx y c B M=>I.ok.inj x y c (a x c B) (a y c M)) (λx c q=>Nat.lt_succ_of_lt (n x c q)) x y c h1 h2
 .replace g:(zBp scope X s).kindOf x=some .cell\/(zBp scope X s).kindOf x=some .free:=g;rw[R x] at g;cases q:scope.names.lookup x with
  | none=>rw[q] at g;simp at g
  | some k =>
   rw[q] at g;by_cases kf:k=.free
   .subst kf;have l:=zDW q;exact zA6 scope.names _ _ (zEh scope.names [] l (zEg I cs _ l rfl))
   .have F:(k==NameKind.free)=false:=by simpa using kf
    simp only[F,Bool.false_and,Option.map_some,Bool.false_eq_true,if_false] at g;rcases g with g | g
    .cases g;exact zCE scope.names _ _ (zDW q)
    .cases g;exact absurd rfl kf
 .rcases f x c h with ⟨_,q⟩ | q
  .exact le_trans (Nat.le_succ _) q
  .rcases zFI scope.names [] c q with l | ⟨d,l⟩
   .have F:=zCo cs.nd l;have t:ownB scope x=true:=g;unfold ownB at t;rw[F] at t;cases t
   .simp at l
 .obtain ⟨_,o,e⟩:=D b A;exact ne_of_lt (lt_size e)
 .obtain ⟨⟨Q,P,L,r,K,S⟩,o,e⟩:=D b A;rcases f x c h with ⟨_,q⟩ | q
  .have:=lt_size e;rw[z] at q;exact absurd (xj (Nat.lt_succ_of_lt this) q) (lt_irrefl _)
  .exact K x c (a x c q) z
 .obtain ⟨⟨Q,P,L,r,K,S⟩,_⟩:=D b A;rcases r with r | r
  .exact I.ok.noex b o e r
  .exact absurd (xj (lt_size e) (le_trans I.ok.bsz r)) (lt_irrefl _)
 .obtain ⟨⟨Q,P,L,r,K,S⟩,_⟩:=D b A;rcases mem_cons.mp (I.stkSub b z) with q | q
  .exact P q
  .exact L q
 .exact (Heap.Ns.new s.heap (.type "dict")).keeps (zAw _ _)
 .obtain ⟨B,j,M,U⟩:=Z7 i x v h1 h2 h3;have l:=zDW B;have Y:=cs.fr _ l rfl;obtain⟨m,hn,hl⟩:=I.loc;obtain⟨u,W,lk⟩:=hl j x v M U (Y.elim (λe=>.inr (.inl e)) λe=>.inr (.inr e));refine⟨u,W,.inr ⟨?_,?_⟩⟩
  .show (zBp scope X s).kindOf x=_\/(zBp scope X s).kindOf x=_;rw[R x,B];dsimp only[Option.map_some];split
   .exact .inl rfl
   .exact .inr rfl
  .rcases lk with ⟨Z,_⟩ | ⟨_,c,k2,k3⟩
   .have T:X.env.scope.names.lookup x=some .local:=Z
    simp_all
   .obtain ⟨G,E⟩:=zA6 scope.names (s.heap.objs.size+1) _ (zEh (env:=X.env) scope.names [] l ⟨c,k2⟩);refine⟨G,E,?_⟩;rcases f x G E with ⟨z,_⟩ | z
    .have:=zCo cs.nd z;rw[B] at this;cases this
    .have:=a x G z;rw[k2] at this;cases this;exact k3.keeps O
 .have E:(cellsFrom (s.heap.push { cls:=.type "dict",data:=.dict #[] }).objs.size scope.names (zBt X.env scope.names [])).lookup x=some c:=by rw[J];exact h
  exact zBu scope.names _ _ (λy d q=>by
   obtain⟨v,w⟩:=I.cell y d (a y d q);exact⟨v,w.keeps λb o e=>get?_push_of_some _ e⟩) x c E
 .rcases f x c h with ⟨_,q⟩ | q
  .exact I.hok.fresh (le_trans (Nat.le_succ _) q)
  .exact I.freeC x c (a x c q)
end
noncomputable def noN (N:List Str):Str:=Str.ofString (String.ofList (List.replicate N.length (Char.ofNat 32)))
noncomputable def mask {O:Type}(z:O):List Nat->List O->List O
 | [],l=>l
 | m::ms,l=>mask z ms (l.set m z)
theorem zA7 {O:Type}(z:O):∀ (ms:List Nat) (l:List O),(mask z ms l).length=l.length
 | [],l=>rfl
 | m::ms,l=>by unfold mask;rw[zA7 z ms,length_set]
theorem zBY {O:Type}{z y:O}{i:Nat}:∀ {ms:List Nat} {l:List O},(mask z ms l)[i]?=some y->(y=z/\i∈ms)\/(l[i]?=some y/\i∉ms)
 | [],l,h=>.inr ⟨h,by simp⟩
 | m::ms,l,h=>by
  unfold mask at h;rcases zBY h with ⟨e,hm⟩ | ⟨e,hm⟩
  .exact .inl ⟨e,qY _ hm⟩
  .rcases zAS e with ⟨e1,e2,_⟩ | ⟨ne,e1⟩
   .exact .inl ⟨e2,by rw[<- e1];exact q0⟩
   .exact .inr ⟨e1,λz=>(mem_cons.mp z).elim (λq=>ne q.symm) hm⟩
theorem zFm {O:Type}{z:O}{i:Nat}:∀ {ms:List Nat} {l:List O},i∉ms->(mask z ms l)[i]?=l[i]?
 | [],l,_=>rfl
 | m::ms,l,h=>by
  unfold mask;rw[zFm λq=>h (qY _ q),getElem?_set_ne λq=>h (by rw[q];exact q0)]
def zCI {O:Type}{l:List (Option O)}{k i:Nat}{y:O}(h:(l++List.replicate k none)[i]?=some (some y)):l[i]?=some (some y)/\i < l.length:=by
 by_cases hi:i < l.length
 .rw [getElem?_append_left hi] at h;exact⟨h,hi⟩
 .rw [getElem?_append_right (by omega),getElem?_replicate] at h;grind
theorem DS.ext {K:W.Frag}{σ:St}(h:DS K H S σ G)(ms:List Nat)(k:Nat):DS K H S (mask none ms σ++List.replicate k none) (mask none ms G++List.replicate k none):=by
 refine⟨by rw[List.length_append,List.length_append,zA7,zA7,h.len,length_replicate,length_replicate],h.sok,λi d o q=>?_,λi j d e a q1 q2 q3 q4=>?_⟩
 .obtain ⟨q,hi⟩:=zCI q;rcases zBY q with ⟨z,_⟩ | ⟨q,ni⟩
  .cases z
  .obtain ⟨v,w1,w2⟩:=h.get i d o q;exact⟨v,by rw[getElem?_append_left (by rw[zA7] at hi ⊢;rw[h.len];exact hi),zFm ni];exact w1,w2⟩
 .obtain ⟨q1,_⟩:=zCI q1;obtain⟨q2,_⟩:=zCI q2;obtain⟨q3,_⟩:=zCI q3;obtain⟨q4,_⟩:=zCI q4;rcases zBY q1 with ⟨z,_⟩ | ⟨q1,_⟩
  .cases z
  rcases zBY q2 with ⟨z,_⟩ | ⟨q2,_⟩
  .cases z
  rcases zBY q3 with ⟨z,_⟩ | ⟨q3,_⟩
  .cases z
  rcases zBY q4 with ⟨z,_⟩ | ⟨q4,_⟩
  .cases z
  exact h.inj i j d e a q1 q2 q3 q4
noncomputable def zCt (t:D->Dst->Option Dst)(c:Dst->Option Bool)(e:Dst->Option R):List D->Dst->Option (List D)
 | [],_=>some []
 | x::xs,G=>(t x G).bind λO5=>(c O5).bind λb=>if b=true then (e O5).bind λr=>if r.2=.dt then none else (zCt t c e xs O5).bind λys=>some (r.1::ys) else zCt t c e xs O5
noncomputable def zJC (ms:List Nat)(k:Nat)(f:Dst->Option (List D))(t:D->Dst->Option Dst)(c:Dst->Option Bool)(e:Dst->Option R):Dst->Option R:=λG =>
 (f G).bind λzs=>if zs.length<=10000 then (zCt t c e zs (mask none ms G++List.replicate k none)).bind λys=>some (.lst ys,.fr) else none
def GCs (X:Cx)(ifs:List Expr)(c:Dst->Option Bool):Prop:=∀ (pins:List (Addr×Obj)) (s:Shared) (σ:St) (H:Hp) (Q:Bool->Hp->Prop),Inv X pins σ H s->gB X.K c σ H Q ->
 wpAny (model X.prog X.w) X.A (forIn ifs true λc r=>if r=true then do let ok<-isTrue c X.env (eval c X.env);pure (ForInStep.yield ok) else pure (ForInStep.yield r)) (TP X pins σ Q) X.xe s
section
variable {X:Cx}
def zIU (F:X.calm=true)(d3:PI X tg iter wi)(cs:zCO X.env.scope scope)
  (hm:∀ (i:Nat) x,X.N[i]?=some x->ownB scope x=true->i∈ms)
    {σ:St}  (I:Inv X pins σ H s) {L:It->Hp->Nat->Nat->St->Hp->List V->Prop} {Z:Hp->Hp->List V->Prop}
  (h0:wi σ H λJ H2=>∃ n,L J H2 n 0 (mask none ms σ++List.replicate xs.length none) H2 [])
  (len:∀ {J H2 n i O1 H' vs},L J H2 n i O1 H' vs->vs.length<=10000)
  (step:∀ {J H2 n i O1 H' vs} (s3:Shared) (fp:List Addr),L J H2 n i O1 H' vs->(J.stop i H'/\Z H2 H' vs)\/∃ n',n' < n/\J.go i H'/\∀ v H5,J.yld i H' v H5->H5=H' /\
   ∀ (Y:Cx),Y=zAY X (mask (noN X.N) ms X.N++xs) scope s3 H2 fp->∀ (pn:List (Addr×Obj)) (s5:Shared) (u:Value) (E:Value->Shared->Prop),Inv Y pn O1 H' s5->RelV v u ->
    wpAny (model X.prog X.w) X.A (assign tg Y.env u) (λ_ s6=>wpAny (model X.prog X.w) X.A (forIn ifs true λc r=>if r=true then do let ok<-isTrue c Y.env (eval c Y.env);pure (ForInStep.yield ok) else pure (ForInStep.yield r)) (λok s7 =>
     if ok=true then wpAny (model X.prog X.w) X.A (eval elt Y.env) (λuv s8=>∃ v' O4 H8,Inv Y pn O4 H8 s8/\RelV v' uv/\L J H2 n' (i+1) O4 H8 (vs++[v'])) E s7 else ∃ O4 H8,Inv Y pn O4 H8 s7/\L J H2 n' (i+1) O4 H8 vs) E s6) E s5)
  {RR:Value->Addr->Result->Shared->Prop}
  (d7:∀ (D C:Addr) (s1:Shared) (H'':Hp) (m:Str->Option Value),s1.heap.Ns C m->(∀ h',Heap.SameBut C s1.heap h'->Inv X pins σ H'' { s1 with heap:=h' })->H'' C=none->C≠X.env.locals->C∉X.fs->X.s0.heap.objs.size<=C ->
   (∀ x c,X.env.cells.lookup x=some c->c≠C)->(∀ p∈X.pn++pins,p.1≠C)->(∃ H2 H' vs,Z H2 H' vs/\H2 D=none/\H' D=none/\H''=upd H' D (.lst vs))->RR (.ref D) C (.ok .next) s1) :
  wpAny (model X.prog X.w) X.A (eval iter X.env) (λx O3=>wpAny (model X.prog X.w) X.A (pyIter x) (λit Y1=>wpAny (model X.prog X.w) X.A (newList []) (λacc Y4 =>
   wpAny (model X.prog X.w) X.A (newFunctionEnv scope X.env.globals (zBt X.env scope.names []) [] X.env.qual none .none (some X.env)) (λcenv Y7 =>
    codeAny (model X.prog X.w) X.A (.compStart (.ListComp elt [⟨tg,iter,ifs,0⟩] scope pos) 0 it acc { cenv with scope:=relabel scope X.env }) (RR acc cenv.locals) Y7) X.xe Y4) X.xe Y1) X.xe O3) X.xe s:=by
 refine thn (d3 pins s σ H _ I h0) λv s1 h1=>thn h1 λitv M h2=>?_
 obtain⟨it,fp,tn,J,H2,rfl,K,T,a3,f2,n0,l0⟩:=h2;refine wpAny_newObj_type (zHO ?_);have e3:∃ s3:Shared,s3={ M with heap:=M.heap.push { cls:=.type "list",dict:=none,data:=.seq ([]:List Value).toArray } }:=⟨_,rfl⟩;obtain⟨s3,y⟩:=e3;rw[<- y];have eD:∃ D,D=M.heap.objs.size:=⟨_,rfl⟩;obtain⟨D,hD⟩:=eD;rw[<- hD];have hC:s3.heap.objs.size=D+1:=by rw[y,hD];exact Heap.size_push ..
 have l:∀ b o,M.heap.get? b=some o->s3.heap.get? b=some o:=λb o q=>by rw[y];exact get?_push_of_some _ q
 have I3:Inv X pins σ H2 s3:=by rw[y];exact K.kept (t':=M.toks) λb o q=>get?_push_of_some _ q
 have oD:s3.heap.get? D=some { cls:=.type "list",data:=.seq ([]:List Value).toArray }:=by rw[y,hD];exact get?_push_size _ rfl
 have a8:H2 D=none:=by rw[hD];exact K.hok.fresh (le_refl _)
 have U:∀ b∈fp,b < D:=λb a=>by
  obtain⟨o,q,_⟩:=T.obj _ _ a3 b a;rw[hD];exact lt_size q
 have c5:∀ b∈D::fp,FpOk X pins H2 b/\∃ o,s3.heap.get? b=some o:=λb a=>by
  rcases mem_cons.mp a with rfl | a
  .exact ⟨K.fpOk (by rw[hD];exact le_refl _) a8,_,oD⟩
  .obtain ⟨o,q,_⟩:=T.obj _ _ a3 b a;exact⟨f2 b a,o,l b o q⟩
 have c6:(mask none ms σ++List.replicate xs.length none).length=(mask (noN X.N) ms X.N++xs).length:=by
  rw[List.length_append,List.length_append,zA7,zA7,length_replicate,I.len]
 have Ic:=zMo (fp:=D::fp) (N:=mask (noN X.N) ms X.N++xs) (σc:=mask none ms σ++List.replicate xs.length none) I3 c5 cs (λi x v q1 W q3=>by
  obtain⟨W,c8⟩:=zCI W;rcases zBY W with ⟨z,_⟩ | ⟨W,ni⟩
  .cases z
  have d9:i < (mask (noN X.N) ms X.N).length:=by rw[zA7] at c8 ⊢;rw[<- I.len];exact c8
  rw[getElem?_append_left d9] at q1;rcases zBY q1 with ⟨_,z⟩ | ⟨q1,_⟩
  .exact absurd z ni
  refine⟨?_,i,q1,W⟩;have no:ownB scope x=false:=by
   cases b:ownB scope x with
   | false=>rfl
   | true=>exact absurd (hm i x q1 b) ni
  unfold Vis relS at q3;rw[zDV] at q3;unfold ownB at no;cases w:scope.names.lookup x with
  | none=>rw[w] at q3;simp at q3
  | some k =>
   rw[w] at no;cases k with
   | free=>rfl
   | «local»=>cases no
   | cell=>cases no
   | _=>rw[w] at q3;simp at q3) c6
 have b4:tn 0 (pushCells (s3.heap.push { cls:=.type "dict",data:=.dict #[] }) scope.names):=T.keep 0 _ _ a3 λb a o q=>zAw _ _ b o (get?_push_of_some _ (l b o q))
 have R:codeAny (model X.prog X.w) X.A (.compLoop (.ListComp elt [⟨tg,iter,ifs,0⟩] scope pos) 0 (.ref it) (.ref D) (zBp scope X s3)) (RR (.ref D) s3.heap.objs.size) { s3 with heap:=pushCells (s3.heap.push { cls:=.type "dict",data:=.dict #[] }) scope.names }:=by
  refine zGl (λn s'=>∃ (i:Nat) (O1:St) (H':Hp) (vs:List V) (g:List Value),Inv (zAY X (mask (noN X.N) ms X.N++xs) scope s3 H2 (D::fp)) [] O1 H' s'/\tn i s'.heap/\(∀ b∈D::fp,H' b=none)/\s'.heap.PlainList D g.toArray/\Vals vs g/\L J H2 n i O1 H' vs) ?_ n0
   ⟨0,_,H2,[],[],Ic,b4,λb a=>(c5 b a).1.1,⟨_,zAw _ _ D _ (get?_push_of_some _ oD)⟩,.nil,l0⟩
  rintro n s' ⟨i,O1,H',vs,g,A,c9,b0,⟨nD,pl⟩,rv,ll⟩;have a0:g.length<=10000:=by rw[<- rv.length];exact len ll
  have a6:∀ {b:Addr} {pn:List (Addr×Obj)} {Hx:Hp},b∈D::fp->Hx b=none->(∀ p∈pn,p.1≠b)->FpOk (zAY X (mask (noN X.N) ms X.N++xs) scope s3 H2 (D::fp)) pn Hx b:=λ{b pn Hx} a hn j =>
   ⟨hn,(A.ok.exf b a).1,A.ok.exfs b a,.inl a,(A.ok.exf b a).2,λp e1=>j p (show p∈pn from e1)⟩
  have c7:∀ {p:Addr×Obj} {h:Heap},p∈zCM [D] h->p.1=D:=λ{p h} j=>by simpa using (zGQ j).1
  have I0:Inv (zAY X (mask (noN X.N) ms X.N++xs) scope s3 H2 (D::fp)) ([]++zCM [D] s'.heap) O1 H' s':=A.pinned (fp:=[D]) (λb a=>by
   have eb:b=D:=by simpa using a
   subst eb;exact a6 q0 (b0 _ q0) λp j=>absurd j (by simp)) λb a=>by
   have eb:b=D:=by simpa using a
   subst eb;exact⟨_,pl,λv z=>by cases z⟩
  have b7:∀ b∈fp,FpOk (zAY X (mask (noN X.N) ms X.N++xs) scope s3 H2 (D::fp)) ([]++zCM [D] s'.heap) H' b:=λb a=>a6 (qY _ a) (b0 b (qY _ a)) λp j z=>by
   have q1:=c7 (by simpa using j);have W:=U b a;rw[<- z,q1] at W;exact absurd W (lt_irrefl _)
  have S:(D,_)∈zCM [D] s'.heap:=zCn (by simp) pl;rcases step s3 (D::fp) ll with ⟨d6,ze⟩ | ⟨n',hn',go,yl⟩
  case inr =>
   refine wpAny_mono (T.item (zAY X (mask (noN X.N) ms X.N++xs) scope s3 H2 (D::fp)) rfl rfl rfl F i ([]++zCM [D] s'.heap) s' O1 H' _ I0 b7 c9 go) (λr s4 b5=>?_) λ_ _ z=>z
   obtain⟨u,hr,h4⟩:=b5;subst hr;refine wpAny_mono h4 (λ_ s5 c1=>?_) λ_ _ z=>z
   obtain⟨x,H5,I5,r5,y5,Q,g8⟩:=c1;obtain⟨rfl,hv⟩:=yl x H5 y5;have O:=(I5.pin (D,_) (q9 _ (q9 _ S))).1;have d5:Inv (zAY X (mask (noN X.N) ms X.N++xs) scope s3 H2 (D::fp)) ([]++zCM (D::fp) s5.heap) O1 H5 s5:=I5.unpinned.pinned (fp:=D::fp) (λb a=>a6 a (b0 b a) λp j=>absurd j (by simp)) λb a=>by
    rcases mem_cons.mp a with rfl | a
    .exact ⟨_,O,λv z=>by cases z⟩
    .exact T.obj _ _ Q b a
   have e:∀ {Hx:Hp} {sx:Shared} {U2:St},Inv (zAY X (mask (noN X.N) ms X.N++xs) scope s3 H2 (D::fp)) ([]++zCM (D::fp) s5.heap) U2 Hx sx->∀ b∈D::fp,(∀ o,s5.heap.get? b=some o->sx.heap.get? b=some o)/\Hx b=none:=λ{Hx sx U2} Ix b a=>by
    have q:∃ o,s5.heap.get? b=some o:=by
     rcases mem_cons.mp a with rfl | a
     .exact ⟨_,O⟩
     .obtain ⟨o,q,_⟩:=T.obj _ _ Q b a;exact⟨o,q⟩
    obtain⟨o,q⟩:=q;have w:=Ix.pin (b,o) (q9 _ (q9 _ (zCn a q)));exact⟨λo' q'=>by rw[q] at q';cases q';exact w.1,w.2.1⟩
   refine wpAny_mono (hv _ rfl _ s5 u _ d5 r5) (λ_ s6 h6=>wpAny_mono h6 (λok s7 h7=>?_) λ_ _ z=>z) λ_ _ z=>z
   cases ok with
   | false =>
    rw[if_neg qX] at h7 ⊢;obtain⟨O4,H7,I7,l7⟩:=h7;exact⟨n',hn',i+1,O4,H7,vs,g,I7.unpinned,T.keep _ _ _ Q λb a o q=>(e I7 b (qY _ a)).1 o q,λb a=>(e I7 b a).2,⟨nD,(e I7 D q0).1 _ O⟩,rv,l7⟩
   | true =>
    rw[if_pos rfl] at h7 ⊢;refine wpAny_mono h7 (λuv s8 c2=>?_) λ_ _ z=>z
    obtain⟨v,O4,H8,I8,e7,l8⟩:=c2;have e0:=(e I8 D q0).1 _ O;refine wpAny_list_append_plain (hsz:=by rw[xq];exact zDB a0) ⟨nD,e0⟩ λh9 e2 c4=>?_
    have I9:Inv (zAY X (mask (noN X.N) ms X.N++xs) scope s3 H2 (D::fp)) [] O4 H8 { s8 with heap:=h9 }:=I8.unpinned.turned (it:=D) (t':=s8.toks) (λb o a q=>c4.extBut b o a q) (e I8 D q0).2 (A.ok.exf D q0).1 (.inl q0) (A.ok.exf D q0).2 λp j=>absurd (show p∈([]:List (Addr×Obj)) from j) (by simp)
    refine⟨n',hn',i+1,O4,H8,vs++[v],g++[uv],I9,T.keep _ _ _ Q λb a o q=>c4.extBut b o (λz=>?_) ((e I8 b (qY _ a)).1 o q),λb a=>(e I8 b a).2,?_,rv.append (.cons e7 .nil),l8⟩
    .have:=U b a;rw[z] at this;exact absurd this (lt_irrefl _)
    .have ea:g.toArray.push uv=(g++[uv]).toArray:=by simp
     rw[<- ea];exact e2
  case inl =>
   refine wpAny_mono (T.done (zAY X (mask (noN X.N) ms X.N++xs) scope s3 H2 (D::fp)) rfl rfl rfl F _ ([]++zCM [D] s'.heap) s' O1 H' _ I0 b7 c9 d6) (λr s4 b6=>?_) λ_ _ z=>z
   obtain⟨hr,t⟩:=b6;subst hr;obtain⟨m,ns,_⟩:=id t.loc;have eC:(zAY X (mask (noN X.N) ms X.N++xs) scope s3 H2 (D::fp)).env.locals=D+1:=hC;rw[eC] at ns;have c3:=t.pin (D,_) (q9 _ (q9 _ S));have HD:H' D=none:=c3.2.1;have HC:H' (D+1)=none:=by have:=t.free;rw[eC] at this;exact this
   have CD:D≠D+1:=ne_of_lt (Nat.lt_succ_self D);have a1:∀ {b:Addr} {o:HO},H' b=some o->b≠D:=λ{b o} q z=>by rw[z,HD] at q;cases q
   have a2:∀ {b:Addr} {o:HO},H2 b=some o->b≠D:=λ{b o} q z=>by rw[z,a8] at q;cases q
   have a9:∀ {b:Addr} {o:Obj},M.heap.get? b=some o->b < D:=λ{b o} q=>by rw[hD];exact lt_size q
   have f:∀ {b:Addr} {o:Obj},M.heap.get? b=some o->b∉fp->b∉D::fp:=λ{b o} q P z=>(mem_cons.mp z).elim (λz=>absurd (a9 q) (by rw[z];exact lt_irrefl _)) P
   have a4:∀ {b:Addr} {o:Obj},M.heap.get? b=some o->b≠D+1:=λ{b o} q=>ne_of_lt (Nat.lt_succ_of_lt (a9 q))
   have a7:M.heap.objs.size<=D+1:=by rw[<- hD];exact Nat.le_succ _
   show RR (.ref D) s3.heap.objs.size (.ok .next) s4;rw[hC];refine d7 D (D+1) s4 (upd H' D (.lst vs)) m ns (λh' sb=>?_) ?_ (Nat.ne_of_gt (xj K.lt a7)) (K.nofs a7) (le_trans K.sz a7) (λx c q z=>?_) (λp j z=>?_) ⟨H2,H',vs,ze,a8,HD,rfl⟩
   .refine K.call' (s':={ s4 with heap:=h' }) (ch:=fp) ?_ ⟨λb o q n a P=>sb.extBut b o (a4 q) (t.base.keep b o (l b o q) n a (f q P)),λb o q n a P=>?_,λb o q n P=>?_,λb o q P=>?_,λb ws q=>?_,λb o w q=>?_,λb ps q=>?_⟩ (λb w q=>?_) t.bare λb a=>?_
    .have:=t.os;rw[y] at this;exact this
    .obtain ⟨sl,w⟩:=t.base.slot b o (l b o q) n a (f q P);exact⟨sl,sb.extBut b _ (a4 q) w⟩
    .rw [zAQ (ne_of_lt (a9 q))];exact t.base.free b o (l b o q) n (f q P)
    .obtain ⟨o',w⟩:=t.base.there b o (l b o q) (f q P);exact⟨o',sb.extBut b _ (a4 q) w⟩
    .rw [zAQ (a2 q)];exact t.base.tups b ws q
    .rw [zAQ (a2 q)];exact t.base.frzs b o w q
    .rw [zAQ (a2 q)];exact t.base.tbls b ps q
    .by_cases z:b=D
     .subst z;rw[zAW] at q;cases q;exact⟨by rw[rv.length];exact zDB a0,g,nD,rv,sb.extBut b _ CD c3.1⟩
     .rw [zAQ z] at q;refine(t.hok b w q).stay (λd v hd G=>sb.extBut d v (λz'=>?_) G) (λd G=>by rw[zAQ (a1 G)];exact G) (λd ws G=>by rw[zAQ (a1 G)];exact G) λd ob u G _=>by rw[zAQ (a1 G)];exact G
      rcases hd with hd | hd
      .rw [<- hd,z',HC] at q;cases q
      .rw [z',HC] at hd;cases hd
    .obtain ⟨f0,f1,h3,f3,f4,f5⟩:=f2 b a;exact⟨f3,f1,f4,f5⟩
   .rw [zAQ (Ne.symm CD)];exact HC
   .obtain ⟨v,w⟩:=K.cell x c q;have:=w.lt;rw[z,<- hD] at this;exact absurd (Nat.lt_trans this (Nat.lt_succ_self D)) (lt_irrefl _)
   .have:=lt_size (K.pin p j).1;rw[z,<- hD] at this;exact absurd (Nat.lt_trans this (Nat.lt_succ_self D)) (lt_irrefl _)
 exact codeAny_compStart_list R (T.self X.A 0 _ _ _ b4 R)
theorem zGi (hcalm:X.calm=true)(hi:GI X tg iter f)(cs:zCO X.env.scope scope)
  (hm:∀ (i:Nat) x,X.N[i]?=some x->ownB scope x=true->i∈ms)
  (hg:∀ s H fp,GG (zAY X (mask (noN X.N) ms X.N++xs) scope s H fp) tg t)
  (hc:∀ s H fp,GCs (zAY X (mask (noN X.N) ms X.N++xs) scope s H fp) ifs c) (he:∀ s H fp,GE (zAY X (mask (noN X.N) ms X.N++xs) scope s H fp) elt e)
    {σ:St}     (I:Inv X pins σ H s) (ds:DS X.K H S σ G) (ez:f G=some zs) (hz:zs.length<=10000) (ey:zCt t c e zs (mask none ms G++List.replicate xs.length none)=some ys)
  {RR:Value->Addr->Result->Shared->Prop}
  (fin:∀ (D C:Addr) (s1:Shared) (H'':Hp) (m:Str->Option Value),s1.heap.Ns C m->(∀ h',Heap.SameBut C s1.heap h'->Inv X pins σ H'' { s1 with heap:=h' })->H'' C=none->C≠X.env.locals->C∉X.fs->X.s0.heap.objs.size<=C ->
   (∀ x c,X.env.cells.lookup x=some c->c≠C)->(∀ p∈X.pn++pins,p.1≠C)->Same H H''->RV X.K H H'' S (.lst ys,.fr) (.ref D)->RR (.ref D) C (.ok .next) s1) :
  wpAny (model X.prog X.w) X.A (eval iter X.env) (λx O3=>wpAny (model X.prog X.w) X.A (pyIter x) (λit Y1=>wpAny (model X.prog X.w) X.A (newList []) (λacc Y4 =>
   wpAny (model X.prog X.w) X.A (newFunctionEnv scope X.env.globals (zBt X.env scope.names []) [] X.env.qual none .none (some X.env)) (λcenv Y7 =>
    codeAny (model X.prog X.w) X.A (.compStart (.ListComp elt [⟨tg,iter,ifs,0⟩] scope pos) 0 it acc { cenv with scope:=relabel scope X.env }) (RR acc cenv.locals) Y7) X.xe Y4) X.xe Y1) X.xe O3) X.xe s:=by
 obtain⟨wi,hwi,hI⟩:=hi;refine zIU hcalm hwi cs hm I (L:=λJ H2 n i O1 H' vs=>(Same H H2/\∀ (i:Nat) H3,i<=zs.length->Same (hide H2 S) H3->(i=zs.length->J.stop i H3)/\(i < zs.length->J.go i H3/\∀ v H4,J.yld i H3 v H4->H4=H3/\∀ x,zs[i]?=some x->Den X.K (hide H2 S) x v)) /\
   ∃ (G':Dst) (done more:List DL.D),DS X.K H' S O1 G'/\Same H2 H'/\DenL X.K (hide H' S) done vs/\zCt t c e (zs.drop i) G'=some more/\done++more=ys/\i<=zs.length/\done.length<=i/\n=zs.length - i) (Z:=λH2 H' vs=>Same H H2/\Same H2 H'/\DenL X.K (hide H' S) ys vs)
  (hI σ H S G zs _ ds ez λJ H1 s1 hJ=>⟨_,⟨s1,hJ⟩,_,[],ys,(ds.mono s1).ext ms xs.length,Same.refl _,.nil,by rw[List.drop_zero];exact ey,rfl,zero_le _,le_refl _,rfl⟩) (λ{J H2 n i O1 H' vs} ll=>?_) (λ{J H2 n i O1 H' vs} s3 fp ll=>?_) λD C s1 H'' m h1 h2 h3 h4 h5 h6 h7 h8 ll=>?_
 .obtain ⟨_,G',done,more,_,_,dn,_,_,hi',hl',_⟩:=ll;rw[<- dn.length];exact le_trans hl' (le_trans hi' hz)
 .obtain ⟨⟨s12,hJ⟩,G',done,more,ds',sm,dn,ec,ed,hi',hl',rfl⟩:=ll;obtain⟨j1,j2⟩:=hJ i H' hi' (zAf.trans sm);by_cases hlt:i < zs.length
  case neg =>
   rw[drop_eq_nil_of_le (by omega)] at ec;cases ec;rw[append_nil] at ed;exact .inl ⟨j1 (by omega),s12,sm,ed▸dn⟩
  obtain⟨go,yl⟩:=j2 hlt;refine .inr ⟨zs.length - (i+1),by omega,go,λx H5 y5=>?_⟩;obtain⟨rfl,hv⟩:=yl x H5 y5;refine⟨rfl,λY eY pn s5 u E I5 r5=>?_⟩;subst eY;rw[List.drop_eq_getElem_cons hlt] at ec;obtain⟨O5,e1,ec⟩:=bind_some ec;obtain⟨b,eb,ec⟩:=bind_some ec;obtain⟨g,hg1,hg2⟩:=hg s3 H2 fp;have dx:Den X.K (hide H5 S) zs[i] x:=(hv _ (by simp[hlt])).mono (zAP sm);refine wpAny_mono (hg1 pn s5 O1 H5 x u _ I5 r5 (hg2 X.K rfl zs[i] x O1 H5 S G' O5 (λO4 H6=>H6=H5/\DS X.K H5 S O4 O5) ds' dx e1 λO4 d6=>⟨rfl,d6⟩)) (λ_ s6 zz68=>?_) λ_ _ z=>z.elim
  obtain⟨O4,H6,I6,q6,ds6⟩:=zz68;subst q6;refine wpAny_mono (hc s3 H2 fp pn s6 O4 H6 (λb' H7=>b'=b/\Same H6 H7) I6 ⟨S,O5,b,ds6,eb,λH7 s7=>⟨rfl,s7⟩⟩) (λok s7 zz69=>?_) λ_ _ z=>z.elim
  obtain⟨H7,I7,q7,s67⟩:=zz69;subst q7;cases ok with
  | false =>
   rw[if_neg qX] at ec ⊢;exact⟨O4,H7,I7,⟨s12,hJ⟩,O5,done,more,ds6.mono s67,sm.trans s67,dn.mono (zAP s67),ec,ed,hlt,Nat.le_succ_of_le hl',rfl⟩
  | true =>
   rw[if_pos rfl] at ec ⊢;obtain⟨r,er,ec⟩:=bind_some ec;by_cases hr:r.2=.dt
   .rw [if_pos hr] at ec;cases ec
   rw[if_neg hr] at ec;obtain⟨more',em,ec⟩:=bind_some ec;cases ec;refine wpAny_mono (he s3 H2 fp pn s7 O4 H7 (λv H8=>Same H7 H8/\RV X.K H7 H8 S r v) I7 ⟨S,O5,r,ds6.mono s67,er,λv H8 s8 r8=>⟨s8,r8⟩⟩) (λuv s8 zz70=>?_) λ_ _ z=>z.elim
   obtain⟨v,H8,I8,rv8,s78,r8⟩:=zz70;exact⟨v,O4,H8,I8,rv8,⟨s12,hJ⟩,O5,done++[r.1],more',ds6.mono (s67.trans s78),sm.trans (s67.trans s78),(dn.mono (zAP (s67.trans s78))).append (.cons (RV.den (d:=r.1) (k:=r.2) r8 hr) .nil),em,by rw[qJ];exact ed,hlt,by rw[List.length_append,length_singleton];omega,rfl⟩
 .obtain ⟨H2,H',vs,⟨s12,sm,dn⟩,H2D,HD,rfl⟩:=ll;have neD:∀ {b:Addr} {o:HO},H' b=some o->b≠D:=λ{b o} q z=>by rw[z,HD] at q;cases q
  refine fin D C s1 _ m h1 h2 h3 h4 h5 h6 h7 h8 (λb o q=>?_) ⟨D,vs,ys,rfl,rfl,λz=>?_,s12.free H2D,zAW,dn.mono λb o q=>?_⟩
  .have w:=sm b o (s12 b o q);rw[zAQ (neD w)];exact w
  .obtain ⟨ws,w,_⟩:=(ds.mono s12).sok D z;rw[H2D] at w;cases w
  .obtain ⟨q1,q2⟩:=zA0 q;rw[zAO λz=>(mem_cons.mp z).elim (neD q2) q1,zAQ (neD q2)];exact q2
def zCs (cs:zCO sc scope):∀ x∈scope.names,x.2=.local->scope.names.lookup x.1=some .local:=λx a e=>by
 have:=zCo cs.nd a
 simp_all
def zK2 (a:X.calm=true)(B:GI X tg iter f)(y:∀ x,foldedSetIterable iter X.env x=pure x)(cs:zCO X.env.scope scope)
  (q:∀ (i:Nat) x,X.N[i]?=some x->ownB scope x=true->i∈ms)
  (j:∀ s H fp,GG (zAY X (mask (noN X.N) ms X.N++xs) scope s H fp) tg t)
  (w:∀ s H fp,GCs (zAY X (mask (noN X.N) ms X.N++xs) scope s H fp) ifs c) (u:∀ s H fp,GE (zAY X (mask (noN X.N) ms X.N++xs) scope s H fp) elt e) :
  GE X (.ListComp elt [⟨tg,iter,ifs,0⟩] scope pos) (zJC ms xs.length f t c e):=by
 intro g s σ H Q I ⟨S,G,z,A,b,r⟩;obtain⟨h,o,b⟩:=bind_some b;by_cases hz:h.length<=10000
 .rw [if_pos hz] at b;obtain⟨J,l,b⟩:=bind_some b;cases b;refine wpAny_comprehension_free (use:=none) rfl y (zBZ (zEg I cs)) cs.kind (zCs cs) ?_;refine zGi a B cs q j w u I A o hz l λD C F d m n v _ _ _ _ _ _ p k=>?_
  exact⟨m,n,λh' E=>⟨.ref D,d,v h' E,rfl,r _ d p k⟩⟩
 .simp_all
def zPv (d:X.calm=true)(hi:GI X tg iter f)(O:∀ x,foldedSetIterable iter X.env x=pure x)(cs:zCO X.env.scope scope)
  (N:∀ (i:Nat) x,X.N[i]?=some x->ownB scope x=true->i∈ms)
  (U:∀ s H fp,GG (zAY X (mask (noN X.N) ms X.N++xs) scope s H fp) tg t)
  (V:∀ s H fp,GCs (zAY X (mask (noN X.N) ms X.N++xs) scope s H fp) ifs c) (he:∀ s H fp,GE (zAY X (mask (noN X.N) ms X.N++xs) scope s H fp) elt e)
  (W:X.N.Nodup) (R:X.N[i]?=some y) (T:Loc X.env.scope y) (Z:X.fn y=true\/X.env.scope.names.lookup y=some .local) :
  GS X (.Assign [.Name y py] (.ListComp elt [⟨tg,iter,ifs,0⟩] scope pos) spos) (setD i (zJC ms xs.length f t c e)):=by
 have L:GE X (.ListComp elt [⟨tg,iter,ifs,0⟩] scope pos) (zJC ms xs.length f t c e):=zK2 d hi O cs N U V he;have j:∃ b,swapsWith (.ListComp elt [⟨tg,iter,ifs,0⟩] scope pos) (some (.Name y py)) spos.line X.env=pure b:=⟨_,rfl⟩;obtain⟨b,j⟩:=j;cases b with
 | false=>exact zOM W R T L j Z
 | true =>
  intro H0 a s σ H E I ⟨S,G,o,Y,h0,K,p⟩;obtain⟨r,er,K⟩:=bind_some K;obtain⟨zs,e1,h⟩:=bind_some er;by_cases hz:zs.length<=10000
  .rw [if_pos hz] at h;obtain⟨ys,e2,h⟩:=bind_some h;cases h;rw[exec_Assign_Name_used _ _ _ _ j];refine qQ (wpAny_standAt (qQ ?_));show wpAny _ X.A (do let _<-comprehension (.ListComp elt [⟨tg,iter,ifs,0⟩] scope pos) scope X.env _ (newList []) false (eval iter X.env) (some (assign (.Name y py) X.env))) _ _ s;refine qQ (wpAny_mono (wpAny_comprehension_free (use:=some (assign (.Name y py) X.env)) (Q:=λ_ w=>SP X a E .next w) rfl O (zBZ (zEg I cs)) cs.kind (zCs cs) ?_) (λ_ w hq=>q8 (q8 hq)) λ_ _ e=>e);refine zGi (RR:=λacc C=>compPost (model X.prog X.w) X.A X.xe (some (assign (.Name y py) X.env)) (λ_ w=>SP X a E .next w) acc C) d hi cs N U V he I Y e1 hz e2 λD C l g m ns hI n u J B M F sm rv=>?_
   have I1:Inv X a σ g l:=hI l.heap (Heap.SameBut.refl ..);obtain⟨v,es,ep,ho,hd,w3⟩:=id ns;have I2:Inv X (a++[(C,v)]) σ g l:=I1.pins_of λq hq=>(mem_append.mp hq).elim (λz=>I1.pin q (q9 _ z)) λz=>by
    have e:q=(C,v):=by simpa using z
    subst e;exact⟨ho,n,u,J,λv z=>by rw[hd] at z;cases z⟩
   show wpAny (model X.prog X.w) X.A (assign (.Name y py) X.env (.ref D)) _ X.xe l;refine thn (zFh W R T Z _ l σ g (.ref D) (.ref D) (λO4 A=>A=g/\O4=σ.set i (some (.ref D))) I2 rfl ⟨rfl,rfl⟩) λ_ s6 k=>?_
   obtain⟨O4,A,P,q1,q2⟩:=k;subst q1 q2;have pc:=P.pin (C,v) (q9 _ (q9 _ (by simp)));refine⟨m,⟨v,es,ep,pc.1,hd,w3⟩,λh' sb=>?_⟩;refine⟨_,A,P.unpinned.turned (it:=C) (t':=s6.toks) (λb o j q=>sb.extBut b o j q) n (Ne.symm (Ne.symm u)) (.inr B) M F,?_⟩;exact zEt Y h0 sm rv K p
  .rw [if_neg hz] at h;cases h
end
section
variable {X:Cx}{tg:Expr}
def iAny (K:W.Frag)(tl:TE):TI:=fun σ H R=>tl σ H λx H1=>∃ a,x=.ref a/\(((∃ xs,SqL K H1 a xs)/\R (Itl K a) H1)\/((∃ xs,SqT K H1 a xs)/\R (Itt K a) H1))
def zN5 (m:PE X l tl):PI X tg l (iAny X.K tl):=by
 intro g s σ H R I h;refine thn (m g s σ H _ I h) λv c f=>?_
 obtain⟨x,k,d,r1,r⟩:=f;obtain⟨a,e,q⟩:=r;subst e;cases r1;rcases q with ⟨⟨n,hq⟩,q⟩ | ⟨⟨n,hq⟩,q⟩
 .obtain ⟨i,u,p,t⟩:=d.list hq;refine wpAny_pyIter_list p.isList ?_;refine⟨c.heap.objs.size,[c.heap.objs.size],_,_,k,rfl,d.kept (t':=c.toks) λb o e=>get?_push_of_some _ e,zJP a _,⟨_,get?_push_size _ rfl,rfl,rfl⟩,λb j=>?_,q⟩;have e:b=c.heap.objs.size:=by simpa using j
  subst e;exact d.fpOk (le_refl _) (d.hok.fresh (le_refl _))
 .obtain ⟨i,u,p,t⟩:=d.tuple hq;refine wpAny_pyIter_tuple (show c.heap.IsTuple a i.toArray from p) ?_;refine⟨c.heap.objs.size,[c.heap.objs.size],_,_,k,rfl,d.kept (t':=c.toks) λb o e=>get?_push_of_some _ e,zIh a _,⟨_,get?_push_size _ rfl,rfl,rfl⟩,λb j=>?_,q⟩;have e:b=c.heap.objs.size:=by simpa using j
  subst e;exact d.fpOk (le_refl _) (d.hok.fresh (le_refl _))
noncomputable def zGX (f:Dst->Option R):Dst->Option (List D):=λG=>match f G with
 | some (.lst ds,.cl)=>some ds
 | some (.lst ds,.fr)=>some ds
 | some (.tup ds,.cl)=>some ds
 | _=>none
def zSe (h:GE X iter f):GI X tg iter (zGX f):=by
 refine⟨_,zN5 h,fun σ H S G xs Rr ds e q=>?_⟩;have n:∀ {k:Kd},k≠.dt->f G=some (.lst xs,k)->iAny X.K (gT X.K f) σ H Rr:=λ{k} F E=>by
  refine⟨S,G,_,ds,E,λv p s r1=>?_⟩;have m:=RV.den (d:=.lst xs) (k:=k) r1 F;rw[Den] at m;obtain⟨a,b,rfl,o,l⟩:=m;refine⟨a,rfl,.inl ⟨⟨b,zAf.seq o⟩,q _ p s λi B C r=>?_⟩⟩;have g:=r.seq o;refine⟨λei=>⟨b,g,by rw[<- l.length,ei];exact le_refl _⟩,λhl=>?_⟩;have j:i < b.length:=by rw[<- l.length];exact hl
  refine⟨⟨b,b[i],g,by simp[j]⟩,λv D y=>⟨y.1,λx t=>?_⟩⟩;have w:=y.2 b g;obtain⟨u,c,x⟩:=l.get t
  simp_all
 unfold zGX at e;split at e
 .rename_i c;cases e;exact n (by decide) c
 .rename_i c;cases e;exact n (by decide) c
 .rename_i c;cases e;refine⟨S,G,_,ds,c,λv p s r1=>?_⟩;have m:Den X.K (hide p S) (.tup xs) v:=r1;rw[Den] at m;obtain⟨a,b,rfl,o,l⟩:=m;refine⟨a,rfl,.inr ⟨⟨b,Same.tupS zAf o⟩,q _ p s λi B C r=>?_⟩⟩;have g:=Same.tupS r o;refine⟨λei=>⟨b,g,by rw[<- l.length,ei];exact le_refl _⟩,λhl=>?_⟩;have j:i < b.length:=by rw[<- l.length];exact hl
  refine⟨⟨b,b[i],g,by simp[j]⟩,λv D y=>⟨y.1,λx t=>?_⟩⟩;have w:=y.2 b g;obtain⟨u,c,x⟩:=l.get t;rw[w] at c;cases c;exact x
 .cases e
noncomputable def Itr3 (lo c:Int)(n:Nat):It:=⟨λi _=>i < n,λi H x H'=>H'=H/\x=.int (lo+i*c),λi _=>n<=i⟩
def zG0 {P:Program}{w:World}{K:W.Frag}{J:Expr}(it:Addr)(l c:Int)(n:Nat):Turn P w K J (Itr3 l c n) [it] it (λi h=>IsRangeIter h it (l+(i:Nat)*c) ((n:Int) - (i:Nat)) c) where
 mem:=by simp
 obj:=λi h a b f=>by
  simp_all
 keep:=λi h q a k=>k it (by simp) _ a
 item:=by
  intro X y A u p i d s σ H E I j a m;subst y A u;obtain⟨B,r,F,v,z,x⟩:=j it (by simp);have W:=Walks.range (prog:=X.prog) (w:=X.w) (I.ok.hd p) it l c n;refine W.item i s _ _ m a λv q C M g L=>?_
  obtain⟨t,rfl⟩:=M;have D:Inv X d σ H { s with heap:=q,toks:=C }:=I.turned (λb o f e=>L b o (by simpa using f) e) B r v z x;exact⟨_,rfl,zM1 (s:={ s with heap:=q,toks:=C }) (n := "range_iterator") g rfl rfl (by decide) ⟨.int (l+i*c),H,D,⟨t,rfl⟩,⟨rfl,rfl⟩,g,λb f=>(j b f).1⟩⟩
 done:=by
  intro X y A u p i d s σ H E I j a m;subst y A u;obtain⟨B,r,F,v,z,x⟩:=j it (by simp);exact wpAny_pyNext_range_end (I.ok.hd p) a (by have:n<=i:=m;omega) λh' G=>⟨rfl,I.turned (t':=s.toks) (λb o f e=>G b o f e) B r v z x⟩
 self:=λ_ _ _ _ _ a h=>wpAny_pyIter_rangeiter a h
def zG5 (a b c:Int)(d:c≠0):0<=Builtin.Range.rangeSize a b c:=by
 unfold Builtin.Range.rangeSize;split
 .split
  .have:=Int.ediv_nonneg (a:=b - a - 1) (b:=c) (by omega) (by omega);omega
  .simp
 .split
  .have:=Int.ediv_nonneg (a:=a - b - 1) (b:=-c) (by omega) (by omega);omega
  .simp
def ROk (a b c:Int):Prop:=c≠0/\c.natAbs < 1073741824/\Builtin.Range.small a b c=true
noncomputable instance (a b c:Int):Decidable (ROk a b c):=by unfold ROk;exact inferInstance
theorem zJw {σ:St}{R:It->Hp->Prop}{lo:Int}(I:Inv X pins σ H s)(ok:ROk lo hi c)
  (q:R (Itr3 lo c (Builtin.Range.rangeSize lo hi c).toNat) H):wpAny (model X.prog X.w) X.A (pyIter (.ref s.heap.objs.size)) (PIE X pins σ tg R) E { s with heap:=s.heap.push { cls:=.type "range",data:=.fields #[.int lo t,.int hi u,.int c v] },toks:=tk }:=by
 refine wpAny_pyIter_range (IsRange.new ..) ok.2.2 ?_;have I1:Inv X pins σ H { s with heap:=s.heap.push { cls:=.type "range",data:=.fields #[.int lo t,.int hi u,.int c v] },toks:=tk }:=I.kept λb o e=>get?_push_of_some _ e
 refine⟨(s.heap.push { cls:=.type "range",data:=.fields #[.int lo t,.int hi u,.int c v] }).objs.size,[(s.heap.push { cls:=.type "range",data:=.fields #[.int lo t,.int hi u,.int c v] }).objs.size],_,_,H,rfl,
  I1.kept λb o e=>get?_push_of_some _ e,zG0 _ lo c (Builtin.Range.rangeSize lo hi c).toNat,?_,λb hb=>?_,q⟩
 .have e1:lo+((0:Nat):Int)*c=lo:=by simp
  have e2:(((Builtin.Range.rangeSize lo hi c).toNat:Nat):Int) - ((0:Nat):Int)=Builtin.Range.rangeSize lo hi c:=by have:=zG5 lo hi c ok.1;omega
  rw[e1,e2];exact get?_push_size _ rfl
 .have e:b=(s.heap.push { cls:=.type "range",data:=.fields #[.int lo t,.int hi u,.int c v] }).objs.size:=by simpa using hb
  subst e;exact I1.fpOk (le_refl _) (I1.hok.fresh (le_refl _))
def zUX (ta:TA):TI:=fun σ H R=>ta σ H λvs H1=>∃ i j c:Int,vs=[.int i,.int j,.int c]/\ROk i j c/\R (Itr3 i c (Builtin.Range.rangeSize i j c).toNat) H1
def zJ2 (u:Gl X "range")(n:X.mg "range"=none)(v:PA X [a,b,c] ta)(z:starEach [a,b,c] X.env=[(false,eval a X.env),(false,eval b X.env),(false,eval c X.env)])(f:starEach [b,c] X.env=[(false,eval b X.env),(false,eval c X.env)]) :
  PI X tg (.Call (.Name "range" p) [a,b,c] [] pos) (zUX ta):=by
 intro d s σ H R I h;refine Call_ (zCw I u n boot_range (PyProof.Rows.callWith_type1 (thn (v pos d s σ H _ I h) λus C l=>?_) (by rw[z,f]) (by rw[f];rfl)));obtain⟨D,A,x,r1,o⟩:=l;obtain⟨i,j,k,e,ok,q⟩:=o;subst e;cases r1 with
 | cons r g =>
  cases g with
  | cons w g =>
   cases g with
   | cons m g =>
    cases g;obtain⟨t,rfl⟩:=r;obtain⟨B,rfl⟩:=w;obtain⟨y,rfl⟩:=m;exact call_range_3 ok.1 (zJw x ok q) (.inl (PyProof.noPylong_small ok.2.1))
noncomputable def rngS (lo c:Int)(n:Nat):List D:=(List.range n).map λ(k:Nat)=>D.int (lo+k*c)
theorem zIn {K:W.Frag}{lo:Int}(i:Nat)(H2:Hp)(hi:i<=(rngS lo c n).length):(i=(rngS lo c n).length->(Itr3 lo c n).stop i H2)/\(i < (rngS lo c n).length->(Itr3 lo c n).go i H2/\∀ v H3,(Itr3 lo c n).yld i H2 v H3->H3=H2/\∀ x,(rngS lo c n)[i]?=some x->Den K (hide H1 S) x v):=by
 have hl:(rngS lo c n).length=n:=by unfold rngS;simp
 refine⟨λe=>by rw[hl] at e;exact Nat.le_of_eq e.symm,λh=>⟨by rw[hl] at h;exact h,λv H3 y=>⟨y.1,λx ex=>?_⟩⟩⟩;rw[hl] at h;have:(rngS lo c n)[i]?=some (D.int (lo+i*c)):=by unfold rngS;simp[h]
 rw[this] at ex;cases ex;exact y.2
noncomputable def zJo (f g h:Dst->Option R):Dst->Option (List D):=λG=>match f G,g G,h G with
 | some (.int i,_),some (.int j,_),some (.int c,_)=>if ROk i j c then some (rngS i c (Builtin.Range.rangeSize i j c).toNat) else none
 | _,_,_=>none
def zKx (z:Gl X "range")(s:X.mg "range"=none)(v:GE X a f)(C:GE X b g)(A:GE X c h)(u:starEach [a,b,c] X.env=(false,eval a X.env)::starEach [b,c] X.env)(l:starEach [b,c] X.env=(false,eval b X.env)::starEach [c] X.env)(d:starEach [c] X.env=[(false,eval c X.env)]) :
  GI X tg (.Call (.Name "range" p) [a,b,c] [] pos) (zJo f g h):=by
 refine⟨_,zJ2 z s (zAU v (zAU C (zAU A zA2 d) l) u) (by simp_all) (by rw[l,d]),fun σ H S G xs Rr ds e q=>?_⟩;unfold zJo at e;split at e
 .rename_i i k j E o F w x B;by_cases hj:ROk i j o
  .rw [if_pos hj] at e;cases e;exact⟨S,G,_,ds,w,λv I m r1=>⟨S,G,_,ds.mono m,x,λu r n r2=>⟨S,G,_,ds.mono (m.trans n),B,λu3 y t r3=>⟨i,j,o,by rw[r1.rd.int,r2.rd.int,r3.rd.int],hj,q _ y (m.trans (n.trans t)) λi r D _=>zIn i r D⟩⟩⟩⟩
  .simp_all
 .cases e
end
end DL
end
section
namespace DL
open PySem
abbrev zCk (h:Heap) (z TI TO:Addr) (f0 f1:Value):Prop :=
 h.get? z=some { cls:=.type "zip",dict:=none,data:=.fields #[f0,f1,.bool false,.ref TI,.ref TO],slots:=#[] }
section
variable {prog:Program}{w:World}{A:Around}{E:Value->Shared->Prop}{s:Shared}
def zL3 (h:Q (s.heap.get? a) s):wpAny M A (loadIfAlive a) Q E s:=λJ p b=>by
 assumption
def zEy {T:Addr}(hz:zCk s.heap z TI TO (rawInt T) (.bool f1))(c:s.heap.get? T=some oT)
  (b:∀ h' f1',zCk h' z TI TO (rawInt T) (.bool f1')->Heap.SameBut z s.heap h'->Q false { s with heap:=h' }) :
  wpAny (model prog w) A (Builtin.SmallTypes.ownedTupleIsFree (.ref z)) Q E s:=by
 refine qQ (wpAny_field hz rfl (x:=rawInt T) rfl ?_);refine qQ (zL3 ?_);rw[toNat_natCast,c];refine qQ (wpAny_field hz rfl (x:=.bool f1) rfl ?_);cases f1 with
 | true =>
  have e:((Value.bool true) != .bool true)=false:=by simp
  rw[e];exact q8 (b s.heap true hz (Heap.SameBut.refl ..))
 | false =>
  have e:((Value.bool false) != .bool true)=true:=by simp
  rw[e];simp only[if_true];refine qQ (wpAny_setField_rec hz (by simp) λO8 a d=>?_);exact q8 (b O8 true a d)
def zFU {T:Addr}{Q:Value->Shared->Prop}(D:ZipApart z TI TO i1 i2 l1 l2)
  (hz:zCk s.heap z TI TO (rawInt T) (.bool f1)) (m:s.heap.get? T=some oT) (j:IsPair s.heap TI (.ref i1) (.ref i2))
  (h1:s.heap.IsListIter i1 l1 k1) (h2:s.heap.IsListIter i2 l2 k2) (h:s.heap.IsList l1 xs) (g:s.heap.IsList l2 ys) (u:xs[k1]?=some x) (C:ys[k2]?=some y)
  (q:∀ h' f1',zCk h' z TI TO (rawInt T) (.bool f1')->h'.IsListIter i1 l1 (k1+1)->h'.IsListIter i2 l2 (k2+1)->IsPair h' s.heap.objs.size x y->h'.objs.size=s.heap.objs.size+1 ->
   (∀ c o,c≠z->c≠i1->c≠i2->s.heap.get? c=some o->h'.get? c=some o)->Q (.ref s.heap.objs.size) { s with heap:=h' }) :
  wpAny (model prog w) A (Builtin.«zip.__next__» ⟨[.ref z],[]⟩) (λfin s'=>∃ v,fin=.done (.ret v)/\Q v s') E s:=by
 show wpAny _ _ (field (.ref z) 2>>=_) _ _ _;refine qQ (wpAny_field hz rfl (x:=.bool false) rfl ?_);show wpAny _ _ (field (.ref z) 3>>=_) _ _ _;refine qQ (wpAny_field hz rfl (x:=.ref TI) rfl ?_);refine qQ (wpAny_seqItems j rfl ?_);show wpAny _ _ (Builtin.SmallTypes.ownedTupleIsFree (.ref z)>>=_) _ _ _;refine qQ (zEy hz m λO8 f1' k b=>?_);simp only[Bool.false_eq_true,if_false];refine qQ ?_;simp only[<- Array.forIn_toList,forIn_cons,List.forIn_nil];refine qQ (qQ (wpAny_holding ?_));show wpAny _ _ (Builtin.SmallTypes.nextOf (.ref i1)>>=_) _ _ _;refine qQ (wpAny_nextOf_list_item (h1.extBut b.extBut D.i1z) (h.extBut b.extBut D.l1z) u λZ1 B d=>q8 ?_);refine q8 ?_;refine qQ (qQ (wpAny_holding ?_));show wpAny _ _ (Builtin.SmallTypes.nextOf (.ref i2)>>=_) _ _ _;refine qQ (wpAny_nextOf_list_item ((h2.extBut b.extBut D.i2z).extBut d.extBut D.i12.symm) ((g.extBut b.extBut D.l2z).extBut d.extBut D.l2i1) C λZ2 n f=>q8 ?_);refine q8 (q8 ?_);refine qQ (wpAny_newTuple ?_ (show 2<=sizeLine by decide));have a:Z2.objs.size=s.heap.objs.size:=by rw[f.1,d.1,b.1]
 have i:zCk Z2 z TI TO (rawInt T) (.bool f1'):=f.extBut _ _ D.i2z.symm (d.extBut _ _ D.i1z.symm k);refine q8 ⟨_,rfl,?_⟩;show Q (.ref Z2.objs.size) _;rw[a];refine q _ f1' (get?_push_of_some _ i) ((B.extBut f.extBut D.i12).at λo e=>get?_push_of_some _ e) (n.at λo e=>get?_push_of_some _ e) ?_ (by rw[Heap.size_push,a]) λc o r p t e=>get?_push_of_some _ (f.extBut _ _ t (d.extBut _ _ p (b.extBut _ _ r e)))
 rw[<- a];exact get?_push_size _ rfl
def zFT {T:Addr}{k2:Nat}{ys:Array Value}(k:A.handled=none)(D:ZipApart z TI TO i1 i2 l1 l2)
  (hz:zCk s.heap z TI TO (rawInt T) (.bool f1)) (i:s.heap.get? T=some oT) (d:IsPair s.heap TI (.ref i1) (.ref i2))
  (h1:s.heap.IsListIter i1 l1 k1) (f:s.heap.IsList l1 xs) (a:xs[k1]?=none)
  (m:∀ h' e,(∀ c o,c≠z->c≠i1->s.heap.get? c=some o->h'.get? c=some o)->(∃ o,h'.get? e=some o/\o.cls=.type "StopIteration")->E (.ref e) { s with heap:=h' }) :
  wpAny (model prog w) A (Builtin.«zip.__next__» ⟨[.ref z],[]⟩) Q E s:=by
 show wpAny _ _ (field (.ref z) 2>>=_) _ _ _;refine qQ (wpAny_field hz rfl (x:=.bool false) rfl ?_);show wpAny _ _ (field (.ref z) 3>>=_) _ _ _;refine qQ (wpAny_field hz rfl (x:=.ref TI) rfl ?_);refine qQ (wpAny_seqItems d rfl ?_);show wpAny _ _ (Builtin.SmallTypes.ownedTupleIsFree (.ref z)>>=_) _ _ _;refine qQ (zEy hz i λO8 l p b=>?_);simp only[Bool.false_eq_true,if_false];refine qQ ?_;simp only[<- Array.forIn_toList,forIn_cons,List.forIn_nil];refine qQ (qQ (wpAny_holding ?_));show wpAny _ _ (Builtin.SmallTypes.nextOf (.ref i1)>>=_) _ _ _;refine qQ (wpAny_nextOf_list_end k (h1.extBut b.extBut D.i1z) (f.extBut b.extBut D.l1z) a λZ1 e h j=>?_);exact m Z1 e (λc o n g x=>h _ _ g (b.extBut _ _ n x)) j
def zKS {T:Addr}(D:ZipApart z TI TO i1 i2 l1 l2)
  (hz:zCk s.heap z TI TO (rawInt T) (.bool f1)) (f:s.heap.get? T=some oT) (e:IsPair s.heap TI (.ref i1) (.ref i2))
  (h1:s.heap.IsListIter i1 l1 k1) (h2:s.heap.IsListIter i2 l2 k2) (d:s.heap.IsList l1 xs) (b:s.heap.IsList l2 ys) (q:xs[k1]?=some x) (i:ys[k2]?=some y)
  (m:∀ h' f1',zCk h' z TI TO (rawInt T) (.bool f1')->h'.IsListIter i1 l1 (k1+1)->h'.IsListIter i2 l2 (k2+1)->IsPair h' s.heap.objs.size x y->h'.objs.size=s.heap.objs.size+1 ->
   (∀ c o,c≠z->c≠i1->c≠i2->s.heap.get? c=some o->h'.get? c=some o)->Q (some (.ref s.heap.objs.size)) { s with heap:=h' }) :
  wpAny (model prog w) A (pyNext (.ref z)) Q E s:=by
 have a:s.TypeIs (.ref z) "zip":=⟨_,hz,rfl⟩;exact qQ (wpAny_attempt (wpAny_callSpecial?_slot a F.slot_zip_next
  (wpAny_call_entry F.slot_zip_next a F.entry_zip_next
   (zFU D hz f e h1 h2 d b q i λh' g k h n l p j=>q8 (m h' g k h n l p j)) (F.args_zip_next_1 _))))
def zKR {T:Addr}{k2:Nat}{ys:Array Value}(h:A.handled=none)(D:ZipApart z TI TO i1 i2 l1 l2)
  (hz:zCk s.heap z TI TO (rawInt T) (.bool f1)) (k:s.heap.get? T=some oT) (d:IsPair s.heap TI (.ref i1) (.ref i2))
  (h1:s.heap.IsListIter i1 l1 k1) (f:s.heap.IsList l1 xs) (b:xs[k1]?=none)
  (l:∀ h',(∀ c o,c≠z->c≠i1->s.heap.get? c=some o->h'.get? c=some o)->Q none { s with heap:=h' }):wpAny (model prog w) A (pyNext (.ref z)) Q E s:=by
 have a:s.TypeIs (.ref z) "zip":=⟨_,hz,rfl⟩;refine qQ (wpAny_attempt (wpAny_callSpecial?_slot a F.slot_zip_next
  (wpAny_call_entry F.slot_zip_next a F.entry_zip_next (zFT (k2:=k2) (ys:=ys) h D hz k d h1 f b λh' e j g=>?_) (F.args_zip_next_1 _))))
 obtain⟨o,i,m⟩:=g;refine qQ (wpAny_isInstance ⟨o,i,m⟩ isSubtype_stop ?_);exact q8 (l _ j)
end
def zIg:typeLookup (.type "zip") "__len__"=pure none:=by rw[typeLookup_type];kernel_rfl
def zGy:typeLookup (.type "zip") "__length_hint__"=pure none:=by rw[typeLookup_type];kernel_rfl
noncomputable def zB5 (S n:Nat):Array Value:=((List.range n).map λk=>Value.ref (S+1+k)).toArray
def zGB (S n:Nat):(zB5 S n).push (.ref (S+1+n))=zB5 S (n+1):=by
 unfold zB5;rw[range_succ];simp
def zDi (S n:Nat):(zB5 S n).size=n:=by unfold zB5;simp
structure ZJ (s:Shared)(S z TI TO i1 i2 l1 l2:Nat)(xs ys:Array Value)(i:Nat)(s':Shared):Prop where
 same:∃ h',s'={ s with heap:=h' }
 size:s'.heap.objs.size=S+1+i
 lst:∃ c,s'.heap.get? S=some { cls:=.type "list",dict:=none,data:=.seq (zB5 S i) c,slots:=#[] }
 zip:(i=0/\IsZip s'.heap z TI TO .none)\/(0 < i/\∃ f1,zCk s'.heap z TI TO (rawInt (S+1:Nat)) (.bool f1))
 ti:IsPair s'.heap TI (.ref i1) (.ref i2)
 tO:∃ a b,IsPair s'.heap TO a b
 it1:s'.heap.IsListIter i1 l1 i
 it2:s'.heap.IsListIter i2 l2 i
 ls1:s'.heap.IsList l1 xs
 ls2:s'.heap.IsList l2 ys
 tup:∀ k x y,k < i->xs[k]?=some x->ys[k]?=some y->IsPair s'.heap (S+1+k) x y
 keep:∀ (c:Nat) o,c≠z->c≠TO->c≠i1->c≠i2->s.heap.get? c=some o->s'.heap.get? c=some o
structure ZEnd (s:Shared)(S z TO i1 i2:Nat)(xs ys:Array Value)(s':Shared):Prop where
 same:∃ h',s'={ s with heap:=h' }
 lst:∃ c,s'.heap.get? S=some { cls:=.type "list",dict:=none,data:=.seq (zB5 S xs.size) c,slots:=#[] }
 tup:∀ k x y,xs[k]?=some x->ys[k]?=some y->IsPair s'.heap (S+1+k) x y
 keep:∀ (c:Nat) o,c≠z->c≠TO->c≠i1->c≠i2->s.heap.get? c=some o->s'.heap.get? c=some o
section
variable {prog:Program}{w:World}{A:Around}{E:Value->Shared->Prop}{s:Shared}{R:Result->Shared->Prop}
variable {S z TI TO i1 i2 l1 l2:Nat}{xs ys:Array Value}
def zL0 (hh:A.in1.handled=none)(D:ZipApart z TI TO i1 i2 l1 l2)(c5:xs.size=ys.size)(hn:xs.size<=10000)(hz:z < S)(e3:TI < S)(d4:TO < S)(e4:i1 < S)(e2:i2 < S)(d7:l1 < S)(d2:l2 < S)(m:s.heap.objs.size<=S)(n:Value)
  (hR:∀ s',ZEnd s S z TO i1 i2 xs ys s'->R (.ok (.ret n)) s') :
  ∀ (k i:Nat) (s':Shared),xs.size - i=k->i<=xs.size->ZJ s S z TI TO i1 i2 l1 l2 xs ys i s'->codeAny (model prog w) A (.builtin "list.extend.loop" ⟨[.ref S,.ref z,n],[]⟩) R s':=by
 intro k
 induction k with
 | zero =>
  intro i s' hk hi J;have a8:i=xs.size:=by omega
  subst a8;obtain⟨h0,rfl⟩:=J.same;refine codeAny_builtin F.entry_extend_loop ?_;rw[Around.under_plainId F.plain_extend_loop _];show wpAny _ A.in1 (pyNext (.ref z)>>=_) _ _ _;have t:xs[xs.size]?=none:=by simp
  obtain⟨c,U⟩:=J.lst;obtain⟨ta,tb,r⟩:=J.tO;refine qQ ?_;have fin:∀ h',(∀ (c:Nat) o,c≠z->c≠TO->c≠i1->c≠i2->h0.get? c=some o->h'.get? c=some o)->R (.ok (.ret n)) { s with heap:=h' }:=λh' j=>by
   have up:∀ (b:Nat) o,S<=b->h0.get? b=some o->h'.get? b=some o:=λb o W e=>j b o (by omega) (by omega) (by omega) (by omega) e
   refine hR _ ⟨⟨h',rfl⟩,⟨c,up S _ (le_refl _) U⟩,λk x y C O=>up _ _ (by omega) (J.tup k x y ?_ C O),λb o b1 b2 b3 b4 e=>j b o b1 b2 b3 b4 (J.keep b o b1 b2 b3 b4 e)⟩;by_cases q:k < xs.size
   .exact q
   .have:xs[k]?=none:=Array.getElem?_eq_none (Nat.le_of_not_lt q);rw[this] at C;cases C
  rcases J.zip with ⟨i0,d⟩ | ⟨ip,I,d⟩
  .exact wpAny_pyNext_zip_end hh D d J.ti r J.it1 J.it2 J.ls1 J.ls2 (.inl t) λh' j=>q8 (fin h' j)
  .have v:∃ x,xs[0]?=some x:=⟨xs[0],by simp[ip]⟩;have G:∃ y,ys[0]?=some y:=⟨ys[0]'(by omega),Array.getElem?_eq_getElem (by omega)⟩;obtain⟨Y,u⟩:=v;obtain⟨y0,B⟩:=G;have L:=J.tup 0 Y y0 ip u B;rw[Nat.add_zero] at L;exact zKR (k2:=0) (ys:=ys) hh D d L J.ti J.it1 J.ls1 t λh' j=>q8 (fin h' λc o c1 _ c3 _ e=>j c o c1 c3 e)
 | succ k ih =>
  intro i s' hk hi J;have p:i < xs.size:=by omega
  obtain⟨h0,rfl⟩:=J.same;have C:xs[i]?=some xs[i]:=by simp[p]
  have O:ys[i]?=some (ys[i]'(by omega)):=Array.getElem?_eq_getElem (by omega);refine codeAny_builtin F.entry_extend_loop ?_;rw[Around.under_plainId F.plain_extend_loop _];show wpAny _ A.in1 (pyNext (.ref z)>>=_) _ _ _;obtain⟨c,U⟩:=J.lst;obtain⟨ta,tb,r⟩:=J.tO;have N:h0.objs.size=S+1+i:=J.size;have go:∀ h',(∀ (c:Nat) o,c≠z->c≠TO->c≠i1->c≠i2->h0.get? c=some o->h'.get? c=some o)->(∃ I,zCk h' z TI TO (rawInt (S+1:Nat)) (.bool I))->(∃ a b,IsPair h' TO a b)->h'.IsListIter i1 l1 (i+1)->h'.IsListIter i2 l2 (i+1) ->
    IsPair h' (S+1+i) xs[i] (ys[i]'(by omega))->h'.objs.size=S+1+i+1 ->
    wpAny (model prog w) A.in1 (updateSeq S (·.push (.ref (S+1+i)))>>=λ_=>again (.builtin "list.extend.loop" ⟨[.ref S,.ref z,n],[]⟩))
     (λfin s'=>match fin with | .done f=>R (.ok f) s' | .again c'=>c'.quiet=true/\codeAny (model prog w) A c' R s') (λe s'=>R (.error e) s') { s with heap:=h' }:=λh' j d l b7 Z hp a0=>by
   have up:∀ (b:Nat) o,S<=b->h0.get? b=some o->h'.get? b=some o:=λb o W e=>j b o (by omega) (by omega) (by omega) (by omega) e
   have K:=up S _ (le_refl _) U;refine qQ ?_;refine wpAny_updateSeq K rfl (q8 ⟨plainId_quiet F.plain_extend_loop _,ih (i+1) _ (by omega) p ?_⟩) (by rw[zDi];exact le_trans (Nat.le_of_lt p) (le_trans hn (by decide))) (by show ((zB5 S i).push _).size<=sizeLine+1;rw[Array.size_push,zDi];exact Nat.succ_le_succ (le_trans (Nat.le_of_lt p) (le_trans hn (by decide))));have h:∀ (b:Nat) o,b≠S->h'.get? b=some o->(h'.update S (Obj.mapSeq (·.push (.ref (S+1+i))))).get? b=some o:=λb o W e=>(Heap.get?_update_other _ _ (Ne.symm W)).trans e
   obtain⟨I,d⟩:=d;obtain⟨a',b',l⟩:=l;have ql:∃ c,(h'.update S (Obj.mapSeq (·.push (.ref (S+1+i))))).get? S=some { cls:=.type "list",dict:=none,data:=.seq (zB5 S (i+1)) c,slots:=#[] }:=⟨_,by
    rw[<- zGB];exact Heap.get?_update_self (Obj.mapSeq (·.push (Value.ref (S+1+i)))) K rfl⟩
   refine⟨⟨_,rfl⟩,?_,ql,.inr ⟨Nat.succ_pos i,I,h _ _ (by omega) d⟩,h _ _ (by omega) (j _ _ D.TIz D.TITO D.TIi1 D.TIi2 J.ti),⟨a',b',h _ _ (by omega) l⟩,b7.at λo e=>h _ o (by omega) e,Z.at λo e=>h _ o (by omega) e,
    (J.ls1.at λo e=>j _ o D.l1z D.l1TO D.l1i1 D.l1i2 e).at λo e=>h _ o (by omega) e,(J.ls2.at λo e=>j _ o D.l2z D.l2TO D.l2i1 D.l2i2 e).at λo e=>h _ o (by omega) e,λk x y d5 ex V=>?_,λb o b1 b2 b3 b4 e=>?_⟩
   .show (h'.update S _).objs.size=_;rw[Heap.size_update,a0];omega
   .refine h _ _ (by omega) ?_;by_cases q:k < i
    .exact up _ _ (by omega) (J.tup k x y q ex V)
    .have:k=i:=by omega
     subst this;rw[C] at ex;rw[O] at V;cases ex;cases V;exact hp
   .by_cases q:b=S
    .subst q;have:=lt_size e;exact absurd (xj this m) (lt_irrefl _)
    .exact h b o q (j b o b1 b2 b3 b4 (J.keep b o b1 b2 b3 b4 e))
  refine qQ ?_;rcases J.zip with ⟨i0,d⟩ | ⟨ip,I,d⟩
  .subst i0;refine wpAny_pyNext_zip_item D d J.ti r J.it1 J.it2 J.ls1 J.ls2 C O λh' Q a2 X T M H P=>?_
   have e1:({ s with heap:=h0 }:Shared).heap.objs.size=S+1+0:=N;rw[e1] at Q M H ⊢;exact go h' P ⟨false,Q⟩ ⟨_,_,a2⟩ X T M H
  .have v:∃ x,xs[0]?=some x:=⟨xs[0]'(by omega),Array.getElem?_eq_getElem (by omega)⟩;have G:∃ y,ys[0]?=some y:=⟨ys[0]'(by omega),Array.getElem?_eq_getElem (by omega)⟩;obtain⟨Y,u⟩:=v;obtain⟨y0,B⟩:=G;have L:=J.tup 0 Y y0 ip u B;rw[Nat.add_zero] at L;refine zKS D d L J.ti J.it1 J.it2 J.ls1 J.ls2 C O λh' f' Q X T M H P=>?_
   have e1:({ s with heap:=h0 }:Shared).heap.objs.size=S+1+i:=N;rw[e1] at M H ⊢;exact go h' (λc o c1 _ c3 c4 e=>P c o c1 c3 c4 e) ⟨f',Q⟩ ⟨ta,tb,P _ _ D.TOz D.TOi1 D.TOi2 r⟩ X T M H
end
section
variable {prog:Program}{w:World}{A:Around}{E:Value->Shared->Prop}{s:Shared}
variable {z TI TO i1 i2 l1 l2:Nat}{xs ys:Array Value}
def zF2 (Y:A.handled=none)(D:ZipApart z TI TO i1 i2 l1 l2)(hz:IsZip s.heap z TI TO .none)(B:IsPair s.heap TI (.ref i1) (.ref i2))(u:IsPair s.heap TO a b)(h1:s.heap.IsListIter i1 l1 0)(h2:s.heap.IsListIter i2 l2 0)
  (C:s.heap.IsList l1 xs) (r:s.heap.IsList l2 ys) (p:xs.size=ys.size) (S:xs.size<=10000) (Z:∀ s',ZEnd s s.heap.objs.size z TO i1 i2 xs ys s'->Q (.ref s.heap.objs.size) s') :
  wpAny (model prog w) A (call (.type "list") [.ref z]) Q E s:=by
 have l:z < s.heap.objs.size:=lt_size hz;have m:TI < s.heap.objs.size:=lt_size B;have q:TO < s.heap.objs.size:=lt_size u;have O:i1 < s.heap.objs.size:=by obtain⟨o,e,_⟩:=h1;exact lt_size e
 have I:i2 < s.heap.objs.size:=by obtain⟨o,e,_⟩:=h2;exact lt_size e
 have t:l1 < s.heap.objs.size:=by obtain⟨o,e,_⟩:=C;exact lt_size e
 have j:l2 < s.heap.objs.size:=by obtain⟨o,e,_⟩:=r;exact lt_size e
 refine callType_codes (Q₁:=λobj P=>obj=.ref s.heap.objs.size/\P={ s with heap:=s.heap.push { cls:=.type "list",data:=.seq #[] } }) F.called_list (F.typeCall_list_1 _) F.entry_list_init
  (code_list_new _ ⟨rfl,rfl⟩) λobj P V=>?_
 obtain⟨rfl,rfl⟩:=V;have G:(s.heap.push { cls:=.type "list",data:=.seq #[] }).get? s.heap.objs.size=some { cls:=.type "list",data:=.seq #[] }:=get?_push_size _ rfl;refine⟨⟨_,G,rfl⟩,F.args_list_init_2 _ _,?_⟩;show wpAny _ A.in1.in1 (do let M<-Builtin.List.listItems (.ref s.heap.objs.size);Builtin.List.listUpdate (.ref s.heap.objs.size) (λ_=>#[]);letGo M.toList.reverse;Builtin.List.listExtendWith (.ref s.heap.objs.size) (.ref z) .none) _ _ _;refine qQ ?_;unfold Builtin.List.listItems;refine qQ (wpAny_seqItems G rfl (q8 ?_));show wpAny _ A.in1.in1 (updateSeq s.heap.objs.size (λ_=>#[])>>=λ_=>letGo (#[]:Array Value).toList.reverse>>=λ_=>Builtin.List.listExtendWith (.ref s.heap.objs.size) (.ref z) .none) _ _ _;refine qQ (wpAny_updateSeq G rfl ?_);have i:=Heap.get?_update_self (Obj.mapSeq (λ_=>(#[]:Array Value))) G rfl;refine qQ (wpAny_letGo ?_);have X:∃ d,d=(s.heap.push { cls:=.type "list",data:=.seq #[] }).update s.heap.objs.size (Obj.mapSeq (λ_=>(#[]:Array Value))):=⟨_,rfl⟩;obtain⟨d,g⟩:=X;rw[<- g] at i ⊢;have n:∀ (b:Nat) o,b≠s.heap.objs.size->(s.heap.push { cls:=.type "list",data:=.seq #[] }).get? b=some o->d.get? b=some o:=λb o H e=>by rw[g];exact(Heap.get?_update_other _ _ (Ne.symm H)).trans e
 have h:∀ (b:Nat) o,s.heap.get? b=some o->d.get? b=some o:=λb o e=>n b o (ne_of_lt (lt_size e)) (get?_push_of_some _ e)
 have K:d.objs.size=s.heap.objs.size+1:=by rw[g,Heap.size_update,Heap.size_push]
 unfold Builtin.List.listExtendWith;have J:({ s with heap:=d }:Shared).TypeIs (.ref z) "zip":=⟨_,h _ _ hz,rfl⟩;refine qQ (wpAny_typeOf J ?_);have U:Builtin.List.listSameRef (.ref s.heap.objs.size) (.ref z)=false:=by
  have:s.heap.objs.size≠z:=Nat.ne_of_gt l;simp[Builtin.List.listSameRef,this]
 have T:(Value.type "zip"==Value.type "list")=false:=by decide
 have W:(Value.type "zip"==Value.type "tuple")=false:=by decide
 simp only[U,T,W,Bool.or_false,Bool.false_eq_true,if_false];refine qQ (wpAny_pyIter_zip (h _ _ hz) ?_);refine qQ (wpAny_holding ?_);unfold Builtin.List.listLengthHint;refine qQ (wpAny_specialOf J zIg ?_);show wpAny _ A.in1.in1 (specialOf (Value.ref z) (Str.ofString "__length_hint__")>>=_) _ _ _;refine qQ (wpAny_specialOf J zGy ?_);refine q8 ?_;show wpAny _ A.in1.in1 (rule "list.extend.makes-room">>=λ_=>Builtin.List.listTouch (.ref s.heap.objs.size)>>=λ_ =>
  again (.builtin "list.extend.loop" ⟨[.ref s.heap.objs.size,.ref z,.none],[]⟩)) _ _ _
 refine qQ (wpAny_rule ?_);refine qQ ?_;show wpAny _ A.in1.in1 (updateSeq s.heap.objs.size (·.push .none)>>=λ_=>updateSeq s.heap.objs.size (·.pop)) _ _ _;refine qQ (wpAny_updateSeq i rfl ?_);have v:=Heap.get?_update_self (Obj.mapSeq (·.push Value.none)) i rfl;refine wpAny_updateSeq (hz:=by seq_fits) v rfl ?_;have N:=Heap.get?_update_self (Obj.mapSeq (·.pop)) v rfl;have L:∀ (b:Nat) o,b≠s.heap.objs.size->d.get? b=some o->((d.update s.heap.objs.size (Obj.mapSeq (·.push Value.none))).update s.heap.objs.size (Obj.mapSeq (·.pop))).get? b=some o :=
  λb o H e=>(Heap.get?_update_other _ _ (Ne.symm H)).trans ((Heap.get?_update_other _ _ (Ne.symm H)).trans e)
 have f:∀ (b:Nat) o,s.heap.get? b=some o->((d.update s.heap.objs.size (Obj.mapSeq (·.push Value.none))).update s.heap.objs.size (Obj.mapSeq (·.pop))).get? b=some o:=λb o e=>L b o (ne_of_lt (lt_size e)) (h b o e)
 refine q8 ⟨plainId_quiet F.plain_extend_loop _,zL0 (s:=s) (A:=A.in1) Y D p S l m q O I t j (le_refl _) .none (λs' e=>⟨rfl,Z s' e⟩) xs.size 0 _ rfl (zero_le _) ?_⟩;exact⟨⟨_,rfl⟩,by show (Heap.update _ _ _).objs.size=_;rw[Heap.size_update,Heap.size_update,K],⟨_,N⟩,.inl ⟨rfl,f _ _ hz⟩,f _ _ B,⟨a,b,f _ _ u⟩,h1.at λo e=>f _ o e,h2.at λo e=>f _ o e,C.at λo e=>f _ o e,r.at λo e=>f _ o e,
  λk x y R=>absurd R (Nat.not_lt_zero k),λc o _ _ _ _ e=>f c o e⟩
end
end DL
end
section
namespace DL
open PySem Spec PyProof.Rows L2
noncomputable def HZ (H:Hp)(S:Nat)(us ws:List V):Hp:=λ(b:Nat)=>if b=S then some (.lst ((List.range us.length).map λk=>V.ref (S+1+k))) else if S+1<=b/\b < S+1+us.length then some (.tup [us.getD (b - (S+1)) .non,ws.getD (b - (S+1)) .non]) else H b
theorem hz_S :HZ H S us ws S=some (.lst ((List.range us.length).map λk=>V.ref (S+1+k))):=if_pos rfl
def hz_t {H:Hp}{S k:Nat}{us a:List V}(b:k < us.length):HZ H S us a (S+1+k)=some (.tup [us.getD k .non,a.getD k .non]):=by
 unfold HZ;rw[if_neg (by omega),if_pos (by omega),Nat.add_sub_cancel_left]
theorem zOL (hb:b < S):HZ H S us ws b=H b:=by
 unfold HZ;grind
theorem zGC:∀ l:List Nat,Vals (l.map V.ref) (l.map Value.ref)
 | []=>.nil
 | a::l=>.cons rfl (zGC l)
def zJN (r:Vals us its)(a:k < us.length):∃ x,its[k]?=some x/\RelV (us.getD k .non) x:=by
 have e:us[k]?=some (us.getD k .non):=by
  simp_all
 exact r.get e
noncomputable def zipT (xs ys:List D):List D:=List.zipWith (λa b=>D.tup [a,b]) xs ys
noncomputable def zipD (x y:D):Option R:=match x,y with
 | .lst xs,.lst ys=>if xs.length=ys.length/\xs.length<=10000 then some (.lst (zipT xs ys),.fr) else none
 | _,_=>none
section
variable {X:Cx}
def zI7 (E:X.calm=true)(c0:Gl X "list")(b0:X.mg "list"=none)(a8:Gl X "zip")(b3:X.mg "zip"=none)(ha:GE X a f)(hb:GE X b g)
  (hs:starEach [a,b] X.env=(false,eval a X.env)::starEach [b] X.env) (M:starEach [b] X.env=[(false,eval b X.env)]) :
  GE X (.Call (.Name "list" p) [.Call (.Name "zip" p2) [a,b] [] pos2] [] pos) (two f g zipD):=by
 intro V s σ H Q I ⟨S,G,r,ds,e,c⟩;obtain⟨x,ex,e⟩:=bind_some e;obtain⟨y,ey,e⟩:=bind_some e;unfold zipD at e;split at e
 .rename_i xs ys b5 a9;by_cases ok:xs.length=ys.length/\xs.length<=10000
  .rw [if_pos ok] at e;cases e;obtain⟨g7,e8⟩:=ok;refine wpAny_Call_Name_kw (zCw I c0 b0 boot_list ?_ (by decide) (by decide));refine PyProof.Rows.callWith_type1 ?_ rfl rfl;show wpAny _ _ (spliced ((false,eval (.Call (.Name "zip" p2) [a,b] [] pos2) X.env)::[])) _ _ s;refine Calls.spliced_cons ?_;refine wpAny_Call_Name_kw (zCw I a8 b3 boot_zip ?_ (by decide) (by decide));refine PyProof.Rows.callWith_type1 (thn ((zAU ha (zAU hb zA2 M) hs) pos2 V s σ H (λvs H2=>∃ vx vy,vs=[vx,vy]/\Same H H2/\Rdv X.K H2 S x.1 vx/\Rdv X.K H2 S y.1 vy) I
    ⟨S,G,x,ds,ex,λvx l t r1=>⟨S,G,y,ds.mono t,ey,λvy H2 s2 r2=>⟨vx,vy,rfl,t.trans s2,r1.rd.mono s2,r2.rd⟩⟩⟩) λus t ⟨vs,l,K,r1,q1⟩=>?_) hs (by rw[M];rfl)
   obtain⟨vx,vy,rfl,sm,dx,dy⟩:=q1;rw[b5] at dx;rw[a9] at dy;obtain⟨l1,m,rfl,w1,d1⟩:=dx.lst;obtain⟨l2,B,rfl,w2,d2⟩:=dy.lst;obtain⟨u1,u2,rfl,c6,b2⟩:=zL6 r1;cases c6;cases b2;obtain⟨L,N,p1,z1⟩:=K.list w1;obtain⟨e4,R,p2,z2⟩:=K.list w2;have n1:xs.length=m.length:=d1.length;have n2:ys.length=B.length:=d2.length;have m1:=N.length;have m2:=R.length;have O:l1 < t.heap.objs.size:=by obtain⟨o,q,_⟩:=p1.isList;exact lt_size q
   have Y:l2 < t.heap.objs.size:=by obtain⟨o,q,_⟩:=p2.isList;exact lt_size q
   refine call_zip_2 p1.isList p2.isList λh' hz b1 c3 W P b9 hk=>?_
   refine Calls.spliced_nil ?_;refine zF2 (s:={ t with heap:=h' }) (I.ok.hd E) (zipApart_new O Y) hz b1 c3 W P (p1.isList.at λo q=>hk _ o q) (p2.isList.at λo q=>hk _ o q) (by rw[xq,xq];omega) (by rw[xq];omega) λs' Z=>?_
   obtain⟨J,c4⟩:=Z.same;have eS:({ t with heap:=h' }:Shared).heap.objs.size=t.heap.objs.size+5:=b9;have gS:∃ h,h=t.heap.objs.size:=⟨_,rfl⟩;obtain⟨h,A⟩:=gS;rw[eS,<- A] at Z ⊢;rw[<- A] at O Y;subst c4;have kp:∀ (b:Nat) o,t.heap.get? b=some o->J.get? b=some o:=λb o q=>by
    have hb:b < h:=by rw[A];exact lt_size q
    exact Z.keep b o (by omega) (by omega) (by omega) (by omega) (hk b o q)
   obtain⟨cc,C⟩:=Z.lst;have F:∀ {b:Nat} {o:HO},l b=some o->b < h:=λ{b o} q=>by rw[A];exact(K.hok b o q).lt
   have j:∀ {b:Nat} {o:HO},l b=some o->HZ l (h+5) m B b=some o:=λ{b o} q=>by rw[zOL (by have:=F q;omega)];exact q
   have hn:L.toArray.size=m.length:=by rw[xq];exact m1.symm
   rw[hn] at C;have c8:HOk X.prog X.w (HZ l (h+5) m B) J:=λ(b:Nat) o q=>by
    by_cases c1:b=h+5
    .subst c1;rw[hz_S] at q;cases q;refine⟨by rw[qy,length_range];exact z1,(List.range m.length).map λk=>Value.ref (h+5+1+k),cc,?_,C⟩;have:=zGC ((List.range m.length).map λk=>h+5+1+k);rw[map_map,map_map] at this;exact this
    .by_cases c2:h+5+1<=b/\b < h+5+1+m.length
     .have eb:b=h+5+1+(b - (h+5+1)):=by omega
      have U:b - (h+5+1) < m.length:=by omega
      rw[eb,hz_t U] at q;cases q;obtain⟨ux,b8,rx⟩:=zJN N U;obtain⟨uy,a5,ry⟩:=zJN R (k:=b - (h+5+1)) (by omega);have tp:=Z.tup (b - (h+5+1)) ux uy (by simpa using b8) (by simpa using a5);refine⟨by show 2<=sizeLine;decide,[ux,uy],.cons rx (.cons ry .nil),?_⟩;rw[<- eb] at tp;exact⟨_,tp,rfl,_,rfl⟩
     .have q':l b=some o:=by
       unfold HZ at q;rw[if_neg c1,if_neg c2] at q;exact q
      exact(K.hok b o q').stay (λd v _ w=>kp d v w) (λd w=>j w) (λd ws w=>j w) λd ob u w _=>j w
   have T:∀ (b:Nat) o,t.heap.get? b=some o->l b=none->HZ l (h+5) m B b=none:=λb o q n=>by
    have hb:b < h:=by rw[A];exact lt_size q
    rw[zOL (by omega)];exact n
   have un:Un X.fs [] l (HZ l (h+5) m B) t.heap J:=⟨λb o q _ _ _=>kp b o q,λb o q _ _ _=>⟨o.slots,kp b o q⟩,λb o q n _=>T b o q n,λb o q _=>⟨o,kp b o q⟩,λb ws q=>j q,λb o w q=>j q,λb ps q=>j q⟩;have sH:Same l (HZ l (h+5) m B):=λb o q=>j q
   have fr:l (h+5)=none:=K.hok.fresh (by rw[<- A];omega);have nS:∀ {b:Nat},b∈S->b < h:=λ{b} z=>by
    obtain⟨ws,q,_⟩:=(ds.mono sm).sok b z;exact F q
   refine⟨.ref (h+5),_,K.un (t':=t.toks) un c8,rfl,c _ _ (sm.trans sH) ⟨h+5,_,_,rfl,rfl,λz=>absurd (nS z) (by omega),sm.free fr,hz_S,?_⟩⟩;refine DenL.of_get ?_ λi d v D ev=>?_
   .unfold zipT;rw[List.length_zipWith,qy,length_range];omega
   .unfold zipT at D;rw[List.getElem?_zipWith] at D;rw[getElem?_map] at ev;cases e1:xs[i]? with
    | none=>rw[e1] at D;simp at D
    | some i0 =>
     cases e2:ys[i]? with
     | none=>rw[e1,e2] at D;simp at D
     | some h6 =>
      rw[e1,e2] at D;cases D;have hi:i < m.length:=by rw[<- n1];exact(zzg e1).1
      rw[getElem?_range hi] at ev;cases ev;obtain⟨va,qa,da⟩:=d1.get e1;obtain⟨vb,qb,db⟩:=d2.get e2;have ga:m.getD i .non=va:=by rw[getD_eq_getElem?_getD,qa];rfl
      have gb:B.getD i .non=vb:=by rw[getD_eq_getElem?_getD,qb];rfl
      have up:Same (hide l S) (hide (HZ l (h+5) m B) ((h+5)::S)):=λ(b:Nat) o q=>by
       obtain⟨q1,q2⟩:=zA0 q;rw[zAO λz=>(mem_cons.mp z).elim (λz=>by have z':b=h+5:=z;have:=F q2;omega) q1];exact j q2
      rw[Den];refine⟨h+5+1+i,[va,vb],rfl,SqT.of ?_,.cons (da.mono up) (.cons (db.mono up) .nil)⟩;rw[zAO λz=>(mem_cons.mp z).elim (λz=>by have z':h+5+1+i=h+5:=z;omega) λz=>by have:=nS z;omega,hz_t hi,ga,gb]
  .rw [if_neg ok] at e;cases e
 .cases e
end
def Arr (stack:List Env)(H':Hp)(h0:Heap)(ex:List Addr)(a C:Addr)(h:Heap):Prop :=
 ∃ B:Heap,B.StaysIn h/\B.get? a=none/\h.FunFrames B stack/\(∀ b u,H' b=some u->∃ o,B.get? b=some o)/\(∀ b o,h0.get? b=some o->b∉frs stack->b∉ex->∃ o',B.get? b=some o') /\
  ∃ a0,(∃ fl,h.TracedAtW B a (.ref C) a0 fl)\/(∃ oe vs,h.get? a=some oe/\oe.cls=.ref C/\oe.data=.fields vs/\vs[1]?=some .none/\vs[0]?=some a0)
structure Gone (P:Program)(w:World)(stack:List Env)(ex:List Addr)(H H':Hp)(s s':Shared)(a C:Addr):Prop where
 os:s'.os=s.os
 bare:AllBare s'.gens
 un:Un (frs stack) ex H H' s.heap s'.heap
 hok:HOk P w H' s'.heap
 arr:Arr stack H' s.heap ex a C s'.heap
def GX {O:Type}(X:Cx)(m:Sem O)(f:Dst->Option Str):Prop:=True
abbrev GXs (X:Cx) (st:Stmt) (f:Dst->Option Str):Prop:=GX X (exec st X.env) f
abbrev GXss (X:Cx) (st:List Stmt) (f:Dst->Option Str):Prop:=GX X (execs st X.env) f
section
variable {X:Cx}
def zAM {O:Type}{m:Sem O}:GX X m λ_=>none:=trivial
end
end DL
end
section
namespace DL
open PySem Spec PyProof.Rows L2 PySem.W Builtin Builtin.ObjectAttr Builtin.Getset_descriptor
section
variable {prog:Program}{w:World}{A:Around}{E:Value->Shared->Prop}{h:Heap}{g:Array GenState}{d:Drawn}{t:Nat}{os:OsState}{a C:Addr}{o:Obj}{K:W.Frag}
structure XCls (K:W.Frag)(C:Addr):Prop where
 ga:findIn K (.ref C) "__getattribute__"=some (some (.builtin "BaseException.__getattribute__"))
 gt:findIn K (.ref C) "__getattr__"=some none
 cl:findIn K (.ref C) "__class__"=some (some (.builtin "object.__class__"))
 mo:mroIn K C (.type "object")=some true
 mb:subIn K (.ref C) (.type "BaseException")=some true
 is:(clsIn K C).isSome=true
end
end DL
end
section
namespace DL
open PySem Spec PyProof.Rows L2
end DL
end
section
namespace DL
open PySem Spec PyProof.Rows L2
section
variable {X:Cx}
noncomputable def chD (o o':D->D->Option R)(f g h:Dst->Option R):Dst->Option R:=λG=>(f G).bind λx=>(g G).bind λy=>match o x.1 y.1 with
 | some (.bl true,_)=>(h G).bind λz=>o' y.1 z.1
 | some (.bl false,_)=>some (.bl false,.cl)
 | _=>none
def zH1 (p:OpD X.K r o)(l:OpD X.K r' o'){σ:St}(q:gT X.K (chD o o' f g h) σ H Q):zJY r r' (gT X.K f) (gT X.K g) (gT X.K h) σ H Q:=by
 obtain⟨S,G,z,i,e,c⟩:=q;obtain⟨x,u,e⟩:=bind_some e;obtain⟨y,D,e⟩:=bind_some e;refine⟨S,G,x,i,u,λvx L b r1=>⟨S,G,y,i.mono b,D,λvy n a r2=>?_⟩⟩;split at e
 .rename_i k m;obtain⟨w,B,e⟩:=bind_some e;refine p S n x.1 y.1 _ vx vy _ (i.mono (b.trans a)).sok m (r1.rd.mono a) r2.rd λv t d r3=>⟨true,r3.rd.bl,?_⟩
  refine⟨S,G,w,i.mono (b.trans (a.trans d)),B,λvw v j F=>?_⟩;exact l S v y.1 w.1 z vy vw Q (i.mono (b.trans (a.trans (d.trans j)))).sok e (r2.rd.mono (d.trans j)) F.rd λv' C A E=>c v' C (b.trans (a.trans (d.trans (j.trans A)))) (E.from (b.trans (a.trans (d.trans j))))
 .rename_i k m;cases e;refine p S n x.1 y.1 _ vx vy _ (i.mono (b.trans a)).sok m (r1.rd.mono a) r2.rd λv t d r3=>⟨false,r3.rd.bl,?_⟩
  exact c _ t (b.trans (a.trans d)) (.bl _)
 .cases e
noncomputable def chB (op:CmpOp):Bool:=decide (op=.Lt)||decide (op=.LtE)||decide (op=.Gt)||decide (op=.GtE)
def zIA (h:chB op'=true):lastMarks [op,op'] [b,c]=false:=by
 unfold chB at h
 simp_all
 rcases h with ((h | h) | h) | h<;>subst h<;>exact zDH c
noncomputable def zGD:D->Option R
 | .lst ds=>some (.tup ds,.cl)
 | .tup ds=>some (.tup ds,.cl)
 | _=>none
def zKA:OpD1 X.K (λxs H Q=>∃ p ys,xs=[.ref p]/\((SqL X.K H p ys/\∀ l,H l=none->Q (.ref l) (upd H l (.tup ys)))\/(SqT X.K H p ys/\Q (.ref p) H))) zGD:=by
 intro S H x z i Q d e f c;unfold zGD at e;split at e
 .cases e;obtain⟨a,b,rfl,h1,h2⟩:=f.lst;exact⟨a,b,rfl,.inl ⟨h1,λp n=>c _ _ (zAX n _) (.tupNew d n h2)⟩⟩
 .cases e;rcases f with h | ⟨a,b,ds',h1,h2,_⟩
  .have g:=h;obtain⟨a,b,rfl,h1,h2⟩:=h;exact⟨a,b,rfl,.inr ⟨Same.tupS zAf h1,c _ H (Same.refl _) g⟩⟩
  .cases h2
 .cases e
end
end DL
namespace DL
open PySem Spec PyProof.Rows L2
noncomputable def extD (i:Nat)(f:Dst->Option R):Dst->Option Out:=λG=>match G[i]? with
 | some (some (.lst xs,true))=>(f G).bind λr=>match r with
  | (.lst ys,.fr)=>if xs.length+ys.length<=10000 then some (.nx (G.set i (some (.lst (xs++ys),true)))) else none
  | _=>none
 | _=>none
def zSV (R:X.N[i]?=some x)(K:Vis X.env.scope x)(U:(x==("__debug__":Str))=false)(n:(x==("__classdict__":Str))=false)(h:GE X e f)
  (s:starEach [e] X.env=[(false,eval e X.env)]) (d:attributeBase (.Name x npos) "extend" X.env (eval (.Name x npos) X.env)=eval (.Name x npos) X.env) (c:(apos.endLine==cpos.line)=true) :
  GS X (.Expr (.Call (.Attribute (.Name x npos) "extend" apos) [e] [] cpos) pos) (extD i f):=λH0=>(zFf (zO5 PySem.F.plainAttrs_list PySem.F.slot_list_extend PySem.F.type_list_extend zKU (zDD R K U n) (zAU h zA2 s) d (by rw[s];rfl) c s rfl) rfl).imp λE σ H g=>by
 obtain⟨S,G,o,y,h0,e,p⟩:=g;unfold extD at e;split at e
 .rename_i D q;obtain⟨r,J,e⟩:=bind_some e;split at e
  .rename_i C;by_cases hl:D.length+C.length<=10000
   .rw [if_pos hl] at e;cases e;obtain⟨v,F,Q⟩:=y.get i _ true q;obtain⟨a,m,es,rfl,L,N,E,B⟩:=Q.ownL rfl;cases L;refine⟨.ref a,F,.inl ⟨rfl,_,SqL.of E⟩,S,G,_,y,J,λy I j r1=>?_⟩;obtain⟨b,k,M,rfl,O,Z,V,w,A⟩:=r1;cases O;have l:=B.mono (zAP j (S:=S));have u:=A.mono (zB2 (H:=I) (S:=S) (T:=b::S) λc z=>qY _ z);have W:=B.length;have Y:=A.length;refine⟨a,b,m,k,rfl,rfl,j _ _ E,w,le_trans (show m.length+k.length<=10000 by omega) (by decide),?_⟩;have t:DenL X.K (hide I S) (D++C) (m++k):=l.append u;have P:=(y.mono j).change (i:=i) q F t;refine p S σ _ P ?_;rw[zFr N];exact h0.trans (zAP j)
   .rw [if_neg hl] at e;cases e
  .cases e
 .cases e
end DL
namespace DL
open PySem Spec PyProof.Rows L2
section
variable {X:Cx}
structure Tgt (X:Cx)(i:Nat)(x:Str):Prop where
 at_:X.N[i]?=some x
 loc:Loc X.env.scope x
 fn:X.fn x=true\/X.env.scope.names.lookup x=some .local
end
end DL
end
section
namespace DL
open PySem
def zI0:typeLookup (.type "list_reverseiterator") "__len__"=pure none:=by rw[typeLookup_type];kernel_rfl
def zMe:typeLookup (.type "list_reverseiterator") "__length_hint__"=pure (some (.builtin "list_reverseiterator.__length_hint__")):=by rw[typeLookup_type];kernel_rfl
def zMd:isSubtype (.type "list_reverseiterator") (.type "list_reverseiterator")=pure true:=by rw[isSubtype_type];kernel_rfl
section
variable {prog:Program}{w:World}{A:Around}{E:Value->Shared->Prop}{s:Shared}{I l:Addr}{items:Array Value}
def zMr (a:s.TypeIs (.ref I) "list_reverseiterator")(h:Q false s):wpAny M A (Builtin.List.listLengthHint (.ref I)) Q E s:=by
 unfold Builtin.List.listLengthHint;refine qQ (wpAny_specialOf a zI0 ?_);show wpAny _ A (specialOf (Value.ref I) (Str.ofString "__length_hint__")>>=_) _ _ _;refine qQ (wpAny_specialOf a zMe ?_);have b:splitId "list_reverseiterator.__length_hint__"=some ("list_reverseiterator","__length_hint__"):=by decide +kernel
 simp only[b];unfold isInstance;refine qQ (qQ (wpAny_typeOf a (wpAny_of_eq zMd ?_)));rw[if_neg (show ¬ ((!true)=true) by decide)];rw[if_pos (by decide +kernel)];rw[if_neg (by decide +kernel)];exact q8 h
def zF3 (N:A.handled=none)(p:l≠I)(c:s.heap.IsRevIter I l ((items.size:Int) - 1))(C:s.heap.IsList l items)(G:items.size<=10000)
  (O:∀ s' acc' c',Moved (s.heap.objs.size::[I]) (λa b=>b=a) { s with heap:=s.heap.push { cls:=.type "list",data:=.seq #[] } } s' ->
   s'.heap.get? s.heap.objs.size=some { cls:=.type "list",dict:=none,data:=.seq acc' c',slots:=#[] }->ItemsOf (λi v=>items[items.size - 1 - i]?=some v) acc' items.size->Q (.ref s.heap.objs.size) s') :
  wpAny (model prog w) A (call (.type "list") [.ref I]) Q E s:=by
 have W:=(Walks.listRev (prog:=prog) (w:=w) (A:=A.in1.in1) N I l p items).toS;have H:(items.size:Nat)>=0/\True:=⟨zero_le _,trivial⟩;have st0:(λ(i:Nat) (s:Shared)=>i<=items.size/\s.heap.IsRevIter I l ((items.size:Int) - 1 - (i:Int))/\s.heap.IsList l items) 0 s:=⟨zero_le _,by simpa using c,C⟩;have j:I < s.heap.objs.size:=by obtain⟨o,e,_⟩:=c;exact lt_size e
 have q:l < s.heap.objs.size:=by obtain⟨o,e,_⟩:=C;exact lt_size e
 have u:s.heap.objs.size∉[I,l]:=λhm=>by
  rcases mem_cons.mp hm with e | e
  .exact lt_irrefl _ (e▸j)
  .exact lt_irrefl _ ((mem_singleton.mp e)▸q)
 have P:items.size<=sizeLine:=le_trans G (by decide);refine callType_codes (Q₁:=λobj z=>obj=.ref s.heap.objs.size/\z={ s with heap:=s.heap.push { cls:=.type "list",data:=.seq #[] } }) F.called_list (F.typeCall_list_1 _) F.entry_list_init
  (code_list_new _ ⟨rfl,rfl⟩) λobj z K=>?_
 obtain⟨rfl,rfl⟩:=K;have m:(s.heap.push { cls:=.type "list",data:=.seq #[] }).get? s.heap.objs.size=some { cls:=.type "list",data:=.seq #[] }:=get?_push_size _ rfl;refine⟨⟨_,m,rfl⟩,F.args_list_init_2 _ _,?_⟩;show wpAny _ A.in1.in1 (do let r<-Builtin.List.listItems (.ref s.heap.objs.size);Builtin.List.listUpdate (.ref s.heap.objs.size) (λ_=>#[]);letGo r.toList.reverse;Builtin.List.listExtendWith (.ref s.heap.objs.size) (.ref I) .none) _ _ _;refine qQ ?_;unfold Builtin.List.listItems;refine qQ (wpAny_seqItems m rfl (q8 ?_));show wpAny _ A.in1.in1 (updateSeq s.heap.objs.size (λ_=>#[])>>=λ_=>letGo (#[]:Array Value).toList.reverse>>=λ_=>Builtin.List.listExtendWith (.ref s.heap.objs.size) (.ref I) .none) _ _ _;refine qQ (wpAny_updateSeq m rfl ?_);have x:=Heap.get?_update_self (Obj.mapSeq (λ_=>(#[]:Array Value))) m rfl;refine qQ (wpAny_letGo ?_);have g:∀ b o,b≠s.heap.objs.size->(s.heap.push { cls:=.type "list",data:=.seq #[] }).get? b=some o->((s.heap.push { cls:=.type "list",data:=.seq #[] }).update s.heap.objs.size (Obj.mapSeq (λ_=>(#[]:Array Value)))).get? b=some o :=
  λb o n e=>(Heap.get?_update_other _ _ (Ne.symm n)).trans e
 have B:∀ (b:Nat) o,s.heap.get? b=some o->((s.heap.push { cls:=.type "list",data:=.seq #[] }).update s.heap.objs.size (Obj.mapSeq (λ_=>(#[]:Array Value)))).get? b=some o:=λb o e=>g b o (ne_of_lt (lt_size e)) (get?_push_of_some _ e)
 have f:=c.at (h':=(s.heap.push { cls:=.type "list",data:=.seq #[] }).update s.heap.objs.size (Obj.mapSeq (λ_=>(#[]:Array Value)))) λo e=>B I o e
 have y:({ s with heap:=(s.heap.push { cls:=.type "list",data:=.seq #[] }).update s.heap.objs.size (Obj.mapSeq (λ_=>(#[]:Array Value))) }:Shared).TypeIs (.ref I) "list_reverseiterator":=f.typeIs;have k:=W.frame 0 s ((s.heap.push { cls:=.type "list",data:=.seq #[] }).update s.heap.objs.size (Obj.mapSeq (λ_=>(#[]:Array Value)))) s.toks st0 (le_refl _) λb n o e=>B b o e
 unfold Builtin.List.listExtendWith;refine qQ (wpAny_typeOf y ?_);have J:Builtin.List.listSameRef (.ref s.heap.objs.size) (.ref I)=false:=by
  have:s.heap.objs.size≠I:=Nat.ne_of_gt j;simp[Builtin.List.listSameRef,this]
 have L:(Value.type "list_reverseiterator"==Value.type "list")=false:=by decide
 have M:(Value.type "list_reverseiterator"==Value.type "tuple")=false:=by decide
 simp only[J,L,M,Bool.or_false,Bool.false_eq_true,if_false];refine qQ (W.self 0 _ _ _ k ?_);refine qQ (wpAny_holding (zMr y ?_));rw[if_neg (by decide +kernel)];refine q8 ⟨plainId_quiet F.plain_extend_loop _,codeAny_extend_loopS W P _ u _ items.size 0 _ _ _ rfl (zero_le _) k x (ItemsOf.nil _) λs' acc' c' hm t d=>?_⟩;have R:Moved (s.heap.objs.size::[I]) (λa b=>b=a) { s with heap:=s.heap.push { cls:=.type "list",data:=.seq #[] } } { s with heap:=(s.heap.push { cls:=.type "list",data:=.seq #[] }).update s.heap.objs.size (Obj.mapSeq (λ_=>(#[]:Array Value))) } :=
  ⟨λb o n e=>g b o (λh=>n (by rw[h];exact q0)) e,rfl,rfl,rfl,le_refl _⟩
 exact⟨rfl,O s' acc' c' (Moved.trans W.gtrans R hm) t d⟩
end
end DL
namespace DL
open PySem Spec PyProof.Rows L2
def zL5 (h:Vals xs us):Vals xs.reverse us.reverse:=by
 induction h with
 | nil=>exact .nil
 | cons r t a =>
  simp;exact a.append (.cons r .nil)
def DenL.rev {K:W.Frag}:∀ {ds:List D} {vs:List V},DenL K H ds vs->DenL K H ds.reverse vs.reverse
 | [],_,h=>by rw[DenL] at h;subst h;exact .nil
 | d::ds,_,h=>by
  rw[DenL] at h;obtain⟨v,ws,rfl,h1,h2⟩:=h;rw[reverse_cons,reverse_cons];exact(DenL.rev h2).append (.cons h1 .nil)
def zNe:bootBuiltins "reversed"=some (.type "reversed"):=by decide
noncomputable def revD:D->Option R
 | .lst xs=>if xs.length<=10000 then some (.lst xs.reverse,.fr) else none
 | _=>none
section
variable {X:Cx}
def zKl {a:List Value}(h:ItemsOf (λi v=>a.toArray[a.toArray.size - 1 - i]?=some v) acc a.toArray.size):acc=a.reverse.toArray:=by
 apply Array.ext';apply ext_getElem?;intro j;obtain⟨h1,h2⟩:=h;by_cases hj:j < acc.size
 .have e:=h2 j _ (Array.getElem?_eq_getElem hj);simp;grind
 .simp_all
def zI8 (j:X.calm=true)(M:Gl X "list")(K:X.mg "list"=none)(J:Gl X "reversed")(A:X.mg "reversed"=none)(Z:GE X a f)
  (O:starEach [a] X.env=[(false,eval a X.env)]) :
  GE X (.Call (.Name "list" p) [.Call (.Name "reversed" p2) [a] [] pos2] [] pos) (one f revD):=by
 intro i s σ H Q I ⟨S,G,r,R,e,c⟩;obtain⟨x,ex,e⟩:=bind_some e;unfold revD at e;split at e
 .rename_i T y;by_cases ok:T.length<=10000
  .rw [if_pos ok] at e;cases e;refine wpAny_Call_Name_kw (zCw I M K boot_list ?_ (by decide) (by decide));refine PyProof.Rows.callWith_type1 ?_ rfl rfl;show wpAny _ _ (spliced ((false,eval (.Call (.Name "reversed" p2) [a] [] pos2) X.env)::[])) _ _ s;refine Calls.spliced_cons ?_;refine wpAny_Call_Name_kw (zCw I J A zNe ?_ (by decide) (by decide));refine PyProof.Rows.callWith_type1 (thn ((zAU Z zA2 O) pos2 i s σ H (λvs P=>∃ vx,vs=[vx]/\Same H P/\Rdv X.K P S x.1 vx) I
    ⟨S,G,x,R,ex,λvx D d r1=>⟨vx,rfl,d,r1.rd⟩⟩) λus d ⟨vs,D,u,r1,Y⟩=>?_) O rfl
   obtain⟨vx,rfl,L,W⟩:=Y;rw[y] at W;obtain⟨n,C,rfl,w1,N⟩:=W.lst;obtain⟨u1,rfl,E⟩:=zGz r1;cases E;obtain⟨g,t,B,z1⟩:=u.list w1;have n1:T.length=C.length:=N.length;have m1:=t.length;have w:n < d.heap.objs.size:=by obtain⟨o,q,_⟩:=B.isList;exact lt_size q
   refine call_reversed_list B.isList ?_;refine Calls.spliced_nil ?_;have U:∀ b o,d.heap.get? b=some o->(d.heap.push (revObj n ((g.toArray.size:Int) - 1))).get? b=some o:=λb o q=>get?_push_of_some _ q
   refine zF3 (s:={ d with heap:=d.heap.push (revObj n ((g.toArray.size:Int) - 1)) }) (I:=d.heap.objs.size) (l:=n) (items:=g.toArray) (u.ok.hd j) (ne_of_lt w) ⟨_,get?_push_size _ rfl,rfl,rfl⟩ (B.isList.at λo q=>U _ o q) (by rw[xq];omega) λs' a7 c' m h F=>?_
   have sz:({ d with heap:=d.heap.push (revObj n ((g.toArray.size:Int) - 1)) }:Shared).heap.objs.size=d.heap.objs.size+1:=Heap.size_push _ _;rw[sz] at m h ⊢;obtain rfl:=zKl F;have kp:∀ b o,d.heap.get? b=some o->s'.heap.get? b=some o:=λb o q=>by
    have V:b < d.heap.objs.size:=lt_size q;refine m.heap b o (λz=>?_) (get?_push_of_some _ (U b o q));rcases mem_cons.mp z with z | z
    .exact absurd V (by rw[z];exact Nat.not_lt.mpr (Nat.le_succ _))
    .exact absurd V (by rw[mem_singleton.mp z];exact lt_irrefl _)
   have es:s'={ d with heap:=s'.heap,toks:=s'.toks }:=by
    obtain⟨h',g',d',t',o'⟩:=s';have e1:g'=d.gens:=m.gens;have e2:d'=d.drawn:=m.drawn;have e3:o'=d.os:=m.os;subst e1 e2 e3
    rfl
   have fr:D (d.heap.objs.size+1)=none:=u.hok.fresh (Nat.le_succ _);have I2:Inv X i σ (upd D (d.heap.objs.size+1) (.lst C.reverse)) { d with heap:=s'.heap,toks:=s'.toks } :=
    u.laid kp (Nat.le_succ _) (show zBl X.prog X.w _ _ _ (.lst C.reverse) from ⟨by rw[List.length_reverse];exact z1,g.reverse,c',zL5 t,h⟩)
   rw[es];refine⟨.ref (d.heap.objs.size+1),_,I2,rfl,c _ _ (L.trans (zAX fr _)) (.lstNew L (R.mono L).sok fr N.rev)⟩
  .rw [if_neg ok] at e;cases e
 .cases e
end
end DL
end
section
namespace DL
open PySem Spec PyProof.Rows L2
section
variable {X:Cx}
noncomputable def augI:Operator->Int->Int->Option Int
 | .Add,a,b=>some (a+b)
 | .Sub,a,b=>some (a - b)
 | _,_,_=>none
noncomputable def augD (op:Operator)(i:Nat)(f:Dst->Option R):Dst->Option Out:=λG=>match G[i]? with
 | some (some (.int a,false))=>(f G).bind λr=>match r.1 with
  | .int b=>(augI op a b).bind λc=>some (.nx (G.set i (some (.int c,false))))
  | _=>none
 | _=>none
def zSW (O:X.N.Nodup)(L:X.N[i]?=some x)(E:Loc X.env.scope x)(h:GE X e f)(F:X.fn x=true\/X.env.scope.names.lookup x=some .local) :
  GS X (.AugAssign (.Name x pos') op e pos) (augD op i f):=λH0=>by
 have z:∀ (g:Int->Int->Int),(∀ a b,augI op a b=some (g a b))->OpR X (inplaceOp op) (rI0 λi j=>.int (g i j))->PS X (.AugAssign (.Name x pos') op e pos) (gS X.K H0 (augD op i f)):=λg J R=>(zRU O L E h (λpins s σ H x y v u Q I K M q=>R pins s σ H x y v u Q I K M q) F).imp λE σ H c=>by
  obtain⟨S,G,o,m,h0,e,p⟩:=c;unfold augD at e;split at e
  .rename_i a q;obtain⟨r,t,e⟩:=bind_some e;obtain⟨d,k⟩:=r;split at e
   .rename_i b A;rw[J] at e;cases e;dsimp only at A;subst A;obtain⟨v,T,P⟩:=m.get i _ _ q;have w:=P.den rfl;rw[Den] at w;subst w;refine⟨_,T,S,G,_,m,t,λy N B r1=>⟨a,b,rfl,r1.rd.int,?_⟩⟩;exact p S _ N ((m.mono B).set (by rw[Den])) (h0.trans (zAP B))
   .cases e
  .cases e
 have C:(∀ a b,augI op a b=none)->PS X (.AugAssign (.Name x pos') op e pos) (gS X.K H0 (augD op i f)):=λhn=>(zFe (X:=X)).imp λE σ H l=>by
  obtain⟨S,G,o,m,h0,e,p⟩:=l;unfold augD at e;split at e
  .obtain ⟨r,t,e⟩:=bind_some e;split at e
   .rw [hn] at e;cases e
   .cases e
  .cases e
 cases op with
 | Add=>exact z (·+·) (λ_ _=>rfl) (opI0 λ_ _ _ _ _ _ _ q=>iadd_int q)
 | Sub=>exact z (· - ·) (λ_ _=>rfl) (opI0 λ_ _ _ _ _ _ _ q=>isub_int q)
 | _=>exact C λ_ _=>rfl
theorem zC9:∀ {ns:List Int} {its:List Value},Vals (ns.map V.int) its->∃ ps:List (Int×Tok),its=ps.map (λp=>Value.int p.1 p.2)/\ps.map (·.1)=ns
 | [],[],_=>⟨[],rfl,rfl⟩
 | n::ns,_::_,.cons r t=>by
  obtain⟨ps,rfl,e2⟩:=zC9 t;obtain⟨tk,rfl⟩:=r;exact⟨(n,tk)::ps,rfl,by rw[map_cons,e2]⟩
end
section
variable {X:Cx}
theorem RV.str {K:W.Frag}(x:Str):RV K H H' S (.str x,.cl) (.str x):=rfl
inductive T1 where
 | str | int | all | len
 deriving DecidableEq
noncomputable def T1.nm:T1->Str
 | .str => "str"
 | .int => "int"
 | .all => "all"
 | .len => "len"
inductive T2 where
 | add | inn | ix | drp | sw | spl | join | zf | fs (x:Str)
end
section
variable {X:Cx}
noncomputable def anyS (sub:Str->Str->Option Bool)(c:Str):List Str->Option Bool
 | []=>some false
 | y::ys=>match sub y c with
  | some true=>some true
  | some false=>anyS sub c ys
  | none=>none
inductive ClsT (X:Cx) (sub:Str->Str->Option Bool):List Str->List Expr->List V->List Value->Prop
 | nil:ClsT X sub [] [] [] []
 | cons {y:Str} {ys:List Str} {p:Pos} {es:List Expr} {v:V} {vs:List V} {u:Value} {us:List Value}:(∀ u',RelV v u'->u'=u)->PE X (.Name y p) (tC v)->(∀ c b,sub y c=some b->∀ C,zBT X.K c C->XCls X.K C/\W.kitOne X.K (.ref C) u=some b) ->
   ClsT X sub ys es vs us->ClsT X sub (y::ys) (.Name y p::es) (v::vs) (u::us)
theorem ClsT.pa (h:ClsT X sub ys es vs us):PA X es (λ_ H Q=>Q vs H):=by
 induction h with
 | nil=>exact zA2
 | cons h1 h2 h3 h4 ih=>exact zAU h2 ih rfl
def ClsT.us {vs:List V}{us a:List Value}(h:ClsT X sub ys es vs us)(r:Vals vs a):a=us:=by
 induction h generalizing a with
 | nil=>cases r;rfl
 | cons h1 h2 h3 h4 b =>
  cases r with
  | cons r1 r2=>rw[h1 _ r1,b r2]
def ClsT.any {vs:List V}{us:List Value}(h:ClsT X sub ys es vs us){c:Str}{C:Addr}(q:zBT X.K c C):∀ {b:Bool},anyS sub c ys=some b->W.kitAny X.K (.ref C) us=some b:=by
 induction h with
 | nil=>intro b e;exact e
 | cons h1 h2 h3 h4 d =>
  intro b e;unfold anyS at e;unfold W.kitAny;split at e
  .rename_i a;rw[(h3 c true a C q).2];omega
  .rename_i a;simpa [(h3 c false a C q).2] using d e
  .cases e
def ClsT.len {es:List Expr}{vs:List V}{us:List Value}(h:ClsT X sub ys es vs us):vs.length=ys.length:=by
 induction h with
 | nil=>rfl
 | cons h1 h2 h3 h4 a=>rw[xX,xX,a]
def rRep (K:W.Frag):R2:=λx y H Q=>∃ l xs i,x=.ref l/\y=.int i/\SqL K H l xs/\0<=i/\i<=10000/\xs.length*i.toNat<=10000/\∀ p,H p=none->Q (.ref p) (upd H p (.lst (List.replicate i.toNat xs).flatten))
theorem zHp (h:Vals vs us):∀ n:Nat,Vals (List.replicate n vs).flatten (List.replicate n us).flatten
 | 0=>.nil
 | n+1=>by rw[replicate_succ,flatten_cons,replicate_succ,flatten_cons];exact h.append (zHp h n)
theorem zLZ {K:W.Frag}(h:DenL K H ds vs):∀ n:Nat,DenL K H (List.replicate n ds).flatten (List.replicate n vs).flatten
 | 0=>.nil
 | n+1=>by rw[replicate_succ,flatten_cons,replicate_succ,flatten_cons];exact h.append (zLZ h n)
theorem zHS {O:Type}(xs:List O):∀ n:Nat,(List.replicate n xs).flatten.length=xs.length*n
 | 0=>by simp
 | n+1=>by rw[replicate_succ,flatten_cons,List.length_append,zHS xs n,Nat.mul_succ];omega
def zRi:OpR X (binaryOp .Mult) (rRep X.K):=by
 intro f s σ H x y v u Q I m k h;obtain⟨l,p,i,rfl,rfl,j,h0,h1,e,q⟩:=h;cases m;obtain⟨t,rfl⟩:=k;obtain⟨a,c,⟨⟨o,d,g,sl⟩,n,e1,e2,e3,e4⟩,z1⟩:=I.list j;subst e2 e4;have b:a.toArray.size*i.toNat<=10000:=by rw[xq,<- c.length];exact e
 refine wpAny_binaryOp_repeat_ref (T := "list") (U := "int") (by decide) ⟨_,e1,rfl⟩ (λs'=>typeIs_int s' i t) noFill_list_mul F.fills_int_mul F.slot_int_rmul repeat_list F.slot_int_index.lookup ?_;refine call_meets F.slot_int_rmul (typeIs_int s i t) F.entry_int_rmul (F.args_int_rmul_2 _ _) (lm_int_rmul_list_any i t l _ n d sl) ⟨e1,rfl,⟨_,e1,rfl⟩,?_⟩;refine call_meets F.slot_list_mul ⟨_,e1,rfl⟩ F.entry_list_mul (F.args_list_mul_2 _ _) (lm_list_mul_any l _ n d sl i t (by simp[Builtin.List.listFitsIndex];omega) (by omega) (by simp[Builtin.List.listTooLong,sizeLine];rw[xq] at b;omega)) ⟨e1,?_⟩;rw[listMul_foldl_if];exact⟨.ref _,_,I.lnew (zHp c i.toNat) (by rw[zHS];exact zDB e),rfl,q _ I.fresh⟩
end
end DL
end
section
namespace L2
open PySem Spec PyProof.Rows
section
variable {a:Type}[DecidableEq a]
noncomputable def valV (kvs:List (a×V))(k:a):Option V:=(kvs.find? λkv=>decide (kv.1=k)).map (·.2)
noncomputable def putK (kvs:List (a×V))(k:a)(v:V):List (a×V) :=
 if (kvs.any λkv=>decide (kv.1=k))=true then kvs.map (λkv=>if kv.1=k then (kv.1,v) else kv) else kvs++[(k,v)]
end
abbrev KT (H:Hp):List (List Key×V)->List (List Key×Addr×Value)->Prop:=Paired λp q=>p.1=q.1/\H q.2.1=some (.tup (p.1.map kV))/\RelV p.2 q.2.2
def KT.keeps (r:KT H kvs xs)(a:∀ b ys,H b=some (.tup ys)->H' b=some (.tup ys)):KT H' kvs xs :=
 Paired.mapP r λ_ _ z=>⟨z.1,a _ _ z.2.1,z.2.2⟩
section
variable {X:Cx}{pins:List (Addr×Obj)}{σ:St}{H:Hp}{s:Shared}{a:Addr}{y v:V}{u r:Value}{o:Option V}{A:Around}{E:Value->Shared->Prop}
def Inv.big (I:Inv X pins σ H s):sysModules < s.heap.objs.size:=Nat.lt_trans (by decide) (I.mod.glob.keeps I.bk).lt
end
end L2
end
section
namespace DL
open PySem Spec PyProof.Rows L2
variable {X:Cx}
end DL
end
section
namespace L2
open PySem Spec PyProof.Rows
section
variable {a:Type}[DecidableEq a]
noncomputable def zTT (kvs:List (a×V))(k:a):List (a×V):=kvs.filter λkv=>decide (kv.1≠k)
def KV.any (r:KV kvs vs)(k:a):(kvs.any λkv=>decide (kv.1=k))=vs.any λkv=>decide (kv.1=k):=by
 induction r with
 | nil=>rfl
 | cons h t b=>rw[List.any_cons,List.any_cons,b,h.1]
def KV.drop (r:KV kvs vs)(k:a):KV (zTT kvs k) (without vs k):=by
 unfold zTT without
 induction r with
 | nil=>exact .nil
 | @cons p q ps qs h t ih =>
  obtain⟨h1,h2⟩:=h;rw[filter_cons,filter_cons];by_cases e:p.1=k
  .grind
  .have b:=λz=>e (h1.trans z)
   rw[if_pos (by grind),if_pos (by grind)];exact .cons ⟨h1,h2⟩ ih
theorem KV.length {b:List (a×V)}{vs:List (a×Value)}(r:KV b vs):b.length=vs.length:=Paired.length r
end
def DGet (H:Hp)(a:Addr)(y:V)(r:Option V):Prop :=
 (∃ kvs k,Rd H a (.dK kvs)/\y=kV k/\r=valV kvs k)\/∃ kvs k b,Rd H a (.dT kvs)/\y=.ref b/\H b=some (.tup (k.map kV))/\r=valV kvs k
def DPut (H:Hp)(a:Addr)(y v:V)(H':Hp):Prop :=
 (∃ kvs k,H a=some (.dK kvs)/\y=kV k/\kvs.length < sizeLine/\H'=upd H a (.dK (putK kvs k v))) \/
 ∃ kvs k b,H a=some (.dT kvs)/\y=.ref b/\H b=some (.tup (k.map kV))/\kvs.length < sizeLine/\H'=upd H a (.dT (putK kvs k v))
theorem DGet.k {kvs:List (Key×V)}{k:Key}(e:H a=some (.dK kvs)):DGet H a (kV k) (valV kvs k):=.inl ⟨kvs,k,.inl e,rfl,rfl⟩
theorem DPut.k {kvs:List (Key×V)}{k:Key}{v:V}(e:H a=some (.dK kvs))(hl:kvs.length < sizeLine):DPut H a (kV k) v (upd H a (.dK (putK kvs k v))):=.inl ⟨kvs,k,e,rfl,hl,rfl⟩
def DPut.t {c:List (List Key×V)}{k:List Key}{v:V}(e:H a=some (.dT c))(f:H b=some (.tup (k.map kV)))(d:c.length < sizeLine) :
  DPut H a (.ref b) v (upd H a (.dT (putK c k v))):=.inr ⟨c,k,b,e,rfl,f,d,rfl⟩
end L2
end
section
namespace DL
open PySem Spec PyProof.Rows L2
def zEW (e:h.get? b=some o):zBl P w H h b (.frz o anyU):=⟨e,True.intro,⟨o,e⟩,λ_ _ _ _=>True.intro⟩
theorem zOu (hS:∀ b∈S,∃ o,H b=some (.frz o anyU))(nf:∀ b∈S,b∉fs)(hok:HOk P w H h)(un:Un fs [] (hide H S) H2 h h')(hok2:HOk P w H2 h') :
  ∃ H':Hp,(∀ b∈S,H' b=H b)/\(∀ b,b∉S->H' b=H2 b)/\Same H2 H'/\(∀ b∈S,H2 b=none)/\Un fs [] H H' h h'/\HOk P w H' h':=by
 have there:∀ {b:Addr},b∈S->∃ o,H b=some (.frz o anyU)/\h'.get? b=some o/\H2 b=none:=λ{b} z=>by
  obtain⟨o,e⟩:=hS b z;obtain⟨e1,_⟩:=hok b _ e;exact⟨o,e,un.keep b o e1 (zCB z) (nf b z) (by simp),un.free b o e1 (zCB z) (by simp)⟩
 have nS:∀ {b:Addr} {u:HO},H2 b=some u->b∉S:=λ{b u} e z=>by
  obtain⟨_,_,_,q⟩:=there z;grind
 have nN:∀ {b:Addr},H b=none->b∉S:=λ{b} e z=>by
  obtain⟨_,q,_⟩:=there z;grind
 have hid:∀ {b:Addr},b∉S->hide H S b=H b:=λz=>zAO z
 obtain⟨H',hin,hout⟩:∃ H':Hp,(∀ b∈S,H' b=H b)/\(∀ b,b∉S->H' b=H2 b):=⟨λb=>if b∈S then H b else H2 b,λb z=>if_pos z,λb z=>if_neg z⟩;have sm:Same H2 H':=λb u e=>by rw[hout b (nS e)];exact e
 refine⟨H',hin,hout,sm,λb z=>(there z).choose_spec.2.2,⟨λb o e n=>un.keep b o e (by rw[hid (nN n)];exact n),λb o e n=>un.slot b o e (by rw[hid (nN n)];exact n),λb o e n hx=>?_,un.there,λb xs e=>?_,λb o u e=>?_,λb q e=>?_⟩,λb u e=>?_⟩
 .rw [hout b (nN n)];exact un.free b o e (by rw[hid (nN n)];exact n) hx
 .have z:b∉S:=λz=>by obtain⟨_,q,_⟩:=there z;rw[q] at e;cases e
  rw[hout b z];exact un.tups b xs (by rw[hid z];exact e)
 .by_cases z:b∈S
  .rw [hin b z];exact e
  .rw [hout b z];exact un.frzs b o u (by rw[hid z];exact e)
 .have z:b∉S:=λz=>by obtain⟨_,q,_⟩:=there z;rw[q] at e;cases e
  rw[hout b z];exact un.tbls b q (by rw[hid z];exact e)
 .by_cases z:b∈S
  .obtain ⟨o,q,g,_⟩:=there z;rw[hin b z,q] at e;cases e;exact zEW g
  .rw [hout b z] at e;exact(hok2 b u e).stay (λ_ _ _ q=>q) (λ_ q=>sm _ _ q) (λ_ _ q=>sm _ _ q) λ_ _ _ q _=>sm _ _ q
theorem zMq (hS:∀ b∈S,∃ o v,H b=some (.frz o anyU)/\o.data=.cell v)(hok:HOk P w H h):HOk P w (hide H S) h:=λb u e=>by
 obtain⟨nb,e1⟩:=zA0 e;have keep:∀ {c:Addr} {v:HO},H c=some v->(∀ o,v≠.frz o anyU)->hide H S c=some v:=λ{c v} q n=>by
  rw[zAO λz=>?_]
  .exact q
  .obtain ⟨o,_,q2,_⟩:=hS c z;rw[q] at q2;exact n o (xy q2)
 refine(hok b u e1).stay (λ_ _ _ q=>q) (λc q=>keep q λo z=>nomatch z) (λc xs q=>keep q λo z=>nomatch z) λc ob v q zz77=>?_
 obtain⟨vs,d⟩:=zz77;rw[zAO λz=>?_]
 .exact q
 .obtain ⟨o,cv,q2,d2⟩:=hS c z;rw[q] at q2;cases q2;rw[d] at d2;cases d2
def zBU.get:∀ {H:Hp} {cl:List (Str×Addr)} {vs:List V},zBU H cl vs->∀ {i:Nat} {v:V},vs[i]?=some v->∃ p o u,cl[i]?=some p/\H p.2=some (.frz o anyU)/\o.data=.cell (some u)/\RelV v u
 | _,_,_,.nil,i,v,e=>by simp at e
 | H,_,_,.cons (a:=p) (b:=v0) ⟨o,u,h1,h2,h3⟩ t,i,v,e=>by
  cases i with
  | zero=>simp at e;subst e;exact⟨p,o,u,by simp,h1,h2,h3⟩
  | succ i =>
   obtain⟨p',o',u',e1,e2⟩:=zBU.get (H:=H) t (i:=i) (v:=v) (by simpa using e);exact⟨p',o',u',by simpa using e1,e2⟩
def zBU.mem (h:zBU H cl vs):∀ p∈cl,∃ o u,H p.2=some (.frz o anyU)/\o.data=.cell (some u):=by
 induction h with
 | nil=>intro p a;exact absurd a (by simp)
 | cons r t b =>
  intro p a;rcases mem_cons.mp a with rfl | a
  .obtain ⟨o,u,h1,h2,_⟩:=r;exact⟨o,u,h1,h2⟩
  .exact b p a
noncomputable def zTZ (P:Program)(w:World)(K:W.Frag)(mg:Str->Option Value)(base:Heap)(N:List Str)(L:LamI)(f c:Addr)(cl:List (Str×Addr))(A:Around)(outer:List Env)(s:Shared)(H:Hp):Cx where
 prog:=P
 w:=w
 K:=K
 mg:=mg
 base:=base
 A:=A.deeper (W.envX L.qual L.scope s.heap.objs.size f (.ref c) cl)
 N:=N
 s0:=s
 Y8:=H
 env:=W.envX L.qual L.scope s.heap.objs.size f (.ref c) cl
 outer:=outer
 stack:=W.envX L.qual L.scope s.heap.objs.size f (.ref c) cl::outer
 ex:=[]
 calm:=true
 fn:=λ_=>false
 pn:=[]
 xe:=λ_ _=>False
structure zGA (x:Str)(ys:List Str)(L:LamI):Prop where
 kind:L.scope.kind=.function
 co:L.scope.isCoroutine=false
 gen:L.scope.isGenerator=false
 nd:(x::ys).Nodup
 par:L.scope.names.lookup x=some .local
 fr:∀ y∈ys,L.scope.names.lookup y=some .free
 all:∀ y,L.scope.names.lookup y=some .free->y∈ys
 nocell:∀ y∈L.scope.names,y.2≠.cell
 bind:∀ cl pm c ctv u,bindArgs (W.kla_fn "<lambda>" L.qual L.params L.body L.scope cl pm c ctv) ⟨[u],[]⟩=pure [(x,u)]
def zGV {ys:List Str}:∀ {cl:List (Str×Addr)},cl.map (·.1)=ys->ys.Nodup->∀ {i:Nat} {p:Str×Addr},cl[i]?=some p->cl.lookup p.1=some p.2/\ys[i]?=some p.1:=λ{cl} h a {i p} e=>by
 refine⟨?_,by rw[<- h,getElem?_map,e];rfl⟩;subst h
 induction cl generalizing i with
 | nil=>simp at e
 | cons q cl c =>
  rw[map_cons,nodup_cons] at a;cases i with
  | zero=>simp at e;subst e;rw[lookup_cons,beq_self_eq_true]
  | succ i =>
   have b:cl[i]?=some p:=by simpa using e
   rw[lookup_cons,beq_eq_false_iff_ne.mpr λz=>a.1 (by rw[<- z];exact mem_map.mpr ⟨p,mem_of_getElem? b,rfl⟩)];exact c b a.2
def zPj {P:Program}{w:World}{K:W.Frag}{mg:Str->Option Value}{base:Heap}{x:Str}{ys:List Str}{L:LamI}{f c:Addr}{cl:List (Str×Addr)}{A:Around}{k:List Env}{s:Shared}{H:Hp}{u:Value}{v:V}{vs:List V}{E:Heap}
  (S:zGA x ys L) (hd:A.handled=none) (U:A.depth+1+Builtin.pylongFrames < recursionLimit) (d:Env0 P w K mg base A k s H) (r:RelV v u) (M:cl.map (·.1)=ys) (O:(cl.map (·.2)).Nodup) (G:zBU H cl vs)
  (R:E.Ns s.heap.objs.size (λy=>([(x,u)]:List (Str×Value)).reverse.lookup y)) (Q:Heap.SameBut s.heap.objs.size (s.heap.push { cls:=.type "frame",data:=.dict #[] }) E) (tk:Nat) :
  Inv (zTZ P w K mg base (x::ys) L f c cl A k s (hide H (cl.map (·.2)))) [] (some v::vs.map some) (hide H (cl.map (·.2))) { s with heap:=E,toks:=tk }:=by
 have J:∀ b o,s.heap.get? b=some o->E.get? b=some o:=λb o e=>Q.extBut b o (ne_of_lt (lt_size e)) (get?_push_of_some _ e)
 have hS:∀ b∈cl.map (·.2),∃ o v,H b=some (.frz o anyU)/\o.data=.cell v:=λb z=>by
  obtain⟨p,C,rfl⟩:=mem_map.mp z;obtain⟨o,u,h1,h2⟩:=G.mem p C;exact⟨o,_,h1,h2⟩
 have N:=zMq hS d.hok;have none_of:∀ {b:Addr},H b=none->hide H (cl.map (·.2)) b=none:=λ{b} q=>by
  by_cases z:b∈cl.map (·.2)
  .exact zCB z
  .rw [zAO z];exact q
 have I:∀ {y:Str} {j:Addr},cl.lookup y=some j->(y,j)∈cl:=λe=>PySem.mem_of_lookup e
 have cell:∀ {y:Str} {j:Addr},(y,j)∈cl->∃ cv,E.IsCell j cv:=λ{y j} m=>by
  obtain⟨o,u,h1,h2⟩:=G.mem _ m;obtain⟨D,_⟩:=d.hok _ _ h1;exact⟨_,o,J _ _ D,h2⟩
 have g:ys.Nodup:=(nodup_cons.mp S.nd).2;have nx:x∉ys:=(nodup_cons.mp S.nd).1;have n:∀ b:Addr,b∉([]:List Addr):=λb z=>absurd z (by simp)
 have lv:vs.length=cl.length:=(Paired.length G).symm;refine⟨⟨d.mod,S.kind,rfl,rfl,le_refl _,λy z j h1 h2=>?_,λy t=>?_,λy j q _=>(by cases q),λ_=>hd,Around.frames_deeper d.frames,.inr ⟨rfl,rfl⟩,λb z=>absurd z (n b),λb o e=>⟨(d.bs b o e).1,none_of (d.bs b o e).2⟩,d.bsz,λb _ _=>n b,λb z=>absurd z (n b),d.funs,λb z=>none_of (d.frf b z),⟨U,d.tree,_,_,rfl,S.gen,S.co,rfl,rfl⟩,λy t j X e=>?_⟩,
  rfl,d.bare,Un.kept J,⟨_,R,λi y Z h1 h2 h3=>?_⟩,λy j h=>cell (I h),d.hok.fresh (le_refl _) |> none_of,λy j h=>zCB (mem_map.mpr ⟨_,I h,rfl⟩),λp C=>absurd (show p∈([]:List (Addr×Obj)) from C) (by simp),N.kept J,?_⟩
 .-- the cells are apart
  have a1:=I h1;have a2:=I h2;have Y:∀ {l:List (Str×Addr)},(l.map (·.2)).Nodup->∀ {p q:Str×Addr},p∈l->q∈l->p.2=q.2->p=q:=by
   intro l nd
   induction l with
   | nil=>intro p q C;exact absurd C (by simp)
   | cons a l ih =>
    grind
  exact congrArg Prod.fst (Y O a1 a2 rfl)
 .have F:L.scope.names.lookup y=some .cell\/L.scope.names.lookup y=some .free:=t;rcases F with q | q
  .exact absurd rfl (S.nocell _ (PySem.mem_of_lookup q))
  .have m:=S.all y q;rw[<- M] at m;obtain⟨p,C,rfl⟩:=mem_map.mp m;obtain⟨i,hi,e⟩:=List.getElem_of_mem C;exact⟨p.2,(zGV M g (i:=i) (p:=p) (by rw[<- e];exact getElem?_eq_getElem hi)).1⟩
 .have q:=d.tabs y t j X e;show hide H _ X=_;rw[zAO λz=>?_]
  .exact q
  .obtain ⟨o,_,q2,_⟩:=hS X z;rw[q] at q2;cases q2
 .cases i with
  | zero =>
   have D:x=y:=by
    have B:(x::ys)[0]?=some y:=h1;simpa using B
   have T:v=Z:=by simpa using h2
   subst D T;exact⟨u,r,.inl ⟨S.par,by simp⟩⟩
  | succ i =>
   have D:ys[i]?=some y:=by
    have B:(x::ys)[i+1]?=some y:=h1;simpa using B
   have T:vs[i]?=some Z:=by
    simp_all
   obtain⟨p,o,uu,g1,g2,g3,g4⟩:=G.get T;obtain⟨k1,k2⟩:=zGV M g g1;rw[D] at k2;have ey:y=p.1:=xy k2;subst ey;obtain⟨g5,_⟩:=d.hok _ _ g2;exact⟨uu,g4,.inr ⟨.inr (S.fr _ (mem_of_getElem? D)),p.2,k1,o,J _ _ g5,g3⟩⟩
 .show (some v::vs.map some).length=(x::ys).length;rw[xX,xX,qy,lv,<- M,qy]
def zMm {P:Program}{w:World}{K:W.Frag}{C:Str->Option Value}{base:Heap}{A:Around}{a:List Env}{s:Shared}{H:Hp}{Q:VK}{E:XK}{k:Nat}{f:Addr}{L:LamI}{x:Str}{ys:List Str}{v:V}{u:Value}{vs:List V}
  (n:Room (k+1) A) (d:Env0 P w K C base A a s H) (la:zDv H L f vs) (ey:frN L=ys) (S:zGA x ys L) (D:RelV v u)
  (h:∀ (c:Addr) (cl:List (Str×Addr)),cl.map (·.1)=ys->zBU H cl vs->(∀ b∈cl.map (·.2),∃ o v,H b=some (.frz o anyU)/\o.data=.cell v)->∃ t:TE,PE (zTZ P w K C base (x::ys) L f c cl A a s (hide H (cl.map (·.2)))) L.body t /\
   t (some v::vs.map some) (hide H (cl.map (·.2))) λv' H2=>∀ H',(∀ b∈cl.map (·.2),H' b=H b)->(∀ b,b∉cl.map (·.2)->H' b=H2 b)->Same H2 H'->(∀ b∈cl.map (·.2),H2 b=none)->Q v' H') :
  codeAny (model P w) A (.call (.ref f) ⟨[u],[]⟩) (CR CX0 a P w H s Q E) s:=by
 obtain⟨cl,pm,c,a7,U,u1,h1,h2,h3,h4,h5,h6⟩:=la;rw[ey] at h4;obtain⟨Z,_⟩:=d.hok _ _ h1;obtain⟨g2,_⟩:=d.hok _ _ h2;obtain⟨y,ct,Y,d2⟩:=h3;have l:∀ b∈cl.map (·.2),∃ o v,H b=some (.frz o anyU)/\o.data=.cell v:=λb z=>by
  obtain⟨p,N,rfl⟩:=mem_map.mp z;obtain⟨o,u,R,O⟩:=h6.mem p N;exact⟨o,_,R,O⟩
 refine W.kla_callFunE n.depth Z rfl S.co S.gen rfl ⟨c,U,y,ct,rfl,g2,Y,d2⟩ ?_;rw[S.bind];have m:s.heap.NoLimit:=d.mod.nolimit.keeps λb o e=>(d.bs b o e).1
 refine q8 (wpAny_newFunctionEnv S.nocell (λy F=>by rw[mem_singleton.mp F];exact S.par) (λO8 j i=>⟨m.fresh _ i,?_⟩) S.kind);obtain⟨t,T,hq⟩:=h c cl h4 h6 l;have I:=zPj (f:=f) (c:=c) S n.hd (by have:=n.dp;show A.depth+1+100 < _;omega) d D h4 h5 h6 j i (s.toks+1);refine W.kla_codeExpr (wpAny_mono (T [] _ _ _ _ I hq) (λuu X r=>?_) λe X r=>r.elim);obtain⟨v',H2,J,B,q⟩:=r;obtain⟨H',p1,p2,G,p4,un,g⟩:=zOu (P:=P) (w:=w) (fs:=frs a) (S:=cl.map (·.2)) (λb z=>let ⟨o,_,q,_⟩:=l b z;⟨o,q⟩) (λb z M=>by
  obtain⟨o,_,q,_⟩:=l b z;rw[d.frf b M] at q;cases q) d.hok J.base J.hok
 exact⟨v',H',J.os,J.bare,un,g,B,q H' p1 p2 G p4⟩
noncomputable def clos:List (Str×NameKind)->List (Str×Addr)->List (Str×Addr)->Option (List (Str×Addr))
 | [],_,acc=>some acc
 | (x,k)::r,cs,acc=>if k==.free then (match cs.lookup x with
  | some c=>clos r cs ((x,c)::acc)
  | none=>none) else clos r cs acc
theorem zHk :∀ {l:List (Str×NameKind)} {acc:List (Str×Addr)},clos l env.cells acc=some cl ->
  (forIn l acc (λ(x:Str×NameKind) (r:List (Str×Addr))=>match x with
   | (name,kind)=>if (kind==.free)=true then (do let c<-cellOf env name;pure (ForInStep.yield ((name,c)::r))) else pure (ForInStep.yield r)):Sem (List (Str×Addr)))=pure cl
 | [],acc,h=>by
  cases h;simp
 | (x,k)::l,acc,h=>by
  unfold clos at h;rw[forIn_cons];by_cases e:(k==NameKind.free)=true
  .rw [if_pos e] at h;split at h
   .rename_i c ec;have:=zHk (l:=l) h;have ce:cellOf env x=pure c:=by unfold cellOf;rw[ec]
    simp only[e,if_true,ce,pure_bind];exact this
   .cases h
  .rw [if_neg e] at h;have:=zHk (l:=l) h;simp only[e,Bool.false_eq_true,if_false,pure_bind];exact this
def zFH (h:clos sc.names env.cells []=some cl):closureFor sc env=pure cl:=by
 unfold closureFor;have:=zHk h;simp only[bind_pure];omega
def zGF {a b:Nat}{c:Value}(l:List Value)(h:TriplesOk l):TriplesOk (l++[rawInt a,rawInt b,c]):=by
 fun_induction TriplesOk l with
 | case1=>simp[TriplesOk,rawInt]
 | case2 _ _ _ _ _ d e=>simpa [TriplesOk] using e h
 | case3=>cases h
def zJF {pos:Pos}{a b:Nat}{c d:Value}(l:List Value)(h:TriplesOk l)(e:codeAmong pos (l++[rawInt a,rawInt b,c])=some d):codeAmong pos l=some d\/d=c:=by
 fun_induction TriplesOk l with
 | case1 =>
  simp only[nil_append,rawInt,codeAmong] at e
  simp_all
 | case2 f t j u x g i =>
  simp only[cons_append,codeAmong] at e ⊢;split at e
  .simp_all
  .rename_i z;rw[if_neg z];exact i h e
 | case3=>cases h
section
variable {X:Cx}{pins:List (Addr×Obj)}{σ:St}{H:Hp}{s:Shared}
theorem zMl (I:Inv X pins σ H s)
  (hd:defaultsOf params X.env=([],[])) (hcl:clos scope.names X.env.cells []=some cl) (hcode:X.env.code=.ref c) (C:W.CodeHd X.base c P) (hP:H P=some (.tbl (X.env.qual ++ "<lambda>")))
  (h:∀ f c' ctv pm oc u1 H1 s',Same H H1->H f=none->H1 f=some (.frz (W.kla_obj "<lambda>" (X.env.qual ++ "<lambda>") params body scope cl pm c' ctv) anyU)->H1 c'=some (.frz oc u1)->zLz oc (X.env.qual ++ "<lambda>")->Inv X pins σ H1 s'->Q (.ref f) s') :
  wpAny (model X.prog X.w) X.A (eval (.Lambda params body scope pos) X.env) Q E s:=by
 refine W.kla_eval hd ?_;have hg:s.heap.Ns mainGlobals X.mg:=I.ok.mod.glob.keeps I.bk;obtain⟨ps,e1,t1,cs⟩:=I.hok P _ hP;have C':=C.keeps I.bk;have hgP:mainGlobals≠P:=λz=>by
  obtain⟨o,es,ep,e,d,_⟩:=hg;rw[z,e1] at e;cases e;cases d
 obtain⟨bm,ob,b1,b2,b3,b4,b5,b6⟩:=I.ok.mod.bm;have b3':=I.bk _ _ b3;have hbm:bm≠mainGlobals:=λz=>by
  obtain⟨o,es,ep,e,d,_⟩:=hg;rw[<- z,b3'] at e;cases e;rw[b6] at d;cases d
 have hbP:bm≠P:=λz=>by
  rw[z,e1] at b3';cases b3';cases b4
 have hb:s.heap.BuiltinsAt X.mg P:=⟨bm,ob,b1,b2,hbm,hbP,b3',b4,b5,b6⟩;cases e:codeAmong pos ps.toList with
 | none =>
  refine W.kla_makeFunction (zFH hcl) I.ok.glob hg hcode C' e1 t1 e hgP hb λc' ctv h' tk hx hge hlt hrec htb=>?_
  obtain⟨c2,oc,vs,t,q1,q2,q3,q4⟩:=hrec;cases q1;have szh:s.heap.objs.size<=h'.objs.size:=le_trans hge (Nat.le_of_lt hlt);have nc:H c'=none:=I.hok.fresh hge;have nf:H h'.objs.size=none:=I.hok.fresh szh;have ncf:c'≠h'.objs.size:=ne_of_lt hlt;obtain⟨fo,efo⟩:∃ fo:Obj,fo=W.kla_obj "<lambda>" (X.env.qual ++ "<lambda>") params body scope cl ((X.mg "__name__").getD .none) c' ctv:=⟨_,rfl⟩;obtain⟨H1,eH⟩:∃ H1:Hp,H1=upd (upd H c' (.frz oc anyU)) h'.objs.size (.frz fo anyU):=⟨_,rfl⟩;have sm:Same H H1:=λb o q=>by
   rw[eH,zAQ (zAq q nf),zAQ (zAq q nc)];exact q
  have at1:H1 h'.objs.size=some (.frz fo anyU):=by rw[eH];exact zAW
  have at2:H1 c'=some (.frz oc anyU):=by rw[eH,zAQ ncf];exact zAW
  have oth:∀ {b:Addr},b≠c'->b≠h'.objs.size->H1 b=H b:=λ{b} z1 z2=>by rw[eH,zAQ z2,zAQ z1]
  have kp:∀ b o,b≠P->s.heap.get? b=some o->(h'.push fo).get? b=some o:=λb o z q=>get?_push_of_some _ (hx b o z q)
  have lt:∀ {b:Addr} {o:Obj},s.heap.get? b=some o->b≠c'/\b≠h'.objs.size:=λ{b o} q=>⟨ne_of_lt (xj (lt_size q) hge),ne_of_lt (xj (lt_size q) szh)⟩
  have nP:∀ {b:Addr},H b=none->b≠P:=λ{b} q z=>by rw[z,hP] at q;cases q
  have un:Un X.fs [] H H1 s.heap (h'.push fo):=⟨λb o q n _ _=>kp b o (nP n) q,λb o q n _ _=>⟨o.slots,kp b o (nP n) q⟩,λb o q n _=>by
    obtain⟨z1,z2⟩:=lt q;rw[oth z1 z2];exact n,λb o q _=>by
    by_cases z:b=P
    .subst z;exact⟨_,get?_push_of_some _ htb⟩
    .exact ⟨o,kp b o z q⟩,λb xs q=>sm _ _ q,λb o u q=>sm _ _ q,λb q' q=>sm _ _ q⟩
  have hok:HOk X.prog X.w H1 (h'.push fo):=λb u q=>by
   by_cases z1:b=h'.objs.size
   .subst z1;rw[at1] at q;cases q;exact zEW (get?_push_size _ (by rw[efo];rfl))
   .by_cases z2:b=c'
    .subst z2;rw[at2] at q;cases q;exact zEW (get?_push_of_some _ q2)
    .rw [oth z2 z1] at q;by_cases z3:b=P
     .subst z3;rw[hP] at q;cases q;refine⟨_,get?_push_of_some _ htb,?_,λpos' cv z=>?_⟩
      .rw [Array.toList_append];exact zGF _ t1
      .rw [Array.toList_append] at z;rcases zJF _ t1 z with z | z
       .obtain ⟨c3,oc3,u3,g1,g2,g3⟩:=cs pos' cv z;exact⟨c3,oc3,u3,g1,sm _ _ g2,g3⟩
       .exact ⟨c',oc,anyU,z,at2,vs,t,q3,q4⟩
     .refine (I.hok b u q).stay (λd v hd w'=>kp d v ?_ w') (λd w'=>sm _ _ w') (λd xs w'=>sm _ _ w') λd o' u' w' _=>sm _ _ w'
      grind
  have I1:=I.un (t':=tk) un hok;rw[efo] at I1 at1;exact h _ c' ctv _ oc anyU H1 _ sm nf at1 at2 ⟨vs,t,q3,q4⟩ I1
 | some cv =>
  obtain⟨c',oc,u1,rfl,hc',co⟩:=cs pos cv e;refine W.kla_makeFunctionHit (zFH hcl) I.ok.glob hg hcode C' e1 t1 e hb λctv h' tk hk hsz=>?_
  have nf:H h'.objs.size=none:=I.hok.fresh hsz;have I1:=I.laid (a:=h'.objs.size) (o:=.frz (W.kla_obj "<lambda>" (X.env.qual ++ "<lambda>") params body scope cl ((X.mg "__name__").getD .none) c' ctv) anyU) (t':=tk) (λb o q=>get?_push_of_some _ (hk b o q)) hsz (zEW (get?_push_size _ rfl));exact h _ c' ctv _ oc u1 _ _ (zAX nf _) nf zAW (by rw[zAQ (zAq hc' nf)];exact hc') co I1
end
end DL
end
section
namespace DL
open PySem Spec PyProof.Rows L2
mutual
noncomputable def noF:D->Bool
 | .lam _ _ _=>false
 | .tup ds=>noFs ds
 | .lst ds=>noFs ds
 | .obj _ _ ds=>noFs ds
 | _=>true
noncomputable def noFs:List D->Bool
 | []=>true
 | d::ds=>noF d&&noFs ds
end
abbrev zQv (H:Hp) (S:List Addr):Prop:=∀ b∈S,∃ o v,H b=some (.frz o anyU)/\o.data=.cell v
section
variable {K:W.Frag}{H:Hp}{S:List Addr}
def zCG (a:zQv H S)(e:H b=some u)(n:∀ o v,u=.frz o anyU->o.data≠.cell v):hide H S b=some u:=by
 rw[zAO λz=>?_]
 .omega
 .obtain ⟨o,v,d,c⟩:=a b z
  simp_all
mutual
theorem Den.hideC (hS:zQv H S):∀ {d:D} {v:V},noF d=true->Den K H d v->Den K (hide H S) d v
 | .non,_,_,h=>by rw[Den] at h ⊢;exact h
 | .bl _,_,_,h=>by rw[Den] at h ⊢;exact h
 | .int _,_,_,h=>by rw[Den] at h ⊢;exact h
 | .str _,_,_,h=>by rw[Den] at h ⊢;exact h
 | .tup ds,_,n,h=>by
  rw[noF] at n;rw[Den] at h ⊢;obtain⟨a,vs,h1,h2,h3⟩:=h;refine⟨a,vs,h1,?_,DenL.hideC hS n h3⟩;rcases h2 with (q | ⟨o,q⟩) | q
  .exact .inl (.inl (zCG hS q λo v z=>nomatch z))
  .exact .inl (.inr ⟨o,zCG hS q λo v z=>nomatch z⟩)
  .exact .inr q
 | .lst ds,_,n,h=>by
  rw[noF] at n;rw[Den] at h ⊢;obtain⟨a,vs,h1,h2,h3⟩:=h;refine⟨a,vs,h1,?_,DenL.hideC hS n h3⟩;rcases h2 with (q | ⟨o,q⟩) | q
  .exact .inl (.inl (zCG hS q λo v z=>nomatch z))
  .exact .inl (.inr ⟨o,zCG hS q λo v z=>nomatch z⟩)
  .exact .inr q
 | .exc c,_,_,h=>by
  rw[Den] at h ⊢;obtain⟨a,o,u,C,h1,h2,h3,⟨vs,h4⟩,h5⟩:=h;exact⟨a,o,u,C,h1,zCG hS h2 (λo' v z d=>by cases z;rw[h4] at d;cases d),h3,⟨vs,h4⟩,h5⟩
 | .dct ks,_,_,h=>by
  rw[Den] at h ⊢;obtain⟨a,kvs,h1,h2,h3⟩:=h;exact⟨a,kvs,h1,zCG hS h2 (λo v z=>nomatch z),h3⟩
 | .lam _ _ _,_,n,_=>by rw[noF] at n;cases n
 | .obj c ns ds,_,n,h=>by
  rw[noF] at n;rw[Den] at h ⊢;obtain⟨a,vs,h1,⟨C,dx,gs,h2,h3⟩,h4⟩:=h;exact⟨a,vs,h1,⟨C,dx,gs,zCG hS h2 (λo v z=>nomatch z),h3⟩,DenL.hideC hS n h4⟩
 | .fn _ x,_,_,h=>by rw[Den] at h ⊢;exact h
theorem DenL.hideC (hS:zQv H S):∀ {ds:List D} {vs:List V},noFs ds=true->DenL K H ds vs->DenL K (hide H S) ds vs
 | [],_,_,h=>by rw[DenL] at h ⊢;exact h
 | d::ds,_,n,h=>by
  rw[noFs,x8] at n;rw[DenL] at h ⊢;obtain⟨v,ws,h1,h2,h3⟩:=h;exact⟨v,ws,h1,Den.hideC hS n.1 h2,DenL.hideC hS n.2 h3⟩
end
end
def zFQ (P:Program)(w:World)(K:W.Frag)(mg:Str->Option Value)(base:Heap)(k:Nat)(L:LamI)(F:List D->Option R):Prop :=
 ∀ (A:Around) (outer:List Env) (s:Shared) (H:Hp) (f:Addr) (vs:List V) (ds:List D) (v:V) (u:Value) (d:D) (r:R) (Q:VK) (E:XK),Room k A->Env0 P w K mg base A outer s H->zDv H L f vs->DenL K H ds vs->RelV v u->Den K H d v->F (d::ds)=some r->r.2≠.dt ->
  (∀ v' H',Same H H'->RV K H H' [] r v'->Q v' H')->codeAny (model P w) A (.call (.ref f) ⟨[u],[]⟩) (CR CX0 outer P w H s Q E) s
def zFQ.mono {K:W.Frag}(h:zFQ P w K mg base j L F)(e:j<=k):zFQ P w K mg base k L F :=
 λA a s H f g b v u d r Q E c=>h A a s H f g b v u d r Q E (c.mono e)
def zPa {K:W.Frag}(S:zGA x ys L)(ey:frN L=ys)
  (hb:∀ Y:Cx,Y.prog=P->Y.w=w->Y.K=K->Y.mg=mg->Y.base=base->Room k Y.A->Y.calm=true->Y.N=x::ys->Y.env.scope=L.scope->Y.xe=(λ_ _=>False)->GE Y L.body G) :
  zFQ P w K mg base (k+1) L (λds=>if ds.length=ys.length+1/\noFs ds=true then G (ds.map λd=>some (d,false)) else none):=by
 intro A C s H f X ds v u d r Q E N e0 la O R V h U c;replace h:(if (d::ds).length=ys.length+1/\noFs (d::ds)=true then G ((d::ds).map λd=>some (d,false)) else none)=some r:=h;have q:=Classical.byContradiction λz=>by rw[if_neg z] at h;cases h
 rw[if_pos q] at h;have D:=q.2;rw[noFs,x8] at D;refine zMm N e0 la ey S R λcc cl a1 hc M=>⟨_,hb _ rfl rfl rfl rfl rfl (N.deeper _) rfl rfl rfl rfl,?_⟩
 have B:=Den.hideC M D.1 V;have t:=DenL.hideC M D.2 O;refine⟨[],(d::ds).map λd=>some (d,false),r,⟨?_,λa z=>absurd z (by simp),λi g o z=>?_,λi j g e' a l _ _ _=>?_⟩,h,λv' T s2 r2 n p1 p2 F p4=>?_⟩
 .rw [qy,xX,xX,qy,O.length]
 .rw [getElem?_map] at z;obtain⟨d2,l,p⟩:=x9.mp z;cases p;cases i with
  | zero =>
   have:d=g:=by simpa using l
   subst this;exact⟨v,rfl,.of_den (by rw[zCp];exact B)⟩
  | succ i =>
   have m:ds[i]?=some g:=by simpa using l
   obtain⟨v2,g1,g2⟩:=t.get m;exact⟨v2,by show (X.map some)[i]?=_;rw[getElem?_map,g1];rfl,.of_den (by rw[zCp];exact g2)⟩
 .rw [getElem?_map] at l;obtain⟨d2,_,p⟩:=x9.mp l;cases p
 .have sm:Same H n:=λb o e=>by
   by_cases z:b∈cl.map (·.2)
   .rw [p1 b z];exact e
   .rw [p2 b z];exact s2 b o (by rw[zAO z];exact e)
  refine c v' n sm ?_;obtain⟨g,kd⟩:=r;cases kd with
  | cl =>
   have z:Den K (hide T []) g v':=r2;show Den K (hide n []) g v';rw[zCp] at z ⊢;exact z.mono F
  | fr =>
   obtain⟨a,ws,es,B,t,Z,J,y,e6⟩:=r2;have na:a∉cl.map (·.2):=λz=>by rw[p4 a z] at y;cases y
   refine⟨a,ws,es,B,t,Z,by rw[zAO na] at J;exact J,F _ _ y,e6.mono (zAP F)⟩
  | dt=>exact absurd rfl U
open Classical in
noncomputable def lamF (lm:List (LamI×(List D->Option R)))(j:Nat)(L:LamI)(ds:List D):Option R:=match lm[j]? with
 | some (L',F)=>if L'=L then F ds else none
 | none=>none
noncomputable def fnvF (fns:List (Str×(List D->Option R)))(n:Nat)(x:Str)(ds:List D):Option R:=match fns[n]? with
 | some (y,F)=>if y=x then F ds else none
 | none=>none
noncomputable def zEi (lm:List (LamI×(List D->Option R)))(fns:List (Str×(List D->Option R)))(i:Nat)(f:Dst->Option R):Dst->Option R:=λG=>match G[i]? with
 | some (some (.fn n y,false))=>(f G).bind λx=>if x.2=.dt then none else (fnvF fns n y [x.1]).bind λr=>if r.2=.dt then none else some r
 | some (some (.lam j L ds,false))=>(f G).bind λx=>if x.2=.dt then none else (lamF lm j L (x.1::ds)).bind λr=>if r.2=.dt then none else some r
 | _=>none
variable {X:Cx}
def zM5 (LR:∀ (j:Nat) L F,lm[j]?=some (L,F)->zFQ X.prog X.w X.K X.mg X.base k L F)(FR:∀ x F,(x,F)∈fns->∃ f fd ps,FnOk X.prog X.w X.K X.mg X.base CX0 k f fd ps (spD X.K F)/\X.mg x=some (.ref f)/\W.keepIn X.K (.ref f)=true/\zBH X.K fd ps [])(hr:Room k X.A)(hN:X.N[i]?=some y)(hv:Vis X.env.scope y)(hd:(y==("__debug__":Str))=false)(O:(y==("__classdict__":Str))=false)
  (ha:GE X a f) (he:starEach (a::[]) X.env=(false,eval a X.env)::starEach [] X.env) (px:PassesOwn (model X.prog X.w) X.A X.env X.xe:=by assumption):GE X (.Call (.Name y p) [a] [] pos) (zEi lm fns i f):=by
 intro h s σ H Q I ⟨S,G,z,C,e,c⟩;unfold zEi at e;split at e
 .rename_i n x0 q;obtain⟨x,ex,e⟩:=bind_some e;by_cases hx:x.2=.dt
  .rw [if_pos hx] at e;cases e
  rw[if_neg hx] at e;obtain⟨r,b,e⟩:=bind_some e;by_cases hk:r.2=.dt
  .rw [if_pos hk] at e;cases e
  rw[if_neg hk] at e;cases e;obtain⟨v0,q1,q2⟩:=C.get i _ false q;have N:=q2.den rfl;rw[Den] at N;obtain⟨m,rfl,cn⟩:=N;unfold fnvF at b;split at b
  .rename_i y' F el;have V:y'=x0:=Classical.byContradiction λz=>by rw[if_neg z] at b;cases b
   rw[if_pos V] at b;subst V;obtain⟨f1,fd,ps,FO,hm,a7,hb⟩:=FR _ F (mem_of_getElem? el);have D:X.mg y'=some (.ref m):=W.mg_of I.ok.mod.kin I.ok.mod.glob cn;rw[hm] at D;cases D;refine wpAny_Call_Name_kw (thn (zDD hN hv hd O h s σ H (λx l=>x=.ref m/\l=H) I ⟨_,q1,rfl,rfl⟩) λu A M=>?_);obtain⟨x1,l,R,rx,e1,e2⟩:=M;subst e1 e2;obtain rfl:u=Value.ref m:=rx;refine W.callWith_K (h₀:=X.base) R.ok.mod.kin a7 (thn (zAU ha zA2 he pos h A σ _ (λvs g=>spD X.K F (vs++[]) g Q E0) R ?_) λus o w=>by obtain⟨vs,g,B,rr,qq⟩:=w;exact⟨B.kIn,zEv FO hr hb .nil zHJ B rr qq⟩) he rfl;refine⟨S,G,x,C,ex,λvx g o r2=>?_⟩;exact⟨S,[x.1],_,(C.mono o).sok,.cons (RV.den (d:=x.1) (k:=x.2) r2 hx) .nil,b,hk,λv Z P r3=>c v Z (o.trans P) (r3.from o)⟩
  .cases b
 .rename_i j L dl q;obtain⟨x,ex,e⟩:=bind_some e;by_cases hx:x.2=.dt
  .rw [if_pos hx] at e;cases e
  rw[if_neg hx] at e;obtain⟨r,b,e⟩:=bind_some e;by_cases hk:r.2=.dt
  .rw [if_pos hk] at e;cases e
  rw[if_neg hk] at e;cases e;obtain⟨v0,q1,q2⟩:=C.get i _ false q;have N:=q2.den rfl;rw[Den] at N;obtain⟨m,vs,rfl,la,b7⟩:=N;unfold lamF at b;split at b
  .rename_i L' F el;have V:L'=L:=Classical.byContradiction λz=>by rw[if_neg z] at b;cases b
   rw[if_pos V] at b;subst V;have U:∀ {l:Hp} {A:Shared},zDv l L' m vs->HOk X.prog X.w l A.heap->W.FnAt m A.heap:=λ{l A} la b1=>by
    obtain⟨cl,pm,c',d3,oc,u1,g1,_⟩:=la;obtain⟨g2,_⟩:=b1 _ _ g1;exact⟨_,_,_,_,g2⟩
   refine wpAny_Call_Name_kw (thn (zDD hN hv hd O h s σ H (λx l=>x=.ref m/\l=H) I ⟨_,q1,rfl,rfl⟩) λu A K=>?_);obtain⟨x1,l,R,rx,e1,e2⟩:=K;subst e1 e2;obtain rfl:u=Value.ref m:=rx;have b3:gT X.K f σ l λvx g=>Same l g/\RV X.K l g S x vx:=⟨S,G,x,C,ex,λvx g o r2=>⟨o,r2⟩⟩
   refine W.callWith_F (U (la.mono zAf) R.hok) (thn (zAU ha zA2 he pos h A σ _ (λxs g=>∃ vx,xs=[vx]/\Same l g/\RV X.K l g S x vx) R (by
    obtain⟨S',G',r',g1,g2,g3⟩:=b3;exact⟨S',G',r',g1,g2,λvx g o r2=>⟨vx,rfl,g3 vx g o r2⟩⟩)) λus o ⟨xs,g,B,a6,vx,b0,J,a5⟩=>?_) he
   subst b0;obtain⟨uu,rfl,b9⟩:=zGz a6;have T:zDv (hide g S) L' m vs:=la.mono (zAP J);refine⟨U (T.mono zAf) B.hok,?_⟩;refine wpAny_call (codeAny_mono (zEX (r:=z) (Q:=Q) (E:=E0) B.env0 (C.mono J).sok hk (λe1=>LR j L' F el _ _ _ _ m vs dl vx uu x.1 z _ _ hr e1 T (b7.mono (zAP J)) b9 (RV.den (d:=x.1) (k:=x.2) a5 hx) b hk λv' Z P r3=>⟨r3,P⟩) λv Z P r3=>c v Z (J.trans P) (r3.from J)) λrr s' hq=>?_);cases rr with
   | error e=>exact hq.elim
   | ok fl =>
    cases fl with
    | ret u=>exact B.after hq
    | next=>exact False.elim hq
    | brk=>exact False.elim hq
    | cont=>exact False.elim hq
  .cases b
 .cases e
noncomputable def zGn (fns:List (Str×(List D->Option R)))(i:Nat)(g:Dst->Option (List D)):Dst->Option R:=λG=>match G[i]? with
 | some (some (.fn n y,false))=>(g G).bind λds=>(fnvF fns n y ds).bind λr=>if r.2=.dt then none else some r
 | _=>none
def zM4 {k i:Nat}{l:List (Str×(List D->Option R))}{y:Str}{a:Expr}{es:List Expr}{g:Dst->Option (List D)}{p pos:Pos}(FR:∀ x F,(x,F)∈l->∃ f fd ps,FnOk X.prog X.w X.K X.mg X.base CX0 k f fd ps (spD X.K F)/\X.mg x=some (.ref f)/\W.keepIn X.K (.ref f)=true/\zBH X.K fd ps [])(hr:Room k X.A)(V:X.N[i]?=some y)(hv:Vis X.env.scope y)(hd:(y==("__debug__":Str))=false)(w:(y==("__classdict__":Str))=false)
  (U:GA X (a::es) g) (he:starEach (a::es) X.env=(false,eval a X.env)::starEach es X.env) (E:∀ pos,(backTo pos (starEach es X.env)).any (·.1)=false) (px:PassesOwn (model X.prog X.w) X.A X.env X.xe:=by assumption):GE X (.Call (.Name y p) (a::es) [] pos) (zGn l i g):=by
 intro b s σ H Q I ⟨S,G,z,A,e,c⟩;unfold zGn at e;split at e
 .rename_i n x0 q;obtain⟨O,Y,e⟩:=bind_some e;obtain⟨r,h,e⟩:=bind_some e;by_cases hk:r.2=.dt
  .rw [if_pos hk] at e;cases e
  rw[if_neg hk] at e;cases e;obtain⟨v0,q1,q2⟩:=A.get i _ false q;have J:=q2.den rfl;rw[Den] at J;obtain⟨t,rfl,cn⟩:=J;unfold fnvF at h;split at h
  .rename_i L F el;have K:L=x0:=Classical.byContradiction λz=>by rw[if_neg z] at h;cases h
   rw[if_pos K] at h;subst K;obtain⟨f1,fd,ps,FO,hm,C,hb⟩:=FR _ F (mem_of_getElem? el);have j:X.mg L=some (.ref t):=W.mg_of I.ok.mod.kin I.ok.mod.glob cn;rw[hm] at j;cases j;refine wpAny_Call_Name_kw (thn (zDD V hv hd w b s σ H (λx M=>x=.ref t/\M=H) I ⟨_,q1,rfl,rfl⟩) λu Z m=>?_);obtain⟨x1,M,P,rx,T,e2⟩:=m;subst T e2;obtain rfl:u=Value.ref t:=rx;refine W.callWith_K (h₀:=X.base) P.ok.mod.kin C (thn (U pos b Z σ _ (λvs B=>spD X.K F (vs++[]) B Q E0) P ⟨S,G,O,A,Y,λvs B o dl=>⟨S,O,_,(A.mono o).sok,by rw[append_nil];exact dl,h,hk,λv H' s3 r3=>c v H' (o.trans s3) (r3.from o)⟩⟩) λus o d=>by obtain⟨vs,B,N,rr,qq⟩:=d;exact⟨N.kIn,zEv FO hr hb .nil zHJ N rr qq⟩) he (E pos)
  .cases h
 .cases e
end DL
end
section
namespace DL
open PySem Spec PyProof.Rows L2
variable {X:Cx}
noncomputable def fldD (ob:List (Str×Str×Option Bool))(f:Str):D->Option R
 | .obj c ns l=>if (c,f,none)∈ob then ((ns.zip l).lookup f).map λd=>(d,.cl) else none
 | _=>none
theorem zK7 {K:W.Frag}{gs:List (Str×V)}:∀ {ns:List Str} {vs:List V} {l:List D},(ns.map λn=>gs.lookup n)=vs.map some->DenL K H l vs->(ns.zip l).lookup f=some d->∃ v,gs.lookup f=some v/\Den K H d v
 | [],_,_,_,_,e=>by simp at e
 | n::ns,vs,[],_,_,e=>by simp at e
 | n::ns,vs,x::l,h,t,e=>by
  rw[DenL] at t;obtain⟨v,us,rfl,t1,t2⟩:=t;simp only[map_cons,List.cons.injEq] at h;rw[List.zip_cons_cons,lookup_cons] at e;by_cases q:(f==n)=true
  .rw [q] at e;cases e;exact⟨v,by rw[eq_of_beq q];exact h.1,t1⟩
  .rw [Bool.not_eq_true] at q;rw[q] at e;exact zK7 h.2 t2 e
theorem Rdv.obj {K:W.Frag}(h:Rdv K H S (.obj c ns l) v):Den K (hide H S) (.obj c ns l) v:=by
 rcases h with h | ⟨_,_,_,_,h2,_⟩
 .omega
 .cases h2
def zSq (h:GE X e g)(w:attributeBase e fl X.env (eval e X.env)=eval e X.env)(s:∀ c,(c,fl,none)∈ob->∀ C,zBT X.K c C->Cls X.K C/\zBQ X.K C fl):GE X (.Attribute e fl pos) (one g (fldD ob fl)):=by
 refine(zN7 h w).imp fun σ H Q zz81=>?_
 obtain⟨S,G,z,u,e,c⟩:=zz81;obtain⟨x,i,e⟩:=bind_some e;unfold fldD at e;split at e
 .rename_i b B l A;by_cases m:(b,fl,none)∈ob
  .rw [if_pos m] at e;obtain⟨d,r,j⟩:=x9.mp e;cases j;refine⟨S,G,x,u,i,λvx n k r1=>?_⟩;have r2:=r1.rd;rw[A] at r2;have r3:=r2.obj;rw[Den] at r3;obtain⟨a,D,rfl,⟨C,y,q,h1,h2,h3,h4⟩,h5⟩:=r3;obtain⟨v,f,t⟩:=zK7 h4 h5 r;obtain⟨o,p⟩:=s b m C h3;exact⟨a,C,y,q,v,rfl,zAf _ _ h1,o,p,f,c v n k t⟩
  .rw [if_neg m] at e;cases e
 .cases e
structure OCls (K:W.Frag)(C:Addr):Prop where
 cl:Cls K C
 ha:W.findIn K (.ref C) "__class__"=some (some (.builtin "object.__class__"))
 hm:W.mroIn K C (.type "object")=some true
 hn:W.specialIn K (.builtin "object.__class__") "__get__"=some (some (.builtin "getset_descriptor.__get__"))
 htk:W.takesIn K (.builtin "object.__class__")=some true
 eq:W.findIn K (.ref C) "__eq__"=some (some (.builtin "object.__eq__"))
noncomputable def isoF (sub:Str->Option Bool):D->Option R
 | .obj c _ _=>(sub c).bind λb=>some (.bl b,.cl)
 | _=>none
def zNa {sub:Str->Option Bool}(m:∀ u',RelV vy u'->u'=u)(k:∀ c b,sub c=some b->∀ C,zBT X.K c C->OCls X.K C/\W.kitOne X.K (.ref C) u=some b) :
  zDh X (.builtin "isinstance") (λxs H Q=>∃ v c ns l b,xs=[v,vy]/\Den X.K H (.obj c ns l) v/\sub c=some b/\Q (.bl b) H):=by
 intro f s σ H xs us Q I r h;obtain⟨v,c,ns,l,b,rfl,g,e,q⟩:=h;obtain⟨u',j,rfl,r1,r2⟩:=zL6 r;obtain rfl:=m j r2;rw[Den] at g;obtain⟨a,n,rfl,⟨C,o,p,h1,h2,h3,h4⟩,h5⟩:=g;obtain⟨d,i⟩:=k c b e C h3;exact zKm I r1 (.ins h1 d.cl d.ha d.hn d.htk d.hm) i λtk=>⟨.bl b,H,I.tok tk,rfl,q⟩
def zSo (i:Gl X "isinstance")(t:X.mg "isinstance"=none)(s:PE X (.Name y p2) (tC vy))(m:∀ u',RelV vy u'->u'=u)
  (q:∀ c b,sub c=some b->∀ C,zBT X.K c C->OCls X.K C/\W.kitOne X.K (.ref C) u=some b) (g:GE X e f)
  (a:starEach [e,.Name y p2] X.env=(false,eval e X.env)::starEach [.Name y p2] X.env):GE X (.Call (.Name "isinstance" p) [e,.Name y p2] [] pos) (one f (isoF sub)):=by
 refine(zD0 (zNa m q) i t boot_isinstance (zAU g (zAU s zA2 rfl) a) (by decide) (by decide) a rfl).imp fun σ H Q zz82=>?_
 obtain⟨S,G,z,d,e,c⟩:=zz82;obtain⟨x,r,e⟩:=bind_some e;unfold isoF at e;split at e
 .rename_i o j l n;obtain⟨b,k,e⟩:=bind_some e;cases e;exact⟨S,G,x,d,r,λvx h v r1=>⟨vx,o,j,l,b,rfl,n▸r1.rd.whole,k,c _ h v (.bl _)⟩⟩
 .cases e
def ObOk (K:W.Frag)(mg:Str->Option Value)(p:Str×Str×Option Bool):Prop:=match p.2.2 with
 | none=>∀ C,zBT K p.1 C->Cls K C/\zBQ K C p.2.1
 | some b=>∃ Y,mg p.2.1=some (.ref Y)/\∀ C,zBT K p.1 C->OCls K C/\W.kitOne K (.ref C) (.ref Y)=some b
noncomputable def oiOf (ob:List (Str×Str×Option Bool))(y c:Str):Option Bool:=(ob.find? λp=>decide (p.1=c)&&decide (p.2.1=y)&&p.2.2.isSome).bind (·.2.2)
def zOD (h:oiOf ob y c=some b):(c,y,some b)∈ob:=by
 unfold oiOf at h;obtain⟨p,d,g⟩:=bind_some h;have m:=List.mem_of_find?_eq_some d;have q:=List.find?_some d;rw[x8,x8,qj,qj] at q;obtain⟨⟨f,e⟩,_⟩:=q;obtain⟨a,i,o⟩:=p;cases f;cases e;cases g;exact m
end DL
end
section
namespace DL
open PySem Spec PyProof.Rows L2
set_option genSizeOf false in
set_option genInjectivity false in
inductive E where
 | var (i:Nat) | glob (n:Nat) (x:Str) | int (i:Int) | bl (b:Bool) | non | str (x:Str)
 | bin (op:Operator) (a b:E) | neg (a:E) | not (a:E) | cmp (op:CmpOp) (a b:E)
 | andl (es:E) | orl (es:E) | ite (c a b:E) | tup (es:E) | lst (es:E) | ix (a i:E) | sl (a lo hi:E)
 | comp1 (n:Nat) (ms:List Nat) (x:Str) (src c elt:E) 
 | lzip (a b:E)
 | it (e:E) | r1 (a:E) | r2 (a b:E) | r3 (a b c:E)
 | call (n:Nat) (f:Str) (es:E) | len (a:E) | abs (a:E) | list (a:E) | max (a b:E) | isi (t:Ty) (a:E) | chn (op op':CmpOp) (a b c:E) | tupl (a:E) | lrev (a:E) | callv (i:Nat) (a:E) | callw (i:Nat) (es:E) | fld (a:E) (f:Str) | iso (y:Str) (a:E)
 | nil | cons (e es:E)
set_option genSizeOf false in
set_option genInjectivity false in
inductive S where
 | nil | cons (a b:S) | frz (i:Nat) (rest:S)
 | set (i:Nat) (e:E) | setC (i:Nat) (e:E) | app (i:Nat) (e:E) 
 | ife (c:E) (a b:S) | whl (c:E) (b:S) | for1 (i:Nat) (it:E) (b:S) 
 | ret (e:E) | retOwn (i:Nat) | never | ext (i:Nat) (e:E) | aug (op:Operator) (i:Nat) (e:E) | rse (c:Str) (m:E) 
structure Gm where
 fns:List (Str×(List D->Option R))
 cs:List (Str×D)
 xf:List (Str×(List D->Option Str))
 sub:List (Str×Str×Bool)
 rs:List Str
 lm:List (LamI×(List D->Option R))
 ob:List (Str×Str×Option Bool)
open Classical in
def mulD (i j:Int):Option R:=if IntMulOk i j then some (.int (i*j),.cl) else none
open Classical in
def zQI (i j:Int):Option R:=if zJJ i j then some (.int (i.fdiv j),.cl) else none
noncomputable def binD (op:Operator)(x y:D):Option R:=match op with
 | .Add=>(match x,y with
  | .int i,.int j=>some (.int (i+j),.cl)
  | .lst xs,.lst ys=>if xs.length+ys.length<=10000 then some (.lst (xs++ys),.fr) else none
  | .tup (x::xs),.tup (y::ys)=>if (x::xs).length+(y::ys).length<=10000 then some (.tup ((x::xs)++(y::ys)),.cl) else none
  | _,_=>none)
 | .Sub=>(match x,y with
  | .int i,.int j=>some (.int (i - j),.cl)
  | _,_=>none)
 | .Mult=>(match x,y with
  | .int i,.int j=>mulD i j
  | .lst xs,.int j=>if 0<=j/\j<=10000/\xs.length*j.toNat<=10000 then some (.lst (List.replicate j.toNat xs).flatten,.fr) else none
  | _,_=>none)
 | .FloorDiv=>(match x,y with
  | .int i,.int j=>zQI i j
  | _,_=>none)
 | .Mod=>(match x,y with
  | .int i,.int j=>if j=0 then none else some (.int (i.fmod j),.cl)
  | _,_=>none)
 | .Pow=>(match x,y with
  | .int i,.int j=>if 0<=j/\j<=1000000/\i.natAbs < 2^64 then some (.int (i^j.toNat),.cl) else none
  | _,_=>none)
 | _=>none
def cmpD (op:CmpOp)(x y:D):Option R:=match op with
 | .Lt=>(match x,y with
  | .int i,.int j=>some (.bl (decide (i < j)),.cl)
  | _,_=>none)
 | .LtE=>(match x,y with
  | .int i,.int j=>some (.bl (decide (i<=j)),.cl)
  | _,_=>none)
 | .Gt=>(match x,y with
  | .int i,.int j=>some (.bl (decide (j < i)),.cl)
  | _,_=>none)
 | .GtE=>(match x,y with
  | .int i,.int j=>some (.bl (decide (j<=i)),.cl)
  | _,_=>none)
 | .Eq=>eqD id x y
 | .NotEq=>eqD (λb=>!b) x y
 | .Is=>isN id x y
 | .IsNot=>isN (λb=>!b) x y
 | _=>none
noncomputable def zGb (J:Gm)(n:Nat)(x:Str):Dst->Option R:=λ_=>match J.cs[n]? with
 | some (y,d)=>if y=x then some (d,.cl) else none
 | none=>none
noncomputable def fnD (J:Gm)(n:Nat)(x:Str)(g:Dst->Option (List D)):Dst->Option R:=λG=>match J.fns[n]? with
 | some (y,F)=>if y=x then zJD F g G else none
 | none=>none
noncomputable def tg1 (i:Nat):D->Dst->Option Dst:=λd G=>some (G.set i (some (d,false)))
mutual
def evE (J:Gm):E->Dst->Option R
 | .var i=>varD i
 | .glob n x=>zGb J n x
 | .int i=>λ_=>some (.int i,.cl)
 | .bl b=>λ_=>some (.bl b,.cl)
 | .non=>λ_=>some (.non,.cl)
 | .str x=>λ_=>some (.str x,.cl)
 | .bin op a b=>two (evE J a) (evE J b) (binD op)
 | .neg a=>negD (evE J a)
 | .not a=>notD (evE J a)
 | .cmp op a b=>two (evE J a) (evE J b) (cmpD op)
 | .andl es=>evAnd J es
 | .orl es=>evOr J es
 | .ite c a b=>iteD (evE J c) (evE J a) (evE J b)
 | .tup es=>tupD (evEs J es)
 | .lst es=>lstD (evEs J es)
 | .ix a i=>two (evE J a) (evE J i) ixD
 | .sl a lo hi=>slD (evE J a) (evO J lo) (evO J hi)
 | .call n f es=>fnD J n f (evEs J es)
 | .len a=>one (evE J a) lenD
 | .abs a=>one (evE J a) absD
 | .list a=>one (evE J a) zI1
 | .max a b=>two (evE J a) (evE J b) maxD
 | .isi t a=>one (evE J a) (isiF t)
 | .chn op op' a b c=>chD (cmpD op) (cmpD op') (evE J a) (evE J b) (evE J c)
 | .tupl a=>one (evE J a) zGD
 | .lrev a=>one (evE J a) revD
 | .callv i a=>zEi J.lm J.fns i (evE J a)
 | .callw i es=>zGn J.fns i (evEs J es)
 | .fld a f=>one (evE J a) (fldD J.ob f)
 | .iso y a=>one (evE J a) (isoF (oiOf J.ob y))
 | .comp1 n ms _ src c e=>zJC ms 1 (evI J src) (tg1 n) (evC J c) (evE J e)
 | .lzip a b=>two (evE J a) (evE J b) zipD
 | .it _=>λ_=>none
 | .r1 _=>λ_=>none
 | .r2 _ _=>λ_=>none
 | .r3 _ _ _=>λ_=>none
 | .nil=>λ_=>none
 | .cons _ _=>λ_=>none
def evI (J:Gm):E->Dst->Option (List D)
 | .it e=>zGX (evE J e)
 | .r1 a=>zJp (evE J a)
 | .r2 a b=>zMG (evE J a) (evE J b)
 | .r3 a b c=>zJo (evE J a) (evE J b) (evE J c)
 | _=>λ_=>none
def evC (J:Gm):E->Dst->Option Bool
 | .nil=>λ_=>some true
 | .cons c _=>asB (evE J c)
 | _=>λ_=>none
def evEs (J:Gm):E->Dst->Option (List D)
 | .nil=>λ_=>some []
 | .cons e es=>zNW (evE J e) (evEs J es)
 | _=>λ_=>none
def evLs (J:Gm):E->Dst->Option (List D)
 | .nil=>λ_=>some []
 | .cons e es=>zTe (evE J e) (evLs J es)
 | _=>λ_=>none
def evAnd (J:Gm):E->Dst->Option R
 | .cons e es=>(match es with
  | .nil=>evE J e
  | es=>andD (evE J e) (evAnd J es))
 | _=>λ_=>none
def evOr (J:Gm):E->Dst->Option R
 | .cons e es=>(match es with
  | .nil=>evE J e
  | es=>orD (evE J e) (evOr J es))
 | _=>λ_=>none
def evO (J:Gm):E->Dst->Option (Option Int)
 | .cons e _=>zJ9 (evE J e)
 | _=>λ_=>some none
end
noncomputable def xvS (J:Gm):S->Dst->Option Str:=λ_ _=>none
noncomputable def xvSs (J:Gm):S->Dst->Option Str:=λ_ _=>none
mutual
noncomputable def evS (J:Gm):S->Dst->Option Out
 | .set i e=>setD i (evE J e)
 | .setC i e=>setD i (evE J e)
 | .app i e=>appD i (evE J e)
 | .ext i e=>extD i (evE J e)
 | .aug op i e=>augD op i (evE J e)
 | .ife c a b=>ifD (asB (evE J c)) (evSs J a) (evSs J b)
 | .whl c b=>zBV (asB (evE J c)) (evSs J b)
 | .for1 i it b=>λG=>(evI J it G).bind λxs=>forD (tg1 i) (evSs J b) xs G
 | .ret e=>retD (evE J e)
 | .retOwn i=>zEB i
 | .nil=>λ_=>none
 | .cons _ _=>λ_=>none
 | .frz _ _=>λ_=>none
 | .never=>λ_=>none
 | .rse _ _=>λ_=>none
noncomputable def evSs (J:Gm):S->Dst->Option Out
 | .nil=>λG=>some (.nx G)
 | .cons a b=>seqD (evS J a) (evSs J b)
 | .frz i r=>seqD (frzD i) (evSs J r)
 | _=>λ_=>none
end
noncomputable def visB (sc:Scope)(x:Str):Bool:=match sc.names.lookup x with
 | some .local=>true
 | some .cell=>true
 | some .free=>true
 | _=>false
noncomputable def locB (sc:Scope)(x:Str):Bool:=match sc.names.lookup x with
 | some .local=>true
 | some .cell=>true
 | _=>false
noncomputable def glB (sc:Scope)(x:Str):Bool:=match sc.names.lookup x with
 | some .globalImplicit=>true
 | _=>false
noncomputable def okN (x:Str):Bool:=!(x==("__debug__":Str))&&!(x==("__classdict__":Str))
noncomputable def zAa:Expr->Bool
 | .Starred _ _=>false
 | _=>true
noncomputable def zHN:Expr->Bool
 | .Slice _ _ _ _=>false
 | _=>true
noncomputable def zH5:Expr->Bool
 | .ListComp _ _ _ _=>false
 | .SetComp _ _ _ _=>false
 | .DictComp _ _ _ _ _=>false
 | _=>true
noncomputable def zKO:Expr->Bool
 | .Set _ _ _=>false
 | _=>true
noncomputable def bltB (sc:Scope)(bs:List Str)(x:Str):Bool:=glB sc x&&bs.contains x
noncomputable def opB (op op':Operator):Bool:=decide (op=op')
noncomputable def cmB (op op':CmpOp):Bool:=decide (op=op')
noncomputable def cscB (sc scope:Scope):Bool:=(scope.kind==.function)&&decide ((scope.names.map (·.1)).Nodup)&&scope.names.all λx=>!(x.2==.free)||sc.names.lookup x.1==some .cell||sc.names.lookup x.1==some .free
noncomputable def zMZ (scope:Scope)(N:List Str)(ms:List Nat):Bool:=(List.range N.length).all λi=>!(ownB scope (N.getD i (noN N)))||ms.contains i
noncomputable def zRw:Expr->Bool
 | .Name _ _=>true
 | _=>false
noncomputable def zAp (e:Expr)(k:Str->Pos->Bool):Bool:=match e with
 | .Name x0 x1=>k x0 x1
 | _=>false
def zAI (h:zAp e k=true):∃ x0 x1,e=.Name x0 x1/\k x0 x1=true:=by
 cases e<;>first | exact⟨_,_,rfl,h⟩ | exact nof h
noncomputable def zB0 (e:Expr)(k:Const->Nat->Pos->Bool):Bool:=match e with
 | .Constant x0 x1 x2=>k x0 x1 x2
 | _=>false
def zBX (h:zB0 e k=true):∃ x0 x1 x2,e=.Constant x0 x1 x2/\k x0 x1 x2=true:=by
 cases e<;>first | exact⟨_,_,_,rfl,h⟩ | exact nof h
noncomputable def zFk (e:Expr)(k:Expr->Operator->Expr->Pos->Bool):Bool:=match e with
 | .BinOp x0 x1 x2 x3=>k x0 x1 x2 x3
 | _=>false
def zDU (h:zFk e k=true):∃ x0 x1 x2 x3,e=.BinOp x0 x1 x2 x3/\k x0 x1 x2 x3=true:=by
 cases e<;>first | exact⟨_,_,_,_,rfl,h⟩ | exact nof h
noncomputable def zDE (e:Expr)(k:UnaryOp->Expr->Pos->Bool):Bool:=match e with
 | .UnaryOp x0 x1 x2=>k x0 x1 x2
 | _=>false
def zCU (h:zDE e k=true):∃ x0 x1 x2,e=.UnaryOp x0 x1 x2/\k x0 x1 x2=true:=by
 cases e<;>first | exact⟨_,_,_,rfl,h⟩ | exact nof h
noncomputable def zD2 (e:Expr)(k:BoolOp->List Expr->Pos->Bool):Bool:=match e with
 | .BoolOp x0 x1 x2=>k x0 x1 x2
 | _=>false
def zC2 (h:zD2 e k=true):∃ x0 x1 x2,e=.BoolOp x0 x1 x2/\k x0 x1 x2=true:=by
 cases e<;>first | exact⟨_,_,_,rfl,h⟩ | exact nof h
noncomputable def zDG (e:Expr)(k:Expr->List CmpOp->List Expr->Pos->Bool):Bool:=match e with
 | .Compare x0 x1 x2 x3=>k x0 x1 x2 x3
 | _=>false
def zCW (h:zDG e k=true):∃ x0 x1 x2 x3,e=.Compare x0 x1 x2 x3/\k x0 x1 x2 x3=true:=by
 cases e<;>first | exact⟨_,_,_,_,rfl,h⟩ | exact nof h
noncomputable def zKH (e:Expr)(k:Expr->Expr->Expr->Pos->Bool):Bool:=match e with
 | .IfExp x0 x1 x2 x3=>k x0 x1 x2 x3
 | _=>false
def zIs (h:zKH e k=true):∃ x0 x1 x2 x3,e=.IfExp x0 x1 x2 x3/\k x0 x1 x2 x3=true:=by
 cases e<;>first | exact⟨_,_,_,_,rfl,h⟩ | exact nof h
noncomputable def zKE (e:Expr)(k:List Expr->Nat->Pos->Bool):Bool:=match e with
 | .Tuple x0 x1 x2=>k x0 x1 x2
 | _=>false
def zIr (h:zKE e k=true):∃ x0 x1 x2,e=.Tuple x0 x1 x2/\k x0 x1 x2=true:=by
 cases e<;>first | exact⟨_,_,_,rfl,h⟩ | exact nof h
noncomputable def zKF (e:Expr)(k:List Expr->Pos->Bool):Bool:=match e with
 | .List x0 x1=>k x0 x1
 | _=>false
def zGP (h:zKF e k=true):∃ x0 x1,e=.List x0 x1/\k x0 x1=true:=by
 cases e<;>first | exact⟨_,_,rfl,h⟩ | exact nof h
noncomputable def zBe (e:Expr)(k:Expr->Expr->Pos->Bool):Bool:=match e with
 | .Subscript x0 x1 x2=>k x0 x1 x2
 | _=>false
def zBL (h:zBe e k=true):∃ x0 x1 x2,e=.Subscript x0 x1 x2/\k x0 x1 x2=true:=by
 cases e<;>first | exact⟨_,_,_,rfl,h⟩ | exact nof h
noncomputable def zHM (e:Expr)(k:Option Expr->Option Expr->Option Expr->Pos->Bool):Bool:=match e with
 | .Slice x0 x1 x2 x3=>k x0 x1 x2 x3
 | _=>false
def zEz (h:zHM e k=true):∃ x0 x1 x2 x3,e=.Slice x0 x1 x2 x3/\k x0 x1 x2 x3=true:=by
 cases e<;>first | exact⟨_,_,_,_,rfl,h⟩ | exact nof h
noncomputable def zBn (e:Expr)(k:Expr->List Expr->List Keyword->Pos->Bool):Bool:=match e with
 | .Call x0 x1 x2 x3=>k x0 x1 x2 x3
 | _=>false
def zAu (h:zBn e k=true):∃ x0 x1 x2 x3,e=.Call x0 x1 x2 x3/\k x0 x1 x2 x3=true:=by
 cases e<;>first | exact⟨_,_,_,_,rfl,h⟩ | exact nof h
noncomputable def zDT (e:Expr)(k:Expr->List Comprehension->Scope->Pos->Bool):Bool:=match e with
 | .ListComp x0 x1 x2 x3=>k x0 x1 x2 x3
 | _=>false
def zB7 (h:zDT e k=true):∃ x0 x1 x2 x3,e=.ListComp x0 x1 x2 x3/\k x0 x1 x2 x3=true:=by
 cases e<;>first | exact⟨_,_,_,_,rfl,h⟩ | exact nof h
noncomputable def zAs (e:Expr)(k:Expr->Str->Pos->Bool):Bool:=match e with
 | .Attribute x0 x1 x2=>k x0 x1 x2
 | _=>false
def zAe (h:zAs e k=true):∃ x0 x1 x2,e=.Attribute x0 x1 x2/\k x0 x1 x2=true:=by
 cases e<;>first | exact⟨_,_,_,rfl,h⟩ | exact nof h
noncomputable def zB8 (e:Stmt)(k:List Expr->Expr->Pos->Bool):Bool:=match e with
 | .Assign x0 x1 x2=>k x0 x1 x2
 | _=>false
def zBK (h:zB8 e k=true):∃ x0 x1 x2,e=.Assign x0 x1 x2/\k x0 x1 x2=true:=by
 cases e<;>first | exact⟨_,_,_,rfl,h⟩ | exact nof h
noncomputable def zEG (e:Stmt)(k:Expr->Operator->Expr->Pos->Bool):Bool:=match e with
 | .AugAssign x0 x1 x2 x3=>k x0 x1 x2 x3
 | _=>false
def zEq (h:zEG e k=true):∃ x0 x1 x2 x3,e=.AugAssign x0 x1 x2 x3/\k x0 x1 x2 x3=true:=by
 cases e<;>first | exact⟨_,_,_,_,rfl,h⟩ | exact nof h
noncomputable def zED (e:Stmt)(k:Expr->Pos->Bool):Bool:=match e with
 | .Expr x0 x1=>k x0 x1
 | _=>false
def zCm (h:zED e k=true):∃ x0 x1,e=.Expr x0 x1/\k x0 x1=true:=by
 cases e<;>first | exact⟨_,_,rfl,h⟩ | exact nof h
noncomputable def onIf (e:Stmt)(k:Expr->List Stmt->List Stmt->Pos->Bool):Bool:=match e with
 | .If x0 x1 x2 x3=>k x0 x1 x2 x3
 | _=>false
def zKG (h:onIf e k=true):∃ x0 x1 x2 x3,e=.If x0 x1 x2 x3/\k x0 x1 x2 x3=true:=by
 cases e<;>first | exact⟨_,_,_,_,rfl,h⟩ | exact nof h
noncomputable def zKD (e:Stmt)(k:Expr->List Stmt->List Stmt->Pos->Bool):Bool:=match e with
 | .While x0 x1 x2 x3=>k x0 x1 x2 x3
 | _=>false
def zIq (h:zKD e k=true):∃ x0 x1 x2 x3,e=.While x0 x1 x2 x3/\k x0 x1 x2 x3=true:=by
 cases e<;>first | exact⟨_,_,_,_,rfl,h⟩ | exact nof h
noncomputable def zPJ (e:Stmt)(k:Expr->Expr->List Stmt->List Stmt->Pos->Bool):Bool:=match e with
 | .For x0 x1 x2 x3 x4=>k x0 x1 x2 x3 x4
 | _=>false
def zH2 (h:zPJ e k=true):∃ x0 x1 x2 x3 x4,e=.For x0 x1 x2 x3 x4/\k x0 x1 x2 x3 x4=true:=by
 cases e<;>first | exact⟨_,_,_,_,_,rfl,h⟩ | exact nof h
noncomputable def zD1 (e:Stmt)(k:Option Expr->Pos->Bool):Bool:=match e with
 | .Return x0 x1=>k x0 x1
 | _=>false
def zC0 (h:zD1 e k=true):∃ x0 x1,e=.Return x0 x1/\k x0 x1=true:=by
 cases e<;>first | exact⟨_,_,rfl,h⟩ | exact nof h
noncomputable def onRaise (e:Stmt)(k:Option Expr->Option Expr->Pos->Bool):Bool:=match e with
 | .Raise x0 x1 x2=>k x0 x1 x2
 | _=>false
noncomputable def zOC (e:Const)(k:Int->Bool):Bool:=match e with
 | .int x=>k x
 | _=>false
def zKJ (h:zOC e k=true):∃ x,e=.int x/\k x=true:=by
 cases e<;>first | exact⟨_,rfl,h⟩ | exact nof h
noncomputable def zKK (e:Const)(k:Bool->Bool):Bool:=match e with
 | .bool x=>k x
 | _=>false
def zIt (h:zKK e k=true):∃ x,e=.bool x/\k x=true:=by
 cases e<;>first | exact⟨_,rfl,h⟩ | exact nof h
noncomputable def zOB (e:Const)(k:Str->Bool):Bool:=match e with
 | .str x=>k x
 | _=>false
def zKI (h:zOB e k=true):∃ x,e=.str x/\k x=true:=by
 cases e<;>first | exact⟨_,rfl,h⟩ | exact nof h
noncomputable def onEq {O:Type}[DecidableEq O](a b:O)(k:Bool):Bool:=decide (a=b)&&k
def zC1 {O:Type}[DecidableEq O]{a b:O}{k:Bool}(h:onEq a b k=true):a=b/\k=true:=by
 unfold onEq at h;grind
noncomputable def on0 {O:Type}(l:List O)(k:Bool):Bool:=match l with
 | []=>k
 | _=>false
def zBI {O:Type}{l:List O}{k:Bool}(h:on0 l k=true):l=[]/\k=true:=by
 cases l with
 | nil=>exact⟨rfl,h⟩
 | cons _ _=>exact nof h
noncomputable def on1 {O:Type}(l:List O)(k:O->Bool):Bool:=match l with
 | [x0]=>k x0
 | _=>false
def zAm {O:Type}{l:List O}{k:O->Bool}(h:on1 l k=true):∃ x0,l=[x0]/\k x0=true:=by
 cases l with
 | nil=>exact nof h
 | cons x0 l =>
  cases l with
  | nil=>exact⟨x0,rfl,h⟩
  | cons _ _=>exact nof h
noncomputable def on2 {O:Type}(l:List O)(k:O->O->Bool):Bool:=match l with
 | [x0,x1]=>k x0 x1
 | _=>false
def zEH {O:Type}{l:List O}{k:O->O->Bool}(h:on2 l k=true):∃ x0 x1,l=[x0,x1]/\k x0 x1=true:=by
 cases l with
 | nil=>exact nof h
 | cons x0 l =>
  cases l with
  | nil=>exact nof h
  | cons x1 l =>
   cases l with
   | nil=>exact⟨x0,x1,rfl,h⟩
   | cons _ _=>exact nof h
noncomputable def on3 {O:Type}(l:List O)(k:O->O->O->Bool):Bool:=match l with
 | [x0,x1,x2]=>k x0 x1 x2
 | _=>false
def zRt {O:Type}{l:List O}{k:O->O->O->Bool}(h:on3 l k=true):∃ x0 x1 x2,l=[x0,x1,x2]/\k x0 x1 x2=true:=by
 cases l with
 | nil=>exact nof h
 | cons x0 l =>
  cases l with
  | nil=>exact nof h
  | cons x1 l =>
   cases l with
   | nil=>exact nof h
   | cons x2 l =>
    cases l with
    | nil=>exact⟨x0,x1,x2,rfl,h⟩
    | cons _ _=>exact nof h
noncomputable def zH3 {O:Type}(l:List O)(k:O->List O->Bool):Bool:=match l with
 | x::xs=>k x xs
 | _=>false
def zEF {O:Type}{l:List O}{k:O->List O->Bool}(h:zH3 l k=true):∃ x xs,l=x::xs/\k x xs=true:=by
 cases l with
 | nil=>exact nof h
 | cons x xs=>exact⟨x,xs,rfl,h⟩
noncomputable def zEE {O:Type}(o:Option O)(k:O->Bool):Bool:=match o with
 | some x=>k x
 | none=>false
def zCV {O:Type}{o:Option O}{k:O->Bool}(h:zEE o k=true):∃ x,o=some x/\k x=true:=by
 cases o with
 | none=>exact nof h
 | some x=>exact⟨x,rfl,h⟩
noncomputable def zE0 {O:Type}(o:Option O)(k:Bool):Bool:=match o with
 | some _=>false
 | none=>k
def zDF {O:Type}{o:Option O}{k:Bool}(h:zE0 o k=true):o=none/\k=true:=by
 cases o with
 | none=>exact⟨rfl,h⟩
 | some x=>exact nof h
noncomputable def zPI (g:Comprehension)(k:Expr->Expr->List Expr->Int->Bool):Bool:=k g.target g.iter g.ifs g.is_async
def zFj (h:zPI g k=true):∃ a b c d,g=⟨a,b,c,d⟩/\k a b c d=true:=by
 cases g;exact⟨_,_,_,_,rfl,h⟩
noncomputable def onC (e:Expr)(k:Str->List Expr->Bool):Bool:=zBn e λz1 z2 z3 _=>zAp z1 λy _=>on0 z3<|k y z2
def zBW (h:onC e k=true):∃ y p l pos,e=.Call (.Name y p) l [] pos/\k y l=true:=by
 obtain⟨a,l,b,pos,rfl,h1⟩:=zAu h;obtain⟨y,p,rfl,h2⟩:=zAI h1;obtain⟨rfl,h3⟩:=zBI h2;exact⟨y,p,l,pos,rfl,h3⟩
mutual
noncomputable def cE:E->Scope->List Str->List Str->Expr->Bool
 | .var i,sc,N,bs=>λe=>zAp e λy _=>decide (N[i]?=some y)&&visB sc y&&okN y
 | .glob _ x,sc,N,bs=>λe=>zAp e λy _=>decide (x=y)&&glB sc x&&okN x
 | .int i,sc,N,bs=>λe=>zB0 e λz1 _ _=>zOC z1 λj=>decide (i=j)
 | .bl b,sc,N,bs=>λe=>zB0 e λz1 _ _=>zKK z1 λc=>decide (b=c)
 | .non,sc,N,bs=>λe=>zB0 e λz1 _ _=>onEq z1 .none<|(true)
 | .str x,sc,N,bs=>λe=>zB0 e λz1 _ _=>zOB z1 λy=>decide (x=y)
 | .bin op a b,sc,N,bs=>λe=>zFk e λl op' r _=>opB op op'&&cE a sc N bs l&&cE b sc N bs r
 | .neg a,sc,N,bs=>λe=>zDE e λz1 l _=>onEq z1 .USub<|(cE a sc N bs l)
 | .not a,sc,N,bs=>λe=>zDE e λz1 l _=>onEq z1 .Not<|(cE a sc N bs l)
 | .cmp op a b,sc,N,bs=>λe=>zDG e λl z1 z2 _=>on1 z1 λop'=>on1 z2 λr=>cmB op op'&&cE a sc N bs l&&cE b sc N bs r
 | .andl es,sc,N,bs=>λe=>zD2 e λz1 l _=>onEq z1 .And<|(cEs es sc N bs l)
 | .orl es,sc,N,bs=>λe=>zD2 e λz1 l _=>onEq z1 .Or<|(cEs es sc N bs l)
 | .ite c a b,sc,N,bs=>λe=>zKH e λt l r _=>cE c sc N bs t&&cE a sc N bs l&&cE b sc N bs r
 | .tup es,sc,N,bs=>λe=>zKE e λl _ _=>cEs es sc N bs l
 | .lst es,sc,N,bs=>λe=>zKF e λl _=>cEs es sc N bs l
 | .ix a i,sc,N,bs=>λe=>zBe e λl r _=>zHN r&&cE a sc N bs l&&cE i sc N bs r
 | .sl a lo hi,sc,N,bs=>λe=>zBe e λl z1 _=>zHM z1 λx y z2 _=>zE0 z2<|(cE a sc N bs l&&cO lo sc N bs x&&cO hi sc N bs y)
 | .call _ f es,sc,N,bs=>λe=>onC e λy l=>(decide (f=y)&&glB sc f&&okN f&&cEs es sc N bs l)
 | .len a,sc,N,bs=>λe=>onC e λy z2=>on1 z2 λl=>(decide (y = "len")&&bltB sc bs "len"&&zAa l&&cE a sc N bs l)
 | .callw i es,sc,N,bs=>λe=>onC e λy z2=>zH3 z2 λx xs=>(decide (N[i]?=some y)&&visB sc y&&okN y&&cEs es sc N bs (x::xs))
 | .callv i a,sc,N,bs=>λe=>onC e λy z2=>on1 z2 λx=>(decide (N[i]?=some y)&&visB sc y&&okN y&&zAa x&&cE a sc N bs x)
 | .fld a f,sc,N,bs=>λe=>zAs e λl m _=>decide (m=f)&&zRw l&&cE a sc N bs l
 | .iso y0 a,sc,N,bs=>λe=>zBn e λz1 z2 z3 _=>zAp z1 λy _=>on2 z2 λl z4=>zAp z4 λz _=>on0 z3<|(decide (y = "isinstance")&&decide (z=y0)&&bltB sc bs "isinstance"&&glB sc y0&&okN y0&&zAa l&&cE a sc N bs l)
 | .abs a,sc,N,bs=>λe=>onC e λy z2=>on1 z2 λl=>(decide (y = "abs")&&bltB sc bs "abs"&&zAa l&&cE a sc N bs l)
 | .list a,sc,N,bs=>λe=>onC e λy z2=>on1 z2 λl=>(decide (y = "list")&&bltB sc bs "list"&&zAa l&&cE a sc N bs l)
 | .max a b,sc,N,bs=>λe=>onC e λy z2=>on2 z2 λl r=>(decide (y = "max")&&bltB sc bs "max"&&zAa l&&zAa r&&cE a sc N bs l&&cE b sc N bs r)
 | .isi t a,sc,N,bs=>λe=>zBn e λz1 z2 z3 _=>zAp z1 λy _=>on2 z2 λl z4=>zAp z4 λz _=>on0 z3<|(decide (y = "isinstance")&&decide (z=Str.ofString t.nm)&&bltB sc bs "isinstance"&&bltB sc bs (Str.ofString t.nm)&&zAa l&&cE a sc N bs l)
 | .chn op op' a b c,sc,N,bs=>λe=>zDG e λl z1 z2 _=>on2 z1 λo1 o2=>on2 z2 λm r=>cmB op o1&&cmB op' o2&&chB op&&chB op'&&cE a sc N bs l&&cE b sc N bs m&&cE c sc N bs r
 | .lrev a,sc,N,bs=>λe=>zBn e λz1 z2 z3 _=>zAp z1 λy _=>on1 z2 λz4=>zBn z4 λz5 z6 z7 _=>zAp z5 λz _=>on1 z6 λl=>on0 z7<|on0 z3<|(decide (y = "list")&&decide (z = "reversed")&&bltB sc bs "list"&&bltB sc bs "reversed"&&zAa l&&cE a sc N bs l)
 | .tupl a,sc,N,bs=>λe=>onC e λy z2=>on1 z2 λl=>(decide (y = "tuple")&&bltB sc bs "tuple"&&zAa l&&cE a sc N bs l)
 | .comp1 n ms x src c el,sc,N,bs=>λe=>zDT e λv z1 scope _=>on1 z1 λz2=>zPI z2 λz3 t ifs a=>zAp z3 λy _=>decide (x=y)&&decide (a=0)&&decide (n=N.length)&&cscB sc scope&&zMZ scope N ms&&decide ((mask (noN N) ms N++[x]).Nodup)&&locB (relS sc scope) x&&ownB scope x&&cI src sc N bs t&&cC c (relS sc scope) (mask (noN N) ms N++[x]) bs ifs&&cE el (relS sc scope) (mask (noN N) ms N++[x]) bs v
 | .lzip a b,sc,N,bs=>λe=>zBn e λz1 z2 z3 _=>zAp z1 λy _=>on1 z2 λz4=>zBn z4 λz5 z6 z7 _=>zAp z5 λz _=>on2 z6 λl r=>on0 z7<|on0 z3<|(decide (y = "list")&&decide (z = "zip")&&bltB sc bs "list"&&bltB sc bs "zip"&&zAa l&&zAa r&&cE a sc N bs l&&cE b sc N bs r)
 | .it _,sc,N,bs=>λ_=>false
 | .r1 _,sc,N,bs=>λ_=>false
 | .r2 _ _,sc,N,bs=>λ_=>false
 | .r3 _ _ _,sc,N,bs=>λ_=>false
 | .nil,sc,N,bs=>λ_=>false
 | .cons _ _,sc,N,bs=>λ_=>false
noncomputable def cI:E->Scope->List Str->List Str->Expr->Bool
 | .it e,sc,N,bs=>λx=>zKO x&&cE e sc N bs x
 | .r1 a,sc,N,bs=>λx=>onC x λy z2=>on1 z2 λl=>(decide (y = "range")&&bltB sc bs "range"&&zAa l&&cE a sc N bs l)
 | .r2 a b,sc,N,bs=>λx=>onC x λy z2=>on2 z2 λl r=>(decide (y = "range")&&bltB sc bs "range"&&zAa l&&zAa r&&cE a sc N bs l&&cE b sc N bs r)
 | .r3 a b c,sc,N,bs=>λx=>onC x λy z2=>on3 z2 λl r q=>(decide (y = "range")&&bltB sc bs "range"&&zAa l&&zAa r&&zAa q&&cE a sc N bs l&&cE b sc N bs r&&cE c sc N bs q)
 | _,_,_,_=>λ_=>false
noncomputable def cC:E->Scope->List Str->List Str->List Expr->Bool
 | .nil,sc,N,bs=>λl=>l.isEmpty
 | .cons c _,sc,N,bs=>λl=>match l with
  | [x]=>cE c sc N bs x
  | _=>false
 | _,_,_,_=>λ_=>false
noncomputable def cEs:E->Scope->List Str->List Str->List Expr->Bool
 | .nil,sc,N,bs=>λl=>l.isEmpty
 | .cons e es,sc,N,bs=>λl=>match l with
  | x::xs=>zAa x&&cE e sc N bs x&&cEs es sc N bs xs
  | []=>false
 | _,_,_,_=>λ_=>false
noncomputable def cO:E->Scope->List Str->List Str->Option Expr->Bool
 | .cons e _,sc,N,bs=>λo=>match o with
  | some x=>cE e sc N bs x
  | none=>false
 | .nil,sc,N,bs=>λo=>o.isNone
 | _,_,_,_=>λ_=>false
end
noncomputable def zPg:E->Bool
 | .comp1 _ _ _ _ _ _=>true
 | _=>false
noncomputable def varB (sc:Scope)(N:List Str)(i:Nat)(x:Str):Bool:=decide (N[i]?=some x)&&locB sc x&&okN x
mutual
noncomputable def cS (sc:Scope)(N bs:List Str):S->Stmt->Bool
 | .set i e=>λs=>zB8 s λz1 v _=>on1 z1 λz2=>zAp z2 λy _=>varB sc N i y&&zH5 v&&cE e sc N bs v
 | .setC i e=>λs=>zB8 s λz1 v _=>on1 z1 λz2=>zAp z2 λy _=>zPg e&&varB sc N i y&&cE e sc N bs v
 | .app i e=>λs=>zED s λz1 _=>zBn z1 λz2 z3 z4 cpos=>zAs z2 λz5 m apos=>zAp z5 λy _=>on1 z3 λv=>on0 z4<|(decide (m = "append")&&varB sc N i y&&(apos.endLine==cpos.line)&&zAa v&&cE e sc N bs v)
 | .aug op i e=>λs=>zEG s λz1 op' v _=>zAp z1 λy _=>opB op op'&&varB sc N i y&&zH5 v&&cE e sc N bs v
 | .ext i e=>λs=>zED s λz1 _=>zBn z1 λz2 z3 z4 cpos=>zAs z2 λz5 m apos=>zAp z5 λy _=>on1 z3 λv=>on0 z4<|(decide (m = "extend")&&varB sc N i y&&(apos.endLine==cpos.line)&&zAa v&&cE e sc N bs v)
 | .ife c a b=>λs=>onIf s λt l r _=>cE c sc N bs t&&cSs sc N bs a l&&cSs sc N bs b r
 | .whl c b=>λs=>zKD s λt l z1 _=>on0 z1<|(cE c sc N bs t&&cSs sc N bs b l)
 | .for1 i it b=>λs=>zPJ s λz1 t l z2 _=>zAp z1 λy _=>on0 z2<|(varB sc N i y&&cI it sc N bs t&&cSs sc N bs b l)
 | .ret e=>λs=>zD1 s λz1 _=>zEE z1 λv=>cE e sc N bs v
 | .retOwn i=>λs=>zD1 s λz1 _=>zEE z1 λz2=>zAp z2 λy _=>varB sc N i y
 | .never=>λ_=>true
 | .rse c m=>λs=>onRaise s λz1 z2 _=>zEE z1 λz3=>zBn z3 λz4 z5 z6 _=>zAp z4 λy _=>on1 z5 λl=>on0 z6<|zE0 z2<|(decide (c=y)&&glB sc c&&okN c&&zAa l&&cE m sc N bs l)
 | .nil=>λ_=>false
 | .cons _ _=>λ_=>false
 | .frz _ _=>λ_=>false
noncomputable def cSs (sc:Scope)(N bs:List Str):S->List Stmt->Bool
 | .nil=>λl=>l.isEmpty
 | .cons a b=>λl=>match l with
  | s::r=>cS sc N bs a s&&cSs sc N bs b r
  | []=>false
 | .frz _ r=>λl=>cSs sc N bs r l
 | _=>λ_=>false
end
end DL
end
section
namespace DL
open PySem Spec PyProof.Rows L2
structure GOk (P:Program)(w:World)(K:W.Frag)(mg:Str->Option Value)(base:Heap)(k:Nat)(J:Gm)(bs:List Str):Prop where
 fn:∀ x F,(x,F)∈J.fns->∃ f fd ps,FnOk P w K mg base CX0 k f fd ps (spD K F)/\mg x=some (.ref f)/\W.keepIn K (.ref f)=true/\zBH K fd ps []
 cs:∀ x d,(x,d)∈J.cs->∃ u v,mg x=some u/\RelV v u/\Den K (λ_=>none) d v
 bt:∀ x∈bs,mg x=none
 xf:True
 sb:True
 rs:True
 lm:∀ (j:Nat) L F,J.lm[j]?=some (L,F)->zFQ P w K mg base k L F
 ob:∀ p∈J.ob,ObOk K mg p
structure XOk (X:Cx)(k:Nat)(J:Gm)(bs:List Str):Prop where
 g:GOk X.prog X.w X.K X.mg X.base k J bs
 room:Room k X.A
 calm:X.calm=true
 nd:X.N.Nodup
 own:PassesOwn (model X.prog X.w) X.A X.env X.xe
def XOk.comp (o:XOk X k J bs)(a:N.Nodup):XOk (zAY X N scope s H fp) k J bs:=⟨o.g,o.room,o.calm,a,PassesOwn.never⟩
def zAC (h:zAa e=true):starEach (e::es) env=(false,eval e env)::starEach es env:=by
 cases e<;>first | rfl | cases h
def zE1 (h:zHN e=true):zF8 e:=by
 cases e<;>first | intro o i;rfl | cases h
def zEI (h:zH5 e=true):swapsWith e t n env=pure false:=by
 cases e<;>first | rfl | cases h
def zE2 (h:zKO e=true):∀ x,foldedSetIterable e env x=pure x:=by
 intro x;cases e<;>first | rfl | cases h
def zD8 (h:visB sc x=true):Vis sc x:=by
 unfold visB at h;split at h
 .rename_i e;exact .inl e
 .rename_i e;exact .inr (.inl e)
 .rename_i e;exact .inr (.inr e)
 .cases h
def zEM (h:locB sc x=true):Loc sc x:=by
 unfold locB at h;split at h
 .rename_i e;exact .inl e
 .rename_i e;exact .inr e
 .cases h
def zEV (h:glB X.env.scope x=true):Gl X x:=by
 unfold glB at h;split at h
 .assumption
 .grind
def zB1 (h:okN x=true):(x==("__debug__":Str))=false/\(x==("__classdict__":Str))=false:=by
 unfold okN at h
 simp_all
def zAy (o:XOk X k J bs)(h:bltB X.env.scope bs x=true):Gl X x/\X.mg x=none:=by
 unfold bltB at h
 simp_all
 exact⟨zEV h.1,o.g.bt x (by simp_all)⟩
def zDx (o:XOk X k J bs):X.A.units+64 < cLine:=o.room.units
theorem zBJ {X:Cx}:∀ {es:List Expr},(∀ e∈es,zAa e=true)->∀ pos,(backTo pos (starEach es X.env)).any (·.1)=false
 | [],_,_=>rfl
 | e::es,h,pos=>by
  rw[zAC (h e q0)];show (false||(backTo pos (starEach es X.env)).any (·.1))=false;rw[zBJ (λe z=>h e (qY _ z)) pos]
  rfl
def zGp :∀ {es:List Expr},cEs a sc N bs es=true->∀ e∈es,zAa e=true:=by
 induction a with
 | nil =>
  intro es h;cases es with
  | nil=>intro e z;exact absurd z (by simp)
  | cons x c=>exact nomatch show false=true from h
 | cons a b _ d =>
  intro es h;cases es with
  | nil=>intro e z;exact absurd z (by simp)
  | cons x c =>
   simp only[cEs,x8] at h;intro e z;rcases mem_cons.mp z with rfl | z
   .simp_all
   .exact d h.2 e z
 | _=>intro es h;exact zzf h
end DL
namespace DL
open PySem Spec PyProof.Rows L2
section
variable {X:Cx}
def zCZ (h:∀ G,f G=none):GE X e f:=λpins s σ H Q I a=>by
 obtain⟨S,G,z,b,e,c⟩:=a;rw[h G] at e;cases e
def zFW (h:∀ x y,o x y=none)(G:Dst):two f g o G=none:=by
 unfold two
 simp_all
def zOx (K:W.Frag):R2:=λx y H Q=>∃ l b xs zs,x=.ref l/\y=.ref b/\SqL K H l xs/\SqL K H b zs/\xs.length+zs.length<=sizeLine/\∀ p,H p=none->Q (.ref p) (upd H p (.lst (xs++zs)))
def zKC:OpR X (binaryOp .Add) (zOx X.K):=by
 intro m s σ H x y v u Q I t o h;obtain⟨l,b,D,C,rfl,rfl,B,A,w,q⟩:=h;cases t;cases o;obtain⟨c,k,⟨⟨z,p,i,sl⟩,n,e1,e2,e3,e4⟩,z1⟩:=I.list B;obtain⟨a,d,⟨⟨j,f,g,e⟩,n2,e1',e2',e3',e4'⟩,z2⟩:=I.list A;subst e2 e4 e2' e4';refine concat_meets ⟨_,e1,rfl⟩ ⟨_,e1',rfl⟩ noFill_list_add seq_list_add F.slot_list_add F.entry_list_add (F.args_list_add_2 _ _) (zGW l _ n p sl b _ n2 f e (by rw[xq,xq,<- k.length,<- d.length];exact w)) ⟨e1,e1',?_⟩;have r:c.toArray++a.toArray=(c++a).toArray:=by simp
 rw[r];exact⟨.ref _,_,I.lnew (k.append d) (by simp_all),rfl,q _ I.fresh⟩
def zPB:OpD X.K (λx y H Q=>(rI0 (λi j=>.int (i+j)) x y H Q\/zOx X.K x y H Q)\/zRO X.K x y H Q) (binD .Add):=by
 intro S H x y z o q Q d e h g c;unfold binD at e;dsimp only at e;split at e
 .cases e;exact .inl (.inl ⟨_,_,h.int,g.int,c _ H (Same.refl _) (.int _)⟩)
 .rename_i f k;by_cases hl:f.length+k.length<=10000
  .rw [if_pos hl] at e;cases e;obtain⟨a,l,rfl,h1,h2⟩:=h.lst;obtain⟨b,m,rfl,h3,h4⟩:=g.lst;exact .inl (.inr ⟨a,b,l,m,rfl,rfl,h1,h3,by rw[<- h2.length,<- h4.length];exact zDB hl,λp n=>c _ _ (zAX n _) (.lstNew (Same.refl _) d n (h2.append h4))⟩)
  .simp_all
 .rename_i x f y k;by_cases hl:(x::f).length+(y::k).length<=10000
  .rw [if_pos hl] at e;cases e;obtain⟨a,l,rfl,h1,h2⟩:=h.tup;obtain⟨b,m,rfl,h3,h4⟩:=g.tup;exact .inr ⟨a,b,l,m,rfl,rfl,h1,h3,(λz=>by rw[z] at h2;have:=h2.length;simp at this),by rw[<- h2.length,<- h4.length];exact zDB hl,λz=>absurd z (λz=>by rw[z] at h4;have:=h4.length;simp at this),λ_ p n=>c _ _ (zAX n _) (.tupNew d n (h2.append h4))⟩
  .rw [if_neg hl] at e;cases e
 .cases e
def zO8:OpD X.K (λx y H Q=>rI IntMulOk (λi j=>.int (i*j)) x y H Q\/rRep X.K x y H Q) (binD .Mult):=by
 intro S H x y z m l Q b e f d c;unfold binD at e
 simp_all
 split at e
 .unfold mulD at e;split at e
  .rename_i h;cases e;exact .inl ⟨_,_,f.int,d.int,h,c _ H (Same.refl _) (.int _)⟩
  .cases e
 .rename_i k j;by_cases hl:0<=j/\j<=10000/\k.length*j.toNat<=10000
  .rw [if_pos hl] at e;cases e;obtain⟨a,g,rfl,h1,h2⟩:=f.lst;exact .inr ⟨a,g,j,rfl,d.int,h1,hl.1,hl.2.1,by rw[<- h2.length];exact hl.2.2,λp n=>c _ _ (zAX n _) (.lstNew (Same.refl _) b n (zLZ h2 _))⟩
  .simp_all
 .cases e
def zSs (d:GE X a f)(c:GE X b g):GE X (.BinOp a op b pos) (two f g (binD op)):=by
  cases op with
  | Add=>exact zI6 ((zOA.or zKC).or (by intro j s σ H x y v u Q I A r h;obtain⟨a,b,C,D,rfl,rfl,d,c,t,k,p,n⟩:=h;cases A;cases r;obtain⟨B,r1,o,_⟩:=I.tuple d;obtain⟨i,r2,l,_⟩:=I.tuple c;refine HT.zQm o l (λz=>t (r1.nil_iff.mp z)) (λz=>⟨.ref a,H,I,rfl,p (r2.nil_iff.mp z)⟩) (λz=>?_) (by rw[<- r1.length,<- r2.length];exact k);refine⟨.ref s.heap.objs.size,_,I.laid (λb ob q=>get?_push_of_some _ q) (le_refl _) ?_,rfl,n (λw=>z (r2.nil_iff.mpr w)) _ (I.hok.fresh (le_refl _))⟩;exact⟨by rw[List.length_append];exact k,_,r1.append r2,IsTup.new _ _⟩)) zPB d c
  | Sub=>exact zI6 (opI0 λ_ _ _ _ _ _ _ q=>sub_int q) (zMU λx y z e=>by
      unfold binD at e;dsimp only at e;split at e
      . cases e;exact⟨_,_,rfl,rfl,rfl⟩
      . cases e) d c
  | Mult=>exact zI6 (zPE.or zRi) zO8 d c
  | FloorDiv=>exact zI6 zMV (zHL λx y z e=>by
      unfold binD at e;dsimp only at e;split at e
      . unfold zQI at e;split at e
        . rename_i h;cases e;exact⟨_,_,rfl,rfl,h,rfl⟩
        . cases e
      . cases e) d c
  | Mod=>exact zI6 (opI λ_ _ _ _ _ _ _ m q=>mod_int' m q) (zHL λx y z e=>by
      unfold binD at e;dsimp only at e;split at e
      . split at e
        . cases e
        . rename_i h;cases e;exact⟨_,_,rfl,rfl,h,rfl⟩
      . cases e) d c
  | Pow=>exact zI6 zRj (zHL λx y z e=>by
      unfold binD at e;dsimp only at e;split at e
      . split at e
        . rename_i h;cases e;exact⟨_,_,rfl,rfl,h,rfl⟩
        . cases e
      . cases e) d c
  | _=>exact zCZ (zFW λ_ _=>rfl)
theorem zBq {k:Int->Int->Bool}(h:cmpD op=λx y=>match x,y with
    | .int i,.int j=>some (.bl (k i j),.cl)
    | _,_=>none):∀ x y z,cmpD op x y=some z->∃ i j,x=.int i/\y=.int j/\z=(.bl (k i j),.cl):=by
  intro x y z e;rw[h] at e;dsimp only at e;split at e
  . cases e;exact⟨_,_,rfl,rfl,rfl⟩
  . cases e
def zNY (n:X.A.units+64 < cLine):(∃ r,OpR X (compareOp op) r/\OpD X.K r (cmpD op)/\∀ b,behindInMarks op b=false)\/∀ x y,cmpD op x y=none:=by
 cases op with
 | Lt=>exact .inl ⟨_,zRl,zBM (zBq rfl),λb=>zDH b⟩
 | LtE=>exact .inl ⟨_,zRm,zBM (zBq rfl),λb=>zDH b⟩
 | Gt=>exact .inl ⟨_,zRp,zBM (zBq rfl),λb=>zDH b⟩
 | GtE=>exact .inl ⟨_,zRr,zBM (zBq rfl),λb=>zDH b⟩
 | Eq=>exact .inl ⟨_,(by intro a s σ H x y v u Q I i j h;obtain⟨d,e,g,k,⟨c,f,m⟩,q⟩:=h;obtain⟨l,r1⟩:=zDC I g i c;obtain⟨bs,r2⟩:=zDC I k j f;exact SeqAt.rcAt_reads r1 r2 c f (by omega) X.prog X.w _ _ ⟨.bl _,H,I,rfl,q⟩),zN8,λb=>zDH b⟩
 | NotEq=>exact .inl ⟨_,(by intro a s σ H x y v u Q I i j h;obtain⟨d,e,g,k,⟨c,f,m⟩,q⟩:=h;obtain⟨l,r1⟩:=zDC I g i c;obtain⟨bs,r2⟩:=zDC I k j f;exact SeqAt.rcNeAt_reads r1 r2 c f (by omega) X.prog X.w _ _ ⟨.bl _,H,I,rfl,q⟩),zN8,λb=>zDH b⟩
 | Is=>exact .inl ⟨_,zRn,zPA,λb=>zDH b⟩
 | IsNot=>exact .inl ⟨_,zPD,zMT,λb=>zDH b⟩
 | _=>exact .inr λ_ _=>rfl
def zHW (h:∀ G,f G=none):GT X e (asB f):=λpins s σ H Q I a=>by
 obtain⟨S,G,z,b,e,c⟩:=a;obtain⟨k,e⟩:=zCH e;rw[h G] at e;cases e
def zP7 (e:X.A.units+64 < cLine)(c:GE X a f)(d:GE X b g):GE X (.Compare a [op] [b] pos) (two f g (cmpD op))/\GT X (.Compare a [op] [b] pos) (asB (two f g (cmpD op))):=by
 rcases zNY e with ⟨r,h1,h2,h3⟩ | h
 .exact ⟨((zJ5 h1 c d (h3 b)).imp λ_ _ _ q=>zH0 h2 q),zSR h1 h2 (h3 b) c d⟩
 .exact ⟨zCZ (zFW h),zHW (zFW h)⟩
def zAr (h:GE X e f)(a:∀ whole,isTrue e X.env whole=(do let v<-whole;standAt e.pos;holding [v] (truthy v))):GE X e f/\GT X e (asB f):=⟨h,((zN2 h a).imp λ_ _ _ q=>zHX q)⟩
def nh {O:Type}{c:O->Bool}{p:O->Prop}(n:∀ x,c x=false:=by exact λ_=>rfl):∀ x,c x=true->p x:=by grind
structure Good (X:Cx)(J:Gm)(bs:List Str)(a:E):Prop where
 e:∀ e,cE a X.env.scope X.N bs e=true->GE X e (evE J a)/\GT X e (asB (evE J a)):=by exact nh
 es:∀ es,cEs a X.env.scope X.N bs es=true->(GA X es (evEs J a)/\GAL X es (evLs J a))/\(es≠[]->∀ pos,(GE X (.BoolOp .And es pos) (evAnd J a)/\GW X (.BoolOp .And es pos) (asB (evAnd J a)))/\GE X (.BoolOp .Or es pos) (evOr J a)/\GW X (.BoolOp .Or es pos) (asB (evOr J a))):=by exact nh
 o:∀ oe,cO a X.env.scope X.N bs oe=true->GO X oe (evO J a):=by exact nh
 i:∀ it,cI a X.env.scope X.N bs it=true->(∀ tg,GI X tg it (evI J a))/\∀ x,foldedSetIterable it X.env x=pure x:=by exact nh
 c:∀ ifs,cC a X.env.scope X.N bs ifs=true->GCs X ifs (evC J a):=by exact nh
structure zTr (X:Cx)(tg iter elt:Expr)(ifs:List Expr)(scope:Scope)(ms:List Nat)(xs:List Str)(f:Dst->Option (List D))(t:D->Dst->Option Dst)(c:Dst->Option Bool)(e:Dst->Option R):Prop where
 hi:GI X tg iter f
 hs:∀ x,foldedSetIterable iter X.env x=pure x
 cs:zCO X.env.scope scope
 hm:∀ (i:Nat) x,X.N[i]?=some x->ownB scope x=true->i∈ms
 hg:∀ s H fp,GG (zAY X (mask (noN X.N) ms X.N++xs) scope s H fp) tg t
 hc:∀ s H fp,GCs (zAY X (mask (noN X.N) ms X.N++xs) scope s H fp) ifs c
 he:∀ s H fp,GE (zAY X (mask (noN X.N) ms X.N++xs) scope s H fp) elt e
def zHi (h:cscB sc scope=true):zCO sc scope:=by
 unfold cscB at h;simp only[x8,qj,beq_iff_eq,all_eq_true] at h;obtain⟨⟨h1,h2⟩,h3⟩:=h;refine⟨h1,h2,λx a e=>?_⟩;have q:=h3 x a
 simp_all
def zFn (h:zMZ scope N ms=true):∀ (i:Nat) x,N[i]?=some x->ownB scope x=true->i∈ms:=λi x e o=>by
 unfold zMZ at h;rw[all_eq_true] at h;have q:=h i (mem_range.mpr (zzg e).1)
 simp_all
def zLB (h:xs[k]?=some x):(mask (noN N) ms N++xs)[N.length+k]?=some x:=by
 rw[getElem?_append_right (by rw[zA7];omega),zA7]
 simp_all
end
end DL
end
section
namespace DL
open PySem Spec PyProof.Rows L2
section
variable {X:Cx}{k:Nat}{J:Gm}{bs:List Str}
def zUj (o:XOk X k J bs)(h:Gl X f)(d:(f==("__debug__":Str))=false)(i:GA X es g)(b:∀ e∈es,zAa e=true)(r:es=[]->∀ G,g G=some []):GE X (.Call (.Name f p) es [] pos) (fnD J n f g):=by
 cases q:J.fns[n]? with
 | none=>exact zCZ λG=>by unfold fnD;rw[q]
 | some l =>
  obtain⟨y,F⟩:=l;by_cases e:y=f
  .subst e;have m:fnD J n y g=zJD F g:=by
    funext G;unfold fnD
    simp_all
   rw[m];obtain⟨a,v,t,h1,h2,h3,h4⟩:=o.g.fn y F (mem_of_getElem? q);cases es with
   | nil =>
    rw[(funext (r rfl))];have j:=o.room;refine(zMR h1 j h h2 h3 h4 .nil zHJ d).imp fun σ H Q q=>?_
    obtain⟨S,G,z,s,e,c⟩:=zIZ q;cases e;exact c [] H (Same.refl _) .nil
   | cons x u=>exact ((zJ6 h1 o.room h h2 h3 h4 .nil zHJ i d (zAC (b x q0)) ((zBJ λe z=>b e (qY _ z)) pos)).imp λ_ _ _ q=>zIZ q)
  .exact zCZ λG=>by
    unfold fnD
    simp_all
def zUi (o:XOk X k J bs)(c:Gl X x)(f:(x==("__debug__":Str))=false):GE X (.Name x pos) (zGb J n x):=by
 cases q:J.cs[n]? with
 | none=>exact zCZ λG=>by unfold zGb;rw[q]
 | some a =>
  obtain⟨y,d⟩:=a;by_cases e:y=x
  .subst e;have b:zGb J n y=λ_=>some (d,.cl):=by
    unfold zGb
    simp_all
   rw[b];obtain⟨u,v,h1,h2,h3⟩:=o.g.cs y d (mem_of_getElem? q);exact zP6 c h1 h2 h3 f
  .exact zCZ λG=>by
    unfold zGb
    simp_all
def zQn (h:cEs a sc N bs []=true)(G:Dst):evEs J a G=some []:=by
 cases a<;>first | rfl | exact nof h
def zIV (o:XOk X k J bs)(l:Good X J bs src)(p:∀ {X':Cx},XOk X' k J bs->Good X' J bs c)(m:∀ {X':Cx},XOk X' k J bs->Good X' J bs el)(h:cE (.comp1 n ms x src c el) X.env.scope X.N bs e=true) :
  ∃ tg iter elt ifs scope pos,e=.ListComp elt [⟨tg,iter,ifs,0⟩] scope pos/\zTr X tg iter elt ifs scope ms [x] (evI J src) (tg1 n) (evC J c) (evE J el):=by
 obtain⟨v,u,scope,pos,rfl,i⟩:=zB7 h;obtain⟨q,rfl,g⟩:=zAm i;obtain⟨w,t,ifs,a,rfl,d⟩:=zFj g;obtain⟨y,r,rfl,f⟩:=zAI d;replace h:=f;simp at h;obtain⟨⟨⟨⟨⟨⟨⟨⟨⟨⟨rfl,rfl⟩,rfl⟩,h4⟩,h5⟩,h6⟩,h7⟩,h8⟩,h9⟩,h10⟩,h11⟩:=h;have j:∀ s H b,XOk (zAY X (mask (noN X.N) ms X.N++[x]) scope s H b) k J bs:=λs H b=>o.comp h6
 refine⟨_,_,_,_,_,_,rfl,⟨(l.i _ h9).1 _,(l.i _ h9).2,zHi h4,zFn h5,λs H b=>?_,λs H b=>(p (j s H b)).c _ h10,λs H b=>((m (j s H b)).e _ h11).1⟩⟩;exact zK0 h6 (zLB (k:=0) rfl) (zEM h7) (.inl h8)
def zP5 (h:∀ G,f G=none):GE X e f/\GT X e (asB f) :=
 ⟨λpins s σ H Q I ⟨S,G,r,d,q,c⟩=>(by rw[h G] at q;cases q),λpins s σ H Q I a=>by obtain⟨S,G,r,d,q,c⟩:=a;exact(by unfold asB at q;rw[h G] at q;cases q)⟩
def zIu (h:zRw e=true):attributeBase e f X.env (eval e X.env)=eval e X.env:=by
 cases e with
 | Name _ _=>rfl
 | _=>exact nof h
def zDA (o:XOk X k J bs)(a:E):Good X J bs a:=by
 have p:=zDx o
 induction a generalizing X with
 | var i =>
  refine { e:=λe h=>?_ };obtain⟨_,_,rfl,d⟩:=zAI h;replace h:=d;simp only[x8,qj] at h;obtain⟨⟨h2,h3⟩,h4⟩:=h;obtain⟨n1,n2⟩:=zB1 h4;exact zAr (zSf h2 (zD8 h3) n1 n2) λ_=>rfl
 | glob n x =>
  refine { e:=λe h=>?_ };obtain⟨_,_,rfl,d⟩:=zAI h;replace h:=d;simp only[x8,qj] at h;obtain⟨⟨rfl,h2⟩,h4⟩:=h;exact zAr (zUi o (zEV h2) (zB1 h4).1) λ_=>rfl
 | int i =>
  refine { e:=λe h=>?_ };obtain⟨M,_,_,rfl,d⟩:=zBX h;obtain⟨_,rfl,g⟩:=zKJ d;replace h:=g;simp only[qj] at h;subst h;exact zAr ge_int λ_=>rfl
 | bl b =>
  refine { e:=λe h=>?_ };obtain⟨M,_,_,rfl,d⟩:=zBX h;obtain⟨_,rfl,g⟩:=zIt d;replace h:=g;simp only[qj] at h;subst h;exact zAr zUk λ_=>rfl
 | non =>
  refine { e:=λe h=>?_ };obtain⟨M,_,_,rfl,d⟩:=zBX h;obtain⟨rfl,g⟩:=zC1 d;replace h:=g;exact zAr zSk λ_=>rfl
 | str x =>
  refine { e:=λe h=>?_ };obtain⟨M,_,_,rfl,d⟩:=zBX h;obtain⟨_,rfl,g⟩:=zKI d;replace h:=g;simp only[qj] at h;subst h;exact zAr zSi λ_=>rfl
 | bin U a b j w =>
  refine { e:=λe h=>?_ };obtain⟨_,_,_,_,rfl,d⟩:=zDU h;replace h:=d;simp only[x8,opB,qj] at h;obtain⟨⟨rfl,h1⟩,h2⟩:=h;exact zAr (zSs ((j o p).e _ h1).1 ((w o p).e _ h2).1) λ_=>rfl
 | neg a j =>
  refine { e:=λe h=>?_ };obtain⟨M,_,_,rfl,d⟩:=zCU h;obtain⟨rfl,g⟩:=zC1 d;replace h:=g;exact zAr (zSl ((j o p).e _ h).1) λ_=>rfl
 | not a j =>
  refine { e:=λe h=>?_ };obtain⟨M,_,_,rfl,d⟩:=zCU h;obtain⟨rfl,g⟩:=zC1 d;replace h:=g;exact⟨zSj ((j o p).e _ h).1,zSP ((j o p).e _ h).2⟩
 | cmp U a b j w =>
  refine { e:=λe h=>?_ };obtain⟨_,M,z2,_,rfl,d⟩:=zCW h;obtain⟨_,rfl,g⟩:=zAm d;obtain⟨_,rfl,A⟩:=zAm g;replace h:=A;simp only[x8,cmB,qj] at h;obtain⟨⟨rfl,h1⟩,h2⟩:=h;exact zP7 p ((j o p).e _ h1).1 ((w o p).e _ h2).1
 | andl es P =>
  refine { e:=λe h=>?_ };obtain⟨M,l,N,rfl,d⟩:=zC2 h;obtain⟨rfl,g⟩:=zC1 d;replace h:=g;cases l with
  | nil =>
   have z:∀ G,evAnd J es G=none:=λG=>by cases es<;>first | rfl | exact nof h
   exact⟨zCZ z,zHW z⟩
  | cons x T =>
   have q:=(((P o p).es _ h).2 (by simp) N).1;exact⟨q.1,q.2.pt⟩
 | orl es P =>
  refine { e:=λe h=>?_ };obtain⟨M,l,N,rfl,d⟩:=zC2 h;obtain⟨rfl,g⟩:=zC1 d;replace h:=g;cases l with
  | nil =>
   have z:∀ G,evOr J es G=none:=λG=>by cases es<;>first | rfl | exact nof h
   exact⟨zCZ z,zHW z⟩
  | cons x T =>
   have q:=(((P o p).es _ h).2 (by simp) N).2;exact⟨q.1,q.2.pt⟩
 | ite c a b F j w =>
  refine { e:=λe h=>?_ };obtain⟨_,_,_,_,rfl,d⟩:=zIs h;replace h:=d;simp only[x8] at h;obtain⟨⟨h0,h1⟩,h2⟩:=h;exact⟨zSn ((F o p).e _ h0).2 ((j o p).e _ h1).1 ((w o p).e _ h2).1,zSQ ((F o p).e _ h0).2 ((j o p).e _ h1).2 ((w o p).e _ h2).2⟩
 | tup es P =>
  refine { e:=λe h=>?_ };obtain⟨_,_,_,rfl,d⟩:=zIr h;replace h:=d;exact zAr (zSg ((P o p).es _ h).1.1) λ_=>rfl
 | lst es P =>
  refine { e:=λe h=>?_ };obtain⟨_,_,rfl,d⟩:=zGP h;replace h:=d;exact zAr (zSm ((P o p).es _ h).1.1) λ_=>rfl
 | ix a b j w =>
  refine { e:=λe h=>?_ };obtain⟨_,_,_,rfl,d⟩:=zBL h;replace h:=d;simp only[x8] at h;obtain⟨⟨h0,h1⟩,h2⟩:=h;exact zAr (zUh ((j o p).e _ h1).1 ((w o p).e _ h2).1 (zE1 h0)) λ_=>rfl
 | sl a lo hi j c2 b3 =>
  refine { e:=λe h=>?_ };obtain⟨_,M,_,rfl,d⟩:=zBL h;obtain⟨_,_,z2,_,rfl,g⟩:=zEz d;obtain⟨rfl,A⟩:=zDF g;replace h:=A;simp only[x8] at h;obtain⟨⟨h0,h1⟩,h2⟩:=h;exact zAr (zUf ((j o p).e _ h0).1 ((c2 o p).o _ h1) ((b3 o p).o _ h2)) λ_=>rfl
 | call n f es P =>
  refine { e:=λe h=>?_ };obtain⟨_,_,_,_,rfl,d⟩:=zBW h;replace h:=d;simp only[x8,qj] at h;obtain⟨⟨⟨rfl,h2⟩,h3⟩,h4⟩:=h;exact zAr (zUj o (zEV h2) (zB1 h3).1 ((P o p).es _ h4).1.1 (zGp h4) λe G=>by subst e;exact zQn h4 G) λ_=>rfl
 | len a j =>
  refine { e:=λe h=>?_ };obtain⟨_,_,_,_,rfl,d⟩:=zBW h;obtain⟨_,rfl,g⟩:=zAm d;replace h:=g;simp only[x8,qj] at h;obtain⟨⟨⟨rfl,h2⟩,h3⟩,h4⟩:=h;obtain⟨B,D⟩:=zAy o h2;exact zAr (zSt zGo zO9 B D PySem.boot_len ((j o p).e _ h4).1 (zAC h3) (by decide) (by decide)) λ_=>rfl
 | abs a j =>
  refine { e:=λe h=>?_ };obtain⟨_,_,_,_,rfl,d⟩:=zBW h;obtain⟨_,rfl,g⟩:=zAm d;replace h:=g;simp only[x8,qj] at h;obtain⟨⟨⟨rfl,h2⟩,h3⟩,h4⟩:=h;obtain⟨B,D⟩:=zAy o h2;exact zAr (zSt (by intro pins s σ H T us Q I r h;obtain⟨i,rfl,q⟩:=h;obtain⟨u,rfl,t,rfl⟩:=zGz r;exact call_abs_int λu tk=>⟨.int _,H,I.tok _,⟨_,rfl⟩,q⟩) zPC B D boot_abs ((j o p).e _ h4).1 (zAC h3) (by decide) (by decide)) λ_=>rfl
 | list a j =>
  refine { e:=λe h=>?_ };obtain⟨_,_,_,_,rfl,d⟩:=zBW h;obtain⟨_,rfl,g⟩:=zAm d;replace h:=g;simp only[x8,qj] at h;obtain⟨⟨⟨rfl,h2⟩,h3⟩,h4⟩:=h;obtain⟨B,D⟩:=zAy o h2;exact zAr (zSh zDq zMS B D boot_list ((j o p).e _ h4).1 (zAC h3) (by decide) (by decide)) λ_=>rfl
 | max a b j w =>
  refine { e:=λe h=>?_ };obtain⟨_,_,_,_,rfl,d⟩:=zBW h;obtain⟨_,_,rfl,g⟩:=zEH d;replace h:=g;simp only[x8,qj] at h;obtain⟨⟨⟨⟨⟨rfl,h2⟩,h3⟩,h4⟩,h5⟩,h6⟩:=h;obtain⟨B,D⟩:=zAy o h2;exact zAr (zUl (zLg o.calm) (λx y z e=>by
   unfold maxD at e;split at e
   .cases e;exact⟨_,_,rfl,rfl,rfl⟩
   .cases e) B D boot_max ((j o p).e _ h5).1 ((w o p).e _ h6).1 (zAC h3) (zAC h4) (by decide) (by decide)) λ_=>rfl
 | isi t a j =>
  refine { e:=λe h=>?_ };obtain⟨M,z2,z3,_,rfl,d⟩:=zAu h;obtain⟨_,_,rfl,g⟩:=zAI d;obtain⟨_,z4,rfl,A⟩:=zEH g;obtain⟨_,_,rfl,L⟩:=zAI A;obtain⟨rfl,K⟩:=zBI L;replace h:=K;simp only[x8,qj] at h;obtain⟨⟨⟨⟨⟨rfl,rfl⟩,h2⟩,h3⟩,h4⟩,h5⟩:=h;obtain⟨B,D⟩:=zAy o h2;obtain⟨g3,g4⟩:=zAy o h3;exact zAr (zSp B D g3 g4 ((j o p).e _ h5).1 (zAC h4)) λ_=>rfl
 | chn U d4 a b c j w F =>
  refine { e:=λe h=>?_ };obtain⟨_,M,z2,_,rfl,d⟩:=zCW h;obtain⟨_,_,rfl,g⟩:=zEH d;obtain⟨_,_,rfl,A⟩:=zEH g;replace h:=A;simp only[x8,cmB,qj] at h;obtain⟨⟨⟨⟨⟨⟨rfl,rfl⟩,h1⟩,h2⟩,h3⟩,h4⟩,h5⟩:=h;have k:∀ {U:CmpOp},chB U=true->∃ r,OpR X (compareOp U) r/\OpD X.K r (cmpD U):=λ{U} q=>by
   cases U with
   | Lt=>exact⟨_,zRl,zBM (zBq rfl)⟩
   | LtE=>exact⟨_,zRm,zBM (zBq rfl)⟩
   | Gt=>exact⟨_,zRp,zBM (zBq rfl)⟩
   | GtE=>exact⟨_,zRr,zBM (zBq rfl)⟩
   | _=>exact absurd q (by decide)
  obtain⟨r,a1,a2⟩:=k h1;obtain⟨r',b1,b2⟩:=k h2;exact ⟨(zMQ a1 b1 ((j o p).e _ h3).1 ((w o p).e _ h4).1 ((F o p).e _ h5).1 (zIA h2)).imp λ_ _ _ q=>zH1 a2 b2 q,(zML a1 b1 ((j o p).e _ h3).1 ((w o p).e _ h4).1 ((F o p).e _ h5).1 (zIA h2)).imp λ_ _ _ q=>zH1 a2 b2 (zHX q)⟩
 | callw i es P =>
  refine { e:=λe h=>?_ };obtain⟨_,_,_,_,rfl,d⟩:=zBW h;obtain⟨_,_,rfl,g⟩:=zEF d;replace h:=g;simp only[x8,qj] at h;obtain⟨⟨⟨h1,h2⟩,h3⟩,h4⟩:=h;obtain⟨d1,d2⟩:=zB1 h3;have st:=zGp h4;exact zAr (zM4 o.g.fn o.room h1 (zD8 h2) d1 d2 ((P o p).es _ h4).1.1 (zAC (st _ q0)) (zBJ λe z=>st e (qY _ z)) o.own) λ_=>rfl
 | callv i a j =>
  refine { e:=λe h=>?_ };obtain⟨_,_,_,_,rfl,d⟩:=zBW h;obtain⟨_,rfl,g⟩:=zAm d;replace h:=g;simp only[x8,qj] at h;obtain⟨⟨⟨⟨h1,h2⟩,h3⟩,h4⟩,h5⟩:=h;obtain⟨d1,d2⟩:=zB1 h3;exact zAr (zM5 o.g.lm o.g.fn o.room h1 (zD8 h2) d1 d2 ((j o p).e _ h5).1 (zAC h4) o.own) λ_=>rfl
 | fld a f j =>
  refine { e:=λe h=>?_ };obtain⟨_,_,_,rfl,d⟩:=zAe h;replace h:=d;simp only[x8,qj] at h;obtain⟨⟨rfl,h2⟩,h3⟩:=h;exact zAr (zSq ((j o p).e _ h3).1 (zIu h2) λc m C q=>o.g.ob _ m C q) λ_=>rfl
 | iso y a j =>
  refine { e:=λe h=>?_ };obtain⟨M,z2,z3,_,rfl,d⟩:=zAu h;obtain⟨_,_,rfl,g⟩:=zAI d;obtain⟨_,z4,rfl,A⟩:=zEH g;obtain⟨_,_,rfl,L⟩:=zAI A;obtain⟨rfl,K⟩:=zBI L;replace h:=K;simp only[x8,qj] at h;obtain⟨⟨⟨⟨⟨⟨rfl,hz⟩,h2⟩,h3⟩,h4⟩,h5⟩,h6⟩:=h;have hz:=hz.symm;subst hz;obtain⟨B,D⟩:=zAy o h2;by_cases hy:∃ c b,oiOf J.ob y c=some b
  .obtain ⟨c,b,hb⟩:=hy;obtain⟨Y,hY,_⟩:=o.g.ob _ (zOD hb);exact zAr (zSo B D (zJ4 (zEV h3) hY (v:=.ref Y) rfl (zB1 h4).1) (λu' r=>r) (λc b e C q=>by
    obtain⟨Y',b7,k⟩:=o.g.ob _ (zOD e);have a7:X.mg y=some (.ref Y'):=b7;rw[show X.mg y=some (.ref Y) from hY] at a7;cases a7;exact k C q) ((j o p).e _ h6).1 (zAC h5)) λ_=>rfl
  .exact zP5 λG=>by
    show one _ (isoF _) G=none;unfold one;cases evE J a G with
    | none=>rfl
    | some r =>
     show isoF _ r.1=none;unfold isoF;split
     .rename_i c _ _ _;cases q:oiOf J.ob y c with
      | none=>rfl
      | some b=>exact absurd ⟨_,_,q⟩ hy
     .rfl
 | lrev a j =>
  refine { e:=λe h=>?_ };obtain⟨M,z2,z3,_,rfl,d⟩:=zAu h;obtain⟨_,_,rfl,g⟩:=zAI d;obtain⟨z4,rfl,A⟩:=zAm g;obtain⟨z5,z6,z7,_,rfl,L⟩:=zAu A;obtain⟨_,_,rfl,K⟩:=zAI L;obtain⟨_,rfl,a0⟩:=zAm K;obtain⟨rfl,V⟩:=zBI a0;obtain⟨rfl,W⟩:=zBI V;replace h:=W;simp only[x8,qj] at h;obtain⟨⟨⟨⟨⟨rfl,rfl⟩,h2⟩,h3⟩,h4⟩,h5⟩:=h;obtain⟨B,D⟩:=zAy o h2;obtain⟨g3,g4⟩:=zAy o h3;exact zAr (zI8 o.calm B D g3 g4 ((j o p).e _ h5).1 (zAC h4)) λ_=>rfl
 | tupl a j =>
  refine { e:=λe h=>?_ };obtain⟨_,_,_,_,rfl,d⟩:=zBW h;obtain⟨_,rfl,g⟩:=zAm d;replace h:=g;simp only[x8,qj] at h;obtain⟨⟨⟨rfl,h2⟩,h3⟩,h4⟩:=h;obtain⟨B,D⟩:=zAy o h2;exact zAr (zSh zF1 zKA B D (by decide) ((j o p).e _ h4).1 (zAC h3) (by decide) (by decide)) λ_=>rfl
 | comp1 n ms x d8 c el R F O =>
  refine { e:=λe h=>?_ };obtain⟨tg,c4,c9,ifs,b6,N,rfl,q⟩:=zIV o (R o p) (λo'=>F o' (zDx o')) (λo'=>O o' (zDx o')) h;exact zAr (zK2 o.calm q.hi q.hs q.cs q.hm q.hg q.hc q.he) λ_=>rfl
 | lzip a b j w =>
  refine { e:=λe h=>?_ };obtain⟨M,z2,z3,_,rfl,d⟩:=zAu h;obtain⟨_,_,rfl,g⟩:=zAI d;obtain⟨z4,rfl,A⟩:=zAm g;obtain⟨z5,z6,z7,_,rfl,L⟩:=zAu A;obtain⟨_,_,rfl,K⟩:=zAI L;obtain⟨_,_,rfl,a0⟩:=zEH K;obtain⟨rfl,V⟩:=zBI a0;obtain⟨rfl,W⟩:=zBI V;replace h:=W;simp only[x8,qj] at h;obtain⟨⟨⟨⟨⟨⟨⟨rfl,rfl⟩,h2⟩,h3⟩,h4⟩,h5⟩,h6⟩,h7⟩:=h;obtain⟨B,D⟩:=zAy o h2;obtain⟨g3,g4⟩:=zAy o h3;exact zAr (zI7 o.calm B D g3 g4 ((j o p).e _ h6).1 ((w o p).e _ h7).1 (zAC h4) (zAC h5)) λ_=>rfl
 | it a j =>
  refine { i:=λit h=>?_ };replace h:(zKO it&&cE a X.env.scope X.N bs it)=true:=h;simp only[x8] at h;exact⟨λtg=>zSe ((j o p).e _ h.2).1,zE2 h.1⟩
 | r1 a j =>
  refine { i:=λit h=>?_ };obtain⟨_,_,_,_,rfl,d⟩:=zBW h;obtain⟨_,rfl,g⟩:=zAm d;replace h:=g;simp only[x8,qj] at h;obtain⟨⟨⟨rfl,h2⟩,h3⟩,h4⟩:=h;obtain⟨B,D⟩:=zAy o h2;exact⟨λtg=>zKz B D ((j o p).e _ h4).1 (zAC h3),λ_=>rfl⟩
 | r2 a b j w =>
  refine { i:=λit h=>?_ };obtain⟨_,_,_,_,rfl,d⟩:=zBW h;obtain⟨_,_,rfl,g⟩:=zEH d;replace h:=g;simp only[x8,qj] at h;obtain⟨⟨⟨⟨⟨rfl,h2⟩,h3⟩,h4⟩,h5⟩,h6⟩:=h;obtain⟨B,D⟩:=zAy o h2;exact⟨λtg=>zKy B D ((j o p).e _ h5).1 ((w o p).e _ h6).1 (zAC h3) (zAC h4),λ_=>rfl⟩
 | r3 a b c j w F =>
  refine { i:=λit h=>?_ };obtain⟨_,_,_,_,rfl,d⟩:=zBW h;obtain⟨_,_,_,rfl,g⟩:=zRt d;replace h:=g;simp only[x8,qj] at h;obtain⟨⟨⟨⟨⟨⟨⟨rfl,h2⟩,h3⟩,h4⟩,h4'⟩,h5⟩,h6⟩,h7⟩:=h;obtain⟨B,D⟩:=zAy o h2;exact⟨λtg=>zKx B D ((j o p).e _ h5).1 ((w o p).e _ h6).1 ((F o p).e _ h7).1 (zAC h3) (zAC h4) (zAC h4'),λ_=>rfl⟩
 | nil =>
  refine⟨λe h=>(zzf h),λes h=>?_,λoe h=>?_,λit h=>(zzf h),λifs h=>?_⟩
  .cases es with
   | nil=>exact⟨⟨zSz,zQD⟩,λz=>absurd rfl z⟩
   | cons x T=>exact nof h
  .cases oe with
   | none=>exact (PO.imp zHH fun σ H Q zy132=>by obtain⟨S,G,o,ds,e,c⟩:=zy132;cases e;exact c H (Same.refl _))
   | some x=>exact nof h
  .cases ifs with
   | nil=>exact (λpins s σ H Q I Z=>by obtain⟨S,G,b,ds,e,c⟩:=Z;exact wpAny_tests_nil ⟨H,I,by cases e;exact c H (Same.refl _)⟩)
   | cons x T=>exact nof h
 | cons e es O R =>
  refine⟨λe h=>(zzf h),λl h=>?_,λoe h=>?_,λit h=>(zzf h),λifs h=>?_⟩
  .cases l with
   | nil=>exact nof h
   | cons x T =>
    replace h:(zAa x&&cE e X.env.scope X.N bs x&&cEs es X.env.scope X.N bs T)=true:=h;simp only[x8] at h;obtain⟨⟨h1,h2⟩,h3⟩:=h;obtain⟨q1,q2⟩:=(O o p).e _ h2;refine⟨⟨zQE q1 ((R o p).es _ h3).1.1 (zAC h1),zM8 q1 ((R o p).es _ h3).1.2 (zAC h1)⟩,λ_ N=>?_⟩;cases T with
    | nil =>
     have hn:es=.nil:=by cases es<;>first | rfl | exact(zzf h3)
     subst hn;exact⟨⟨zON q1,(zJx q2)⟩,zON q1,(zN0 q2)⟩
    | cons y ys =>
     have hc:∃ a b,es=.cons a b:=by cases es<;>first | exact⟨_,_,rfl⟩ | exact(zzf h3)
     obtain⟨a,b,rfl⟩:=hc;obtain⟨⟨r1,r2⟩,r3,r4⟩:=((R o p).es _ h3).2 (by simp) N;exact⟨⟨zSu q1 r1,zSM q2 r2⟩,zUg q1 r3,zUa q2 r4⟩
  .cases oe with
   | none=>exact nof h
   | some x =>
    replace h:cE e X.env.scope X.N bs x=true:=h;exact zPw ((O o p).e _ h).1
  .cases ifs with
   | nil=>exact nof h
   | cons x T =>
    cases T with
    | nil=>exact (λpins s σ H Q I q=>wpAny_tests_one (((O o p).e _ h).2 pins s σ H Q I q))
    | cons _ _=>exact nof h
def zBa (h:varB sc N i x=true):N[i]?=some x/\Loc sc x/\Vis sc x/\(x==("__debug__":Str))=false/\(x==("__classdict__":Str))=false:=by
 unfold varB at h;simp at h;obtain⟨⟨h1,h2⟩,h3⟩:=h;exact⟨h1,zEM h2,((zEM h2).elim .inl λe=>.inr (.inl e)),zB1 h3⟩
def zRD (o:XOk X k J bs)(s:∀ x,X.fn x=true)(L:X.xe=λ_ _=>False)(T:X.stack=X.env::X.outer)(R:X.env.frame=some X.env.locals)(a:S) :
  ((∀ st,cS X.env.scope X.N bs a st=true->GS X st (evS J a))/\∀ sts,cSs X.env.scope X.N bs a sts=true->GSs X sts (evSs J a)) /\
  (∀ st,cS X.env.scope X.N bs a st=true->GXs X st (xvS J a))/\∀ sts,cSs X.env.scope X.N bs a sts=true->GXss X sts (xvSs J a):=by
 induction a with
 | nil =>
  refine⟨⟨λst h=>(zzf h),λsts h=>?_⟩,λst h=>zAM,λsts h=>zAM⟩;cases sts with
  | nil=>exact zPq
  | cons x G=>exact nof h
 | cons a b y j =>
  refine⟨⟨λst h=>(zzf h),λsts h=>?_⟩,λst h=>zAM,λsts h=>zAM⟩
  .cases sts with
   | nil=>exact nof h
   | cons x G =>
    replace h:(cS X.env.scope X.N bs a x&&cSs X.env.scope X.N bs b G)=true:=h;simp only[x8] at h;exact zMy (y.1.1 _ h.1) (j.1.2 _ h.2)
 | frz i r H =>
  refine⟨⟨λst h=>(zzf h),λsts h=>?_⟩,λst h=>zAM,λsts h=>zAM⟩
  .replace h:cSs X.env.scope X.N bs r sts=true:=h;exact zPp zS4 (H.1.2 _ h)
 | set i e =>
  refine⟨⟨λst h=>?_,λsts h=>(zzf h)⟩,λst h=>zAM,λsts h=>zAM⟩
  .obtain ⟨t,_,_,rfl,d⟩:=zBK h;obtain⟨B,rfl,f⟩:=zAm d;obtain⟨_,_,rfl,g⟩:=zAI f;replace h:=g;simp only[x8,qj] at h;obtain⟨⟨h2,h3⟩,h4⟩:=h;obtain⟨l,p,_⟩:=zBa h2;exact zOM o.nd l p ((zDA o e).e _ h4).1 (zEI h3) (.inl (s _))
 | setC i e =>
  refine⟨⟨λst h=>?_,λsts h=>(zzf h)⟩,λst h=>zAM,λsts h=>zAM⟩;obtain⟨t,_,_,rfl,d⟩:=zBK h;obtain⟨B,rfl,f⟩:=zAm d;obtain⟨_,_,rfl,g⟩:=zAI f;replace h:=g;simp only[x8,qj] at h;obtain⟨⟨h0,h2⟩,h4⟩:=h;obtain⟨l,p,_⟩:=zBa h2;cases e with
  | comp1 n Y x E c V =>
   obtain⟨tg,F,N,I,D,P,rfl,q⟩:=zIV o (zDA o E) (λo'=>zDA o' c) (λo'=>zDA o' V) h4;exact zPv o.calm q.hi q.hs q.cs q.hm q.hg q.hc q.he o.nd l p (.inl (s _))
  | _=>cases h0
 | app i e =>
  refine⟨⟨λst h=>?_,λsts h=>(zzf h)⟩,λst h=>zAM,λsts h=>zAM⟩;obtain⟨t,_,rfl,d⟩:=zCm h;obtain⟨B,O,W,_,rfl,f⟩:=zAu d;obtain⟨K,_,_,rfl,g⟩:=zAe f;obtain⟨_,_,rfl,w⟩:=zAI g;obtain⟨_,rfl,u⟩:=zAm w;obtain⟨rfl,v⟩:=zBI u;replace h:=v;simp only[x8,qj] at h;obtain⟨⟨⟨⟨rfl,h2⟩,h3⟩,h4⟩,h5⟩:=h;obtain⟨l,p,C,z,A⟩:=zBa h2;exact zSX l C z A ((zDA o e).e _ h5).1 (zAC h4) rfl h3
 | aug Z i e =>
  refine⟨⟨λst h=>?_,λsts h=>(zzf h)⟩,λst h=>zAM,λsts h=>zAM⟩;obtain⟨t,_,_,_,rfl,d⟩:=zEq h;obtain⟨_,_,rfl,f⟩:=zAI d;replace h:=f;simp only[x8,qj,opB] at h;obtain⟨⟨⟨rfl,h2⟩,h3⟩,h4⟩:=h;obtain⟨l,p,_⟩:=zBa h2;exact zSW o.nd l p ((zDA o e).e _ h4).1 (.inl (s _))
 | ext i e =>
  refine⟨⟨λst h=>?_,λsts h=>(zzf h)⟩,λst h=>zAM,λsts h=>zAM⟩;obtain⟨t,_,rfl,d⟩:=zCm h;obtain⟨B,O,W,_,rfl,f⟩:=zAu d;obtain⟨K,_,_,rfl,g⟩:=zAe f;obtain⟨_,_,rfl,w⟩:=zAI g;obtain⟨_,rfl,u⟩:=zAm w;obtain⟨rfl,v⟩:=zBI u;replace h:=v;simp only[x8,qj] at h;obtain⟨⟨⟨⟨rfl,h2⟩,h3⟩,h4⟩,h5⟩:=h;obtain⟨l,p,C,z,A⟩:=zBa h2;exact zSV l C z A ((zDA o e).e _ h5).1 (zAC h4) rfl h3
 | ife c a b y j =>
  refine⟨⟨λst h=>?_,λsts h=>(zzf h)⟩,λst h=>zAM,λsts h=>zAM⟩
  .obtain ⟨_,_,_,_,rfl,d⟩:=zKG h;replace h:=d;simp only[x8] at h;obtain⟨⟨h1,h2⟩,h3⟩:=h;exact zUb ((zDA o c).e _ h1).2 (y.1.2 _ h2) (j.1.2 _ h3)
 | whl c b j =>
  refine⟨⟨λst h=>?_,λsts h=>(zzf h)⟩,λst h=>zAM,λsts h=>zAM⟩;obtain⟨_,_,t,_,rfl,d⟩:=zIq h;obtain⟨rfl,f⟩:=zBI d;replace h:=f;simp only[x8] at h;exact zM0 o.own ((zDA o c).e _ h.1).2 (j.1.2 _ h.2)
 | for1 i it b j =>
  refine⟨⟨λst h=>?_,λsts h=>(zzf h)⟩,λst h=>zAM,λsts h=>zAM⟩;obtain⟨t,_,_,B,_,rfl,d⟩:=zH2 h;obtain⟨_,_,rfl,f⟩:=zAI d;obtain⟨rfl,g⟩:=zBI f;replace h:=g;simp only[x8,qj] at h;obtain⟨⟨h2,h3⟩,h4⟩:=h;obtain⟨l,p,_⟩:=zBa h2;obtain⟨Q,U⟩:=(zDA o it).i _ h3;exact zSU o.own o.calm (Q _) (zK0 o.nd l p (.inl (s _))) (j.1.2 _ h4) U
 | ret e =>
  refine⟨⟨λst h=>?_,λsts h=>(zzf h)⟩,λst h=>zAM,λsts h=>zAM⟩
  .obtain ⟨t,_,rfl,d⟩:=zC0 h;obtain⟨_,rfl,f⟩:=zCV d;replace h:=f;exact zST ((zDA o e).e _ h).1
 | retOwn i =>
  refine⟨⟨λst h=>?_,λsts h=>(zzf h)⟩,λst h=>zAM,λsts h=>zAM⟩;obtain⟨t,_,rfl,d⟩:=zC0 h;obtain⟨B,rfl,f⟩:=zCV d;obtain⟨_,_,rfl,g⟩:=zAI f;replace h:=g;obtain⟨l,p,C,z,A⟩:=zBa h;exact zKu l C z A
 | never=>exact⟨⟨λst _=>zIC,λsts h=>(zzf h)⟩,λst h=>zAM,λsts h=>zAM⟩
 | rse c m =>
  exact⟨⟨λst _=>zIC,λsts h=>(zzf h)⟩,λst h=>zAM,λsts h=>zAM⟩
end
def zOb {K:W.Frag}{st:Stmt}(F:Fun K x qual st f fd)(sc:zAV N ps (zAA st))
  (c:cSs (zAA st) N bs b (zAE st)=true) (g:GOk P w K mg base k J bs):FnOk P w K mg base CX0 (k+1) f fd ps (spD K (dFun ps.length N.length (evSs J b))) :=
 zS3 F sc λcdv A a s H E d =>
  (zRD ⟨g,d,rfl,sc.nd,PassesOwn.never⟩ (λ_=>rfl) rfl rfl rfl b).1.2 _ c
noncomputable def Gm.add (J:Gm)(x:Str)(F:List D->Option R):Gm:=⟨J.fns++[(x,F)],J.cs,J.xf,J.sub,J.rs,J.lm,J.ob⟩
def GOk.add {K:W.Frag}{st:Stmt}(g:GOk P w K mg base k J bs)(F:Fun K x x st f fd)(sc:zAV N ps (zAA st))
  (l:cSs (zAA st) N bs b (zAE st)=true) (m:mg x=some (.ref f)) (i:zBH K fd ps []):GOk P w K mg base (k+1) (J.add x (dFun ps.length N.length (evSs J b))) bs:=by
 refine⟨λy G h=>?_,g.cs,g.bt,trivial,trivial,trivial,λj L F e=>(g.lm j L F e).mono (Nat.le_succ k),g.ob⟩
 .rcases mem_append.mp h with h | h
  .obtain ⟨d,c,a,h1,h2⟩:=g.fn y G h;exact⟨d,c,a,h1.mono (Nat.le_succ k),h2⟩
  .have e:(y,G)=(x,dFun ps.length N.length (evSs J b)):=by simpa using h
   cases e;exact⟨f,fd,ps,zOb F sc l g,m,F.kp,i⟩
def GOk.addN {K:W.Frag}{st:Stmt}(g:GOk P w K mg base k J bs)(F:Fun K x x st f fd)(m:mg x=some (.ref f))(c:zBH K fd ps []) :
  GOk P w K mg base k (J.add x (λ_=>none)) bs:=by
 refine⟨λy G h=>?_,g.cs,g.bt,trivial,trivial,trivial,g.lm,g.ob⟩
 .rcases mem_append.mp h with h | h
  .exact g.fn y G h
  .have e:(y,G)=(x,λ_=>none):=by simpa using h
   cases e;exact⟨f,fd,ps,⟨λvs H Q E q=>(by obtain⟨_,_,_,_,_,q,_⟩:=q;cases q),λA a s H b us n Q E i j d l q=>by obtain⟨_,_,_,_,_,q,_⟩:=q;cases q⟩,m,F.kp,c⟩
def GOk.addR {K:W.Frag}{st:Stmt}(g:GOk P w K mg base k J bs)(n:GOk P w K mg base j J' bs)(p:k<=j)(F:Fun K x x st f fd)(sc:zAV N ps (zAA st))
  (l:cSs (zAA st) N bs b (zAE st)=true) (m:mg x=some (.ref f)) (d:zBH K fd ps []):GOk P w K mg base (j+1) (J.add x (dFun ps.length N.length (evSs J' b))) bs:=by
 refine⟨λy G h=>?_,g.cs,g.bt,trivial,trivial,trivial,λi L F e=>(g.lm i L F e).mono (by omega),g.ob⟩
 .rcases mem_append.mp h with h | h
  .obtain ⟨o,c,a,h1,h2⟩:=g.fn y G h;exact⟨o,c,a,h1.mono (by omega),h2⟩
  .have e:(y,G)=(x,dFun ps.length N.length (evSs J' b)):=by simpa using h
   cases e;exact⟨f,fd,ps,zOb F sc l n,m,F.kp,d⟩
noncomputable def Gm.addL (J:Gm)(L:LamI)(F:List D->Option R):Gm:=⟨J.fns,J.cs,J.xf,J.sub,J.rs,J.lm++[(L,F)],J.ob⟩
noncomputable def lamD (n:Nat)(G:Dst->Option R):List D->Option R:=λds=>if ds.length=n+1/\noFs ds=true then G (ds.map λd=>some (d,false)) else none
def GOk.addL {K:W.Frag}(g:GOk P w K mg base k J bs)(S:zGA x ys L)(l:frN L=ys)(b:cE be L.scope (x::ys) bs L.body=true) :
  GOk P w K mg base (k+1) (J.addL L (lamD ys.length (evE J be))) bs:=by
 refine⟨λy G h=>let ⟨f,fd,ps,h1,h2⟩:=g.fn y G h;⟨f,fd,ps,h1.mono (Nat.le_succ k),h2⟩,g.cs,g.bt,trivial,trivial,trivial,λj c F e=>?_,g.ob⟩;have a:(J.lm++[_])[j]?=some (c,F):=e;by_cases q:j < J.lm.length
 .rw [getElem?_append_left q] at a;exact(g.lm j c F a).mono (Nat.le_succ k)
 .rw [getElem?_append_right (by omega)] at a;have s:j - J.lm.length=0:=by
   by_cases z:j - J.lm.length=0
   .exact z
   .simp_all
  rw[s] at a;cases a;refine zPa S l λY m o n p i u t d v r=>?_
  subst m o n p i;rw[<- d,<- v] at b;exact((zDA ⟨g,u,t,by rw[d];exact S.nd,by rw[r];exact PassesOwn.never⟩ be).e _ b).1
def zNj (h:absV u=some v):RelV v u:=by
 unfold absV at h;split at h<;>first | cases h;rfl | cases h;exact⟨_,rfl⟩ | cases h
theorem zHr:∀ {us:List Value} {vs:List V},us.map absV=vs.map some->Vals vs us
 | [],[],_=>.nil
 | [],_::_,h=>by simp at h
 | _::_,[],h=>by simp at h
 | u::us,v::vs,h=>by
  simp only[map_cons,List.cons.injEq] at h;exact .cons (zNj h.1) (zHr h.2)
def zFs {K:W.Frag}{b:Str->Option Value}{ns:List Int}(m:b x=some (.ref a))(l:K.lookup a=some ⟨.type "tuple",od,.seq its n,sl⟩)
  (h:its.toList.map absV=(ns.map V.int).map some) (d:ns.length<=1000:=by decide):∃ u v,b x=some u/\RelV v u/\Den K (λ_=>none) (.tup (ns.map D.int)) v:=by
 refine⟨_,.ref a,m,rfl,?_⟩;refine⟨a,ns.map V.int,rfl,.inr ⟨_,its,n,l,rfl,rfl,?_,zHr h⟩,DenL.ints ns⟩;have e:=congrArg List.length h;rw[qy,qy,qy] at e;have c:its.size=ns.length:=e;rw[c];exact Nat.le_of_lt ((Nat.lt_of_le_of_lt d (by decide)))
end DL
end
section
namespace DL
open PySem L2
def zHd :evE J (.var i)=varD i:=rfl
def zNL :evE J (.glob n x)=zGb J n x:=rfl
def zQc :evE J (.neg a)=negD (evE J a):=rfl
def zQb :evE J (.not a)=notD (evE J a):=rfl
def zHe :evAnd J (.cons e (.cons a b))=andD (evE J e) (evAnd J (.cons a b)):=rfl
def zJA :evOr J (.cons e (.cons a b))=orD (evE J e) (evOr J (.cons a b)):=rfl
def zQe :evE J (.ite c a b)=iteD (evE J c) (evE J a) (evE J b):=rfl
def zLN :evEs J (.cons e es)=zNW (evE J e) (evEs J es):=rfl
def zQa :evE J (.tup es)=tupD (evEs J es):=rfl
def zQd :evE J (.lst es)=lstD (evEs J es):=rfl
def zNM :evE J (.call n f es)=fnD J n f (evEs J es):=rfl
def zOV :evE J (.sl a lo hi)=slD (evE J a) (evO J lo) (evO J hi):=rfl
def zNH :evO J (.cons e u1)=zJ9 (evE J e):=rfl
def zTL :evSs J (.cons a b)=seqD (evS J a) (evSs J b):=rfl
def zTt :evSs J (.frz i r)=seqD (frzD i) (evSs J r):=rfl
def zQR :evS J (.set i e)=setD i (evE J e):=rfl
def zNG :evS J (.setC i e)=setD i (evE J e):=rfl
def zQV :evS J (.app i e)=appD i (evE J e):=rfl
def zQT :evS J (.ife c a b)=ifD (asB (evE J c)) (evSs J a) (evSs J b):=rfl
def zQS :evS J (.ret e)=retD (evE J e):=rfl
def zI9 :evS J (.retOwn i)=zEB i:=rfl
def zTP :evI J (.it e)=zGX (evE J e):=rfl
def zTO :evI J (.r1 a)=zJp (evE J a):=rfl
def zTN :evI J (.r3 a b c)=zJo (evE J a) (evE J b) (evE J c):=rfl
def zLO :evE J (.comp1 n ms u2 src c e)=zJC ms 1 (evI J src) (tg1 n) (evC J c) (evE J e):=rfl
def zQf :evE J (.chn op op' a b c)=chD (cmpD op) (cmpD op') (evE J a) (evE J b) (evE J c):=rfl
def zQU :evS J (.ext i e)=extD i (evE J e):=rfl
def zTu :evE J (.lrev a)=one (evE J a) revD:=rfl
def zDe :evC J .nil=λ_=>some true:=rfl
def EvP {O:Type}(o:Option O)(Q:O->Prop):Prop:=∃ r,o=some r/\Q r
section
variable {O M:Type}{J:Gm}{G:Dst}
def EvP.bind {o:Option O}{f:O->Option M}{Q:M->Prop}(h:EvP o λa=>EvP (f a) Q):EvP (o.bind f) Q:=by
 obtain⟨a,e,b,c,q⟩:=h;exact⟨b,by rw[e];exact c,q⟩
def EvP.eq {o:Option O}{r:O}(h:EvP o λx=>x=r):o=some r:=by
 obtain⟨x,e,rfl⟩:=h;omega
def EvP.imp {o:Option O}{Q a:O->Prop}(h:EvP o Q)(i:∀ x,Q x->a x):EvP o a:=by
 obtain⟨x,e,q⟩:=h;exact⟨x,e,i x q⟩
def CB (b:Bool)(A B:Prop):Prop:=if b=true then A else B
def zA8 [Decidable p](h1:p->A)(h2:¬ p->B):CB (decide p) A B:=by
 unfold CB;grind
def zF0 (h1:b=true->A)(h2:b=false->B):CB b A B:=by
 unfold CB;grind
def cb_t (h:A):CB true A B:=h
def cb_f (h:B):CB false A B:=by assumption
def zIX [Decidable p](a:p)(h:A):CB (decide p) A B:=zA8 (λ_=>h) λn=>absurd a n
def zDp [Decidable p](a:¬ p)(h:B):CB (decide p) A B:=zA8 (λn=>absurd n a) λ_=>h
def zTf (h:CB b B A):CB (!b) A B:=by
 cases b with
 | true=>exact cb_f h
 | false=>exact cb_t (by assumption)
variable {Q:R->Prop}
def zAN (e:G[i]?=some (some (d,false)))(h:Q (d,.cl)):EvP (evE J (.var i) G) Q:=by
 rw[zHd];unfold varD;rw[e];exact⟨_,rfl,h⟩
def zIH (e:G[i]?=some (some (.lst d,o)))(h:Q (.lst d,if o then .dt else .cl)):EvP (evE J (.var i) G) Q:=by
 rw[zHd];unfold varD;rw[e];cases o<;>exact⟨_,rfl,h⟩
def zUr (e:G[i]?=some (some (.lst d,true)))(h:Q (.lst d,.dt)):EvP (evE J (.var i) G) Q:=by
 rw[zHd];unfold varD;rw[e];exact⟨_,rfl,h⟩
def zNA (e:G[i]?=some (some (.fn n x,false)))(a:J.fns[n]?=some (x,F))(h:EvP (evEs J es G) λds=>EvP (F ds) λr=>r.2≠.dt/\Q r):EvP (evE J (.callw i es) G) Q:=by
 obtain⟨y,c,r,b,f,q⟩:=h;refine⟨r,?_,q⟩;show zGn J.fns i _ G=_;unfold zGn;have d:fnvF J.fns n x y=some r:=by unfold fnvF;rw[a];exact(if_pos rfl).trans b
 simp_all
def zNB (e:G[i]?=some (some (.lam j L dl,false)))(c:J.lm[j]?=some (L,F))(h:EvP (evE J a G) λx=>x.2≠.dt/\EvP (F (x.1::dl)) λr=>r.2≠.dt/\Q r):EvP (evE J (.callv i a) G) Q:=by
 obtain⟨x,d,nx,r,b,f,q⟩:=h;refine⟨r,?_,q⟩;show zEi J.lm J.fns i _ G=_;unfold zEi;have g:lamF J.lm j L (x.1::dl)=some r:=by unfold lamF;rw[c];exact(if_pos rfl).trans b
 simp_all
def zCC (e:J.cs[n]?=some (x,d))(h:Q (d,.cl)):EvP (evE J (.glob n x) G) Q:=by
 rw[zNL];unfold zGb;rw[e];exact⟨_,if_pos rfl,h⟩
def zAh (h:Q (.int i,.cl)):EvP (evE J (.int i) G) Q:=⟨_,rfl,h⟩
def zUs (h:Q (.bl b,.cl)):EvP (evE J (.bl b) G) Q:=⟨_,rfl,h⟩
def zTF (h:Q (.non,.cl)):EvP (evE J .non G) Q:=⟨_,rfl,h⟩
def zGd (h:EvP (f G) λx=>EvP (g G) λy=>EvP (o x.1 y.1) Q):EvP (two f g o G) Q:=EvP.bind (h.imp λ_ q=>EvP.bind q)
def zAi (h:EvP (evE J a G) λx=>EvP (evE J b G) λy=>EvP (binD op x.1 y.1) Q):EvP (evE J (.bin op a b) G) Q:=zGd h
def zFB (h:EvP (evE J a G) λx=>EvP (evE J b G) λy=>EvP (cmpD op x.1 y.1) Q):EvP (evE J (.cmp op a b) G) Q:=zGd h
def zC5 (h:EvP (evE J a G) λx=>EvP (evE J b G) λy=>EvP (ixD x.1 y.1) Q):EvP (evE J (.ix a b) G) Q:=zGd h
def zTH (h:EvP (evE J a G) λx=>EvP (evE J b G) λy=>EvP (maxD x.1 y.1) Q):EvP (evE J (.max a b) G) Q:=zGd h
def zLF (h:EvP (evE J a G) λx=>EvP (evE J b G) λy=>EvP (zipD x.1 y.1) Q):EvP (evE J (.lzip a b) G) Q:=zGd h
def zTw (l:xs.length=ys.length/\xs.length<=10000)(h:Q (.lst (zipT xs ys),.fr)):EvP (zipD (.lst xs) (.lst ys)) Q:=⟨_,if_pos l,h⟩
def zFA (h:EvP (f G) λx=>EvP (o x.1) Q):EvP (one f o G) Q:=EvP.bind h
def zEa (h:EvP (evE J a G) λx=>EvP (lenD x.1) Q):EvP (evE J (.len a) G) Q:=zFA h
def zTK (h:EvP (evE J a G) λx=>EvP (absD x.1) Q):EvP (evE J (.abs a) G) Q:=zFA h
def zHb (h:EvP (evE J a G) λx=>EvP (zI1 x.1) Q):EvP (evE J (.list a) G) Q:=zFA h
def zTJ (h:EvP (evE J a G) λx=>EvP (isiF t x.1) Q):EvP (evE J (.isi t a) G) Q:=zFA h
def zUT (h:Q (.bl true,.cl)):EvP (isiF .int (.int i)) Q:=⟨_,rfl,h⟩
def zUU (h:Q (.bl false,.cl)):EvP (isiF .bool (.int i)) Q:=⟨_,rfl,h⟩
def zUR (h:Q (.bl true,.cl)):EvP (isiF .tuple (.tup ds)) Q:=⟨_,rfl,h⟩
def zUS (h:Q (.bl true,.cl)):EvP (isiF .list (.lst ds)) Q:=⟨_,rfl,h⟩
def zTG (h:EvP (evE J a G) λx=>∃ i,x.1=.int i/\Q (.int (-i),.cl)):EvP (evE J (.neg a) G) Q:=by
 obtain⟨⟨d,k⟩,e,i,ei,q⟩:=h;cases ei;rw[zQc];unfold negD;rw[e];exact⟨_,rfl,q⟩
def zFK {f:Dst->Option R}{b:Bool}{k:Kd}(e:f G=some (.bl b,k)):asB f G=some b:=by unfold asB;rw[e]
def zTE (h:EvP (evE J a G) λx=>∃ b,x.1=.bl b/\Q (.bl (!b),.cl)):EvP (evE J (.not a) G) Q:=by
 obtain⟨⟨d,k⟩,e,b,eb,q⟩:=h;cases eb;rw[zQb];unfold notD;rw[zFK e];exact⟨_,rfl,q⟩
def zQO (h:EvP (evAnd J es G) Q):EvP (evE J (.andl es) G) Q:=h
def zTB (h:EvP (evOr J es G) Q):EvP (evE J (.orl es) G) Q:=h
def zHc (h:EvP (evE J e G) Q):EvP (evAnd J (.cons e .nil) G) Q:=h
def zTD (h:EvP (evE J e G) Q):EvP (evOr J (.cons e .nil) G) Q:=h
def zQP (h:EvP (evE J e G) λx=>∃ k,x.1=.bl k/\CB k (EvP (evAnd J (.cons a b) G) Q) (Q (.bl false,.cl))):EvP (evAnd J (.cons e (.cons a b)) G) Q:=by
 obtain⟨⟨d,c⟩,e,k,ek,q⟩:=h;cases ek;rw[zHe];unfold andD;rw[zFK e];cases k with
 | true=>exact q
 | false=>exact⟨_,rfl,by unfold CB at q;exact q⟩
def zTC (h:EvP (evE J e G) λx=>∃ k,x.1=.bl k/\CB k (Q (.bl true,.cl)) (EvP (evOr J (.cons a b) G) Q)):EvP (evOr J (.cons e (.cons a b)) G) Q:=by
 obtain⟨⟨d,c⟩,e,k,ek,q⟩:=h;cases ek;rw[zJA];unfold orD;rw[zFK e];cases k with
 | true=>exact⟨_,rfl,q⟩
 | false =>
  assumption
def zOT (h:EvP (evE J c G) λx=>∃ k,x.1=.bl k/\CB k (EvP (evE J a G) Q) (EvP (evE J b G) Q)):EvP (evE J (.ite c a b) G) Q:=by
 obtain⟨⟨d,f⟩,e,k,ek,q⟩:=h;cases ek;rw[zQe];unfold iteD;rw[zFK e];cases k with
 | true=>exact q
 | false =>
  assumption
def zAn {Q:List D->Prop}(h:Q []):EvP (evEs J .nil G) Q:=⟨_,rfl,h⟩
def zAH {Q:List D->Prop}(h:EvP (evE J e G) λx=>x.2≠.dt/\EvP (evEs J es G) λxs=>Q (x.1::xs)):EvP (evEs J (.cons e es) G) Q:=by
 rw[zLN];obtain⟨x,e,a,xs,b,q⟩:=h;exact⟨_,by unfold zNW;rw[e];show (if x.2=.dt then none else _)=_;rw[if_neg a,b];rfl,q⟩
def zII (h:EvP (evEs J es G) λxs=>xs.length<=10000/\Q (.tup xs,.cl)):EvP (evE J (.tup es) G) Q:=by
 rw[zQa];obtain⟨xs,e,l,q⟩:=h;exact⟨_,by unfold tupD;rw[e];exact if_pos l,q⟩
def zOS (h:EvP (evEs J es G) λxs=>xs.length<=10000/\Q (.lst xs,.fr)):EvP (evE J (.lst es) G) Q:=by
 rw[zQd];obtain⟨xs,e,l,q⟩:=h;exact⟨_,by unfold lstD;rw[e];exact if_pos l,q⟩
def zAL (e:J.fns[n]?=some (f,F))(h:EvP (evEs J es G) λds=>EvP (F ds) λr=>r.2≠.dt/\Q r):EvP (evE J (.call n f es) G) Q:=by
 rw[zNM];unfold fnD;obtain⟨ds,c,r,b,a,q⟩:=h;refine⟨r,?_,q⟩;unfold zJD
 simp_all
def zQM (h:EvP (evE J a G) λx=>EvP (evO J lo G) λl=>EvP (evO J hi G) λu=>∃ ds,x.1=.lst ds/\Q (.lst (cutD ds l u),.fr)):EvP (evE J (.sl a lo hi) G) Q:=by
 rw[zOV];obtain⟨⟨d,k⟩,e,l,e1,u,e2,ds,ed,q⟩:=h;cases ed;exact⟨_,by unfold slD;rw[e];rw[e1];rw[e2];rfl,q⟩
def zTA (h:EvP (evE J a G) λx=>EvP (evO J lo G) λl=>EvP (evO J hi G) λu=>∃ ds,x.1=.tup ds/\¬ (HT.sIx ds.length 0 l=0/\HT.sIx ds.length ds.length u=ds.length)/\Q (.tup (cutD ds l u),.cl)):EvP (evE J (.sl a lo hi) G) Q:=by
 rw[zOV];obtain⟨⟨d,k⟩,e,l,e1,u,e2,ds,ed,nw,q⟩:=h;cases ed;exact⟨_,by unfold slD;rw[e];rw[e1];rw[e2];exact if_neg nw,q⟩
def zOX {Q:Option Int->Prop}(h:Q none):EvP (evO J .nil G) Q:=⟨_,rfl,h⟩
def zLR {Q:Option Int->Prop}(h:EvP (evE J e G) λx=>∃ i,x.1=.int i/\Q (some i)):EvP (evO J (.cons e b) G) Q:=by
 rw[zNH];obtain⟨⟨d,k⟩,e,i,ei,q⟩:=h;cases ei;exact⟨_,by unfold zJ9;rw[e],q⟩
def zJE (h:Q (.int (i+j),.cl)):EvP (binD .Add (.int i) (.int j)) Q:=⟨_,rfl,h⟩
def zNf (l:xs.length+ys.length<=10000)(h:Q (.lst (xs++ys),.fr)):EvP (binD .Add (.lst xs) (.lst ys)) Q:=⟨_,if_pos l,h⟩
def zTj (h:Q (.int (i - j),.cl)):EvP (binD .Sub (.int i) (.int j)) Q:=⟨_,rfl,h⟩
def zBC (l:IntMulOk i j)(h:Q (.int (i*j),.cl)):EvP (binD .Mult (.int i) (.int j)) Q:=⟨_,by show mulD i j=_;exact if_pos l,h⟩
def zCP (l:zJJ i j)(h:Q (.int (i.fdiv j),.cl)):EvP (binD .FloorDiv (.int i) (.int j)) Q:=⟨_,by show zQI i j=_;exact if_pos l,h⟩
def zBD (l:j≠0)(h:Q (.int (i.fmod j),.cl)):EvP (binD .Mod (.int i) (.int j)) Q:=⟨_,if_neg l,h⟩
def c_lt (h:Q (.bl (decide (i < j)),.cl)):EvP (cmpD .Lt (.int i) (.int j)) Q:=⟨_,rfl,h⟩
def c_le (h:Q (.bl (decide (i<=j)),.cl)):EvP (cmpD .LtE (.int i) (.int j)) Q:=⟨_,rfl,h⟩
def c_gt (h:Q (.bl (decide (j < i)),.cl)):EvP (cmpD .Gt (.int i) (.int j)) Q:=⟨_,rfl,h⟩
def zTv (i j:Int):EqOk (.int i) (.int j):=⟨by rfl,by rw[toPy];rfl,by rw[toPy];exact zero_le _⟩
def zUt (i j:Int):eqb (.int i) (.int j)=decide (i=j):=rfl
def zTg (h:Q (.bl (decide (i=j)),.cl)):EvP (cmpD .Eq (.int i) (.int j)) Q:=⟨_,by show eqD id _ _=_;rfl,h⟩
def c_eq (l:EqOk x y)(h:Q (.bl (eqb x y),.cl)):EvP (cmpD .Eq x y) Q:=⟨_,by show eqD id _ _=_;exact if_pos l,h⟩
def c_ne (l:EqOk x y)(h:Q (.bl (!eqb x y),.cl)):EvP (cmpD .NotEq x y) Q:=⟨_,by show eqD _ _ _=_;exact if_pos l,h⟩
def zDJ (e:atI ds i=some d)(h:Q (d,.cl)):EvP (ixD (.tup ds) (.int i)) Q:=⟨_,by show (atI ds i).map _=_;rw[e];rfl,h⟩
def zA5 (e:atI ds i=some d)(h:Q (d,.cl)):EvP (ixD (.lst ds) (.int i)) Q:=⟨_,by show (atI ds i).map _=_;rw[e];rfl,h⟩
def zSC (h:Q (.int ds.length,.cl)):EvP (lenD (.lst ds)) Q:=⟨_,rfl,h⟩
def zUw (h:Q (.int (i.natAbs:Int),.cl)):EvP (absD (.int i)) Q:=⟨_,rfl,by
 have e:(if i < 0 then -i else i)=(i.natAbs:Int):=by split<;>omega
 rw[e];exact h⟩
def zNv (h:Q (.lst ds,.fr)):EvP (zI1 (.lst ds)) Q:=⟨_,rfl,h⟩
def zUJ (h:Q (.int (max i j),.cl)):EvP (maxD (.int i) (.int j)) Q:=⟨_,rfl,by
 have e:(if j>i then j else i)=max i j:=by split<;>omega
 rw[e];exact h⟩
end
section
variable {J:Gm}{G:Dst}{Q:Out->Prop}
def Kt (J:Gm)(rest:S)(Q:Out->Prop):Out->Prop
 | .nx G'=>EvP (evSs J rest G') Q
 | o=>Q o
def k_nx (h:EvP (evSs J rest G) Q):Kt J rest Q (.nx G):=h
def k_rt (h:Q (.rt r)):Kt J rest Q (.rt r):=h
def zDo (h:Q (.nx G)):EvP (evSs J .nil G) Q:=⟨_,rfl,h⟩
theorem zLC (h:EvP (f G) λo=>match o with | .nx G'=>EvP (g G') Q | o=>Q o):EvP (seqD f g G) Q:=by
 obtain⟨o,e,q⟩:=h;unfold seqD;rw[e];cases o with
 | nx G'=>exact q
 | rt r=>exact⟨_,rfl,q⟩
 | bk G'=>exact⟨_,rfl,q⟩
 | ct G'=>exact⟨_,rfl,q⟩
def zAG (h:EvP (evS J a G) (Kt J b Q)):EvP (evSs J (.cons a b) G) Q:=by
 refine zLC (h.imp λo q=>?_)
 assumption
def zIG (e:G[i]?=some (some (d,true)))(h:EvP (evSs J r (G.set i (some (d,false)))) Q):EvP (evSs J (.frz i r) G) Q:=zLC ⟨_,by unfold frzD;rw[e],h⟩
def zHa (e:G[i]?=some (some (d,false)))(h:EvP (evSs J r G) Q):EvP (evSs J (.frz i r) G) Q:=zLC ⟨_,by unfold frzD;rw[e],h⟩
noncomputable def ownK:Kd->Option Bool
 | .cl=>some false
 | .fr=>some true
 | .dt=>none
def zCc (h:EvP (evE J e G) λr=>∃ o,ownK r.2=some o/\Q (.nx (G.set i (some (r.1,o))))):EvP (evS J (.set i e) G) Q:=by
 rw[zQR];obtain⟨⟨d,k⟩,e,o,eo,q⟩:=h;unfold setD;rw[e];cases k with
 | cl=>cases eo;exact⟨_,rfl,q⟩
 | fr=>cases eo;exact⟨_,rfl,q⟩
 | dt=>cases eo
def zHf (h:EvP (evE J e G) λr=>∃ o,ownK r.2=some o/\Q (.nx (G.set i (some (r.1,o))))):EvP (evS J (.setC i e) G) Q:=by
 rw[zNG];obtain⟨⟨d,k⟩,e,o,eo,q⟩:=h;unfold setD;rw[e];cases k with
 | cl=>cases eo;exact⟨_,rfl,q⟩
 | fr=>cases eo;exact⟨_,rfl,q⟩
 | dt=>cases eo
def zIL (a:G[i]?=some (some (.lst xs,true)))(b:xs.length<=10000)(h:EvP (evE J e G) λr=>r.2≠.dt/\Q (.nx (G.set i (some (.lst (xs++[r.1]),true))))):EvP (evS J (.app i e) G) Q:=by
 rw[zQV];obtain⟨r,e,c,q⟩:=h;unfold appD;rw[a];exact⟨_,by dsimp only;rw[e];show (if r.2=.dt then none else _)=_;rw[if_neg c,if_pos b],q⟩
def zIK (h:EvP (evE J c G) λx=>∃ k,x.1=.bl k/\CB k (EvP (evSs J a G) Q) (EvP (evSs J b G) Q)):EvP (evS J (.ife c a b) G) Q:=by
 rw[zQT];obtain⟨⟨d,f⟩,e,k,ek,q⟩:=h;cases ek;unfold ifD;rw[zFK e];cases k with
 | true=>exact q
 | false =>
  assumption
def zBo (h:EvP (evE J e G) λr=>r.2≠.dt/\Q (.rt r)):EvP (evS J (.ret e) G) Q:=by
 rw[zQS];obtain⟨r,e,a,q⟩:=h;exact⟨_,by unfold retD;rw[e];exact if_neg a,q⟩
def zLP (e:G[i]?=some (some (.lst d,true)))(h:Q (.rt (.lst d,.fr))):EvP (evS J (.retOwn i) G) Q:=by
 rw[zI9];exact⟨_,by unfold zEB;rw[e],h⟩
theorem zB6 (h:EvP (c G) λk=>CB k (EvP (b G) λo=>match o with
      | .nx G'=>EvP (zBV c b G') Q
      | .ct G'=>EvP (zBV c b G') Q
      | .bk G'=>Q (.nx G')
      | .rt r=>Q (.rt r)) (Q (.nx G))):EvP (zBV c b G) Q:=by
  obtain⟨k,ek,q⟩:=h;cases k with
  | false =>
    unfold CB at q;rw[if_neg qX] at q;refine⟨_,zCQ (n:=1) (o:=.nx G) ?_,q⟩;show (c G).bind _=_;rw[ek];rfl
  | true =>
    obtain⟨o,eo,q⟩:EvP (b G) _:=q;cases o with
    | nx G' =>
      obtain⟨z,ez,q⟩:=q;obtain⟨n,en⟩:=zDP ez;refine⟨z,zCQ (n:=n+1) ?_,q⟩;show (c G).bind _=_;rw[ek,qx,if_pos rfl,eo];exact en
    | ct G' =>
      obtain⟨z,ez,q⟩:=q;obtain⟨n,en⟩:=zDP ez;refine⟨z,zCQ (n:=n+1) ?_,q⟩;show (c G).bind _=_;rw[ek,qx,if_pos rfl,eo];exact en
    | bk G' =>
      refine⟨_,zCQ (n:=1) (o:=.nx G') ?_,q⟩;show (c G).bind _=_;rw[ek,qx,if_pos rfl,eo];rfl
    | rt r =>
      refine⟨_,zCQ (n:=1) (o:=.rt r) ?_,q⟩;show (c G).bind _=_;rw[ek,qx,if_pos rfl,eo];rfl
def zOW (h:EvP (zBV (asB (evE J c)) (evSs J b) G) Q):EvP (evS J (.whl c b) G) Q:=h
def as_b {Q:Bool->Prop}(h:EvP (evE J c G) λx=>∃ k,x.1=.bl k/\Q k):EvP (asB (evE J c) G) Q:=by
 obtain⟨⟨d,a⟩,e,k,ek,q⟩:=h;cases ek;exact⟨k,zFK e,q⟩
def zFw (h:EvP (evI J it G) λxs=>EvP (forD (tg1 i) (evSs J b) xs G) Q):EvP (evS J (.for1 i it b) G) Q:=EvP.bind h
def zJc {Q:List D->Prop}(h:EvP (evE J e G) λx=>∃ ds,x.2≠.dt/\(x.1=.lst ds\/x=(.tup ds,.cl))/\Q ds):EvP (evI J (.it e) G) Q:=by
 obtain⟨⟨d,k⟩,e,ds,nd,ed,q⟩:=h;refine⟨ds,?_,q⟩;rw[zTP];unfold zGX;rw[e];rcases ed with ed | ed
 .cases ed;cases k with
  | cl=>rfl
  | fr=>rfl
  | dt=>exact absurd rfl nd
 .simp_all
def w_cl {P:List D->Prop}(h:P ds):∃ d,((D.lst ds,Kd.cl):R).2≠.dt/\(((D.lst ds,Kd.cl):R).1=.lst d\/((D.lst ds,Kd.cl):R)=(.tup d,.cl))/\P d:=by simp_all
def w_fr {P:List D->Prop}(h:P ds):∃ d,((D.lst ds,Kd.fr):R).2≠.dt/\(((D.lst ds,Kd.fr):R).1=.lst d\/((D.lst ds,Kd.fr):R)=(.tup d,.cl))/\P d:=by simp_all
def w_tu {P:List D->Prop}(h:P ds):∃ d,((D.tup ds,Kd.cl):R).2≠.dt/\(((D.tup ds,Kd.cl):R).1=.lst d\/((D.tup ds,Kd.cl):R)=(.tup d,.cl))/\P d:=by simp_all
def zMC {Q:List D->Prop}(h:EvP (evE J a G) λx=>∃ j,x.1=.int j/\(-(2^62)<=j/\j < 2^62)/\Q (rngL 0 j.toNat)):EvP (evI J (.r1 a) G) Q:=by
 obtain⟨⟨d,k⟩,e,j,ej,hj,q⟩:=h;cases ej;refine⟨_,?_,q⟩;rw[zTO];unfold zJp;rw[e];exact if_pos hj
def zRB {Q:List D->Prop}(h:EvP (evE J a G) λx=>EvP (evE J b G) λy=>EvP (evE J c G) λz=>∃ i j k,x.1=.int i/\y.1=.int j/\z.1=.int k/\ROk i j k/\Q (rngS i k (Builtin.Range.rangeSize i j k).toNat)):EvP (evI J (.r3 a b c) G) Q:=by
 obtain⟨⟨d,k⟩,e,⟨d2,k2⟩,e2,⟨d3,k3⟩,e3,i,j,l,ei,ej,el,hj,q⟩:=h;refine⟨_,?_,q⟩;rw[zTN];unfold zJo
 simp_all
def zCq {Q:R->Prop}(h:EvP (evI J src G) λzs=>zs.length<=10000/\EvP (zCt (tg1 n) (evC J c) (evE J el) zs (mask none ms G++[none])) λys=>Q (.lst ys,.fr)):EvP (evE J (.comp1 n ms x src c el) G) Q:=by
 obtain⟨zs,e,b,ys,a,q⟩:=h;refine⟨_,?_,q⟩;rw[zLO];unfold zJC
 simp_all
theorem zOd {Q:List D->Prop}(hn:base.length=n)(g:D->D):∀ (zs:List D) (o:Option (D×Bool)),(∀ z∈zs,EvP (evE J el (base++[some (z,false)])) λr=>r.2≠.dt/\r.1=g z)->Q (zs.map g)->EvP (zCt (tg1 n) (evC J .nil) (evE J el) zs (base++[o])) Q
 | [],o,_,h=>⟨_,rfl,h⟩
 | z::zs,o,hz,h=>by
  obtain⟨r,e,nd,er⟩:=hz z q0;obtain⟨ys,e2,q⟩:=zOd hn g zs (some (z,false)) (Q:=λys=>Q (g z::ys)) (λy hy=>hz y (qY _ hy)) h;refine⟨_,?_,q⟩;have es:(base++[o]).set n (some (z,false))=base++[some (z,false)]:=by
   rw[set_append_right _ _ (by omega),hn,sub_self];rfl
  show (tg1 n z (base++[o])).bind _=_;unfold tg1;rw[es,qx,zDe,qx,if_pos rfl,e,qx,if_neg nd,er];show (zCt _ _ _ zs (base++[some (z,false)])).bind _=_;unfold tg1 at e2;rw[zDe] at e2;rw[e2]
  rfl
def zOP (h:Q (.nx G)):EvP (forD t b [] G) Q:=⟨_,rfl,h⟩
def Kf (t:D->Dst->Option Dst)(b:Dst->Option Out)(xs:List D)(Q:Out->Prop):Out->Prop
 | .nx G'=>EvP (forD t b xs G') Q
 | .ct G'=>EvP (forD t b xs G') Q
 | .bk G'=>Q (.nx G')
 | .rt r=>Q (.rt r)
def zK6 (e:t x G=some O5)(h:EvP (b O5) (Kf t b xs Q)):EvP (forD t b (x::xs) G) Q:=by
 obtain⟨o,a,q⟩:=h;cases o with
 | nx d =>
  obtain⟨z,c,q⟩:=q;exact⟨z,by show (t x G).bind _=_;rw[e];show (b O5).bind _=_;rw[a];exact c,q⟩
 | ct d =>
  obtain⟨z,c,q⟩:=q;exact⟨z,by show (t x G).bind _=_;rw[e];show (b O5).bind _=_;rw[a];exact c,q⟩
 | bk d=>exact⟨_,by show (t x G).bind _=_;rw[e];show (b O5).bind _=_;rw[a];rfl,q⟩
 | rt r=>exact⟨_,by show (t x G).bind _=_;rw[e];show (b O5).bind _=_;rw[a];rfl,q⟩
theorem zE9 (I:List D->Dst->Prop)(hs:∀ (x:D) (xs:List D) (G:Dst),I (x::xs) G->∃ O5,t x G=some O5/\EvP (b O5) λo=>match o with
   | .nx G'=>I xs G'
   | .ct G'=>I xs G'
   | .bk G'=>Q (.nx G')
   | .rt r=>Q (.rt r)) (hd:∀ G,I [] G->Q (.nx G)):∀ (xs:List D) (G:Dst),I xs G->EvP (forD t b xs G) Q
 | [],G,h=>zOP (hd G h)
 | x::xs,G,h=>by
  obtain⟨O5,e,q⟩:=hs x xs G h;refine zK6 e (q.imp λo z=>?_);cases o with
  | nx G'=>exact zE9 I hs hd xs G' z
  | ct G'=>exact zE9 I hs hd xs G' z
  | bk G'=>exact z
  | rt r=>exact z
def Kd' (Q:R->Prop):Out->Prop
 | .rt r=>Q r
 | .nx _=>Q (.non,.cl)
 | _=>False
def zQL {Q:R->Prop}(h1:ds.length=np)(h2:np<=nN)(h:EvP (evSs J b (ds.map (λd=>some (d,false))++List.replicate (nN - np) none)) (Kd' Q)):EvP (dFun np nN (evSs J b) ds) Q:=by
 unfold dFun;rw[if_pos ⟨h1,h2⟩];obtain⟨o,e,q⟩:=h;rw[e];cases o with
 | rt r=>exact⟨_,rfl,q⟩
 | nx _=>exact⟨_,rfl,q⟩
 | bk _=>exact q.elim
 | ct _=>exact q.elim
def zUO {Q:R->Prop}(h:Q r):Kd' Q (.rt r):=h
end
section
variable {J:Gm}{G:Dst}{Q:R->Prop}
def zOU (h:EvP (evE J a G) λx=>EvP (evE J b G) λy=>EvP (cmpD op x.1 y.1) λr=>∃ k,r.1=.bl k/\CB k (EvP (evE J c G) λz=>EvP (cmpD op' y.1 z.1) Q) (Q (.bl false,.cl))):EvP (evE J (.chn op op' a b c) G) Q:=by
 rw[zQf];obtain⟨x,f,y,e,⟨d,g⟩,er,k,ek,q⟩:=h;cases ek;unfold chD;rw[f,e];show EvP (match cmpD op x.1 y.1 with | some (.bl true,_)=>(evE J c G).bind λz=>cmpD op' y.1 z.1 | some (.bl false,_)=>some _ | _=>none) Q;rw[er];cases k with
 | true=>exact EvP.bind q
 | false=>unfold CB at q;exact⟨_,rfl,q⟩
def zLE (h:EvP (evE J a G) λx=>EvP (zGD x.1) Q):EvP (evE J (.tupl a) G) Q:=zFA h
def zQ0 (h:Q (.tup ds,.cl)):EvP (zGD (.lst ds)) Q:=⟨_,rfl,h⟩
end
def zTQ (c:G[i]?=some (some (.lst xs,true)))(h:EvP (evE J e G) λr=>∃ ys,r=(.lst ys,.fr)/\xs.length+ys.length<=10000/\Q (.nx (G.set i (some (.lst (xs++ys),true))))):EvP (evS J (.ext i e) G) Q:=by
 rw[zQU];obtain⟨r,a,ys,rfl,b,q⟩:=h;refine⟨_,?_,q⟩;unfold extD;rw[c,a];exact if_pos b
def zQN (h:EvP (evE J a G) λx=>∃ xs,x.1=.lst xs/\xs.length<=10000/\Q (.lst xs.reverse,.fr)):EvP (evE J (.lrev a) G) Q:=by
 obtain⟨x,e,xs,b,c,q⟩:=h;refine zFA ⟨x,e,_,?_,q⟩;rw[b];exact if_pos c
end DL
end
section
namespace DM
noncomputable def msr (t b:Int):Int:=if b < 0 then -(Int.gcd t b:Int) else (Int.gcd t b:Int)
def zKV (a:b≠0):msr t b≠0:=by
 unfold msr;have h:Int.gcd t b≠0:=λh=>a (Int.gcd_eq_zero_iff.mp h).2
 omega
def zGS (t b:Int):msr t b∣t:=by
 unfold msr;split
 .exact Int.neg_dvd.mpr (Int.gcd_dvd_left ..)
 .exact Int.gcd_dvd_left ..
def zKW (t b:Int):msr t b∣b:=by
 unfold msr;split
 .exact Int.neg_dvd.mpr (Int.gcd_dvd_right ..)
 .exact Int.gcd_dvd_right ..
def zC4 {b:Int}(h:b∣a):a.fdiv b=a / b:=Int.fdiv_eq_ediv_of_dvd h
def zHP (a:b≠0):t.fdiv (msr t b)=(Rat.divInt t b).num:=by
 rw[zC4 (zGS t b),Rat.num_divInt,Int.gcd_comm b t];unfold msr;by_cases h:b < 0
 .rw [if_pos h,Int.sign_eq_neg_one_of_neg h,Int.ediv_neg,Int.neg_one_mul];rw[Int.neg_ediv_of_dvd (Int.gcd_dvd_left ..)]
 .rw [if_neg h,Int.sign_eq_one_of_pos (by omega),Int.one_mul]
def zKX (a:b≠0):b.fdiv (msr t b)=((Rat.divInt t b).den:Int):=by
 rw[zC4 (zKW t b),Rat.den_divInt,Int.gcd_comm b t];unfold msr;by_cases h:b < 0
 .rw [if_pos h,Int.ediv_neg,<- Int.neg_ediv_of_dvd (Int.gcd_dvd_right ..)];grind
 .grind
def zTY (t b:Int)(a:b≠0):(Rat.divInt t b).den<=b.natAbs:=by
 rw[Rat.den_divInt,if_neg a];exact Nat.div_le_self _ _
def zRu (t b:Int)(a:b≠0):(Rat.divInt t b).num.natAbs<=t.natAbs:=by
 rw[<- zHP a,zC4 (zGS t b)];exact Int.natAbs_ediv_le_natAbs _ _
def zUu (a:b≠0)(q:Rat):q=Rat.divInt t b<->q.num*b=t*(q.den:Int):=by
 constructor
 .intro h;have e:=Rat.num_divInt_den q;rw[h] at e;rw[h];have z:((Rat.divInt t b).den:Int)≠0:=by
   have:=(Rat.divInt t b).den_nz;omega
  exact(Rat.divInt_eq_divInt_iff z a).mp e
 .intro h;rw[<- Rat.num_divInt_den q];have z:(q.den:Int)≠0:=by
   have:=q.den_nz;omega
  exact(Rat.divInt_eq_divInt_iff z a).mpr h
def zID (d:0<=a)(c:0 < b):Int.gcd b (a.fmod b)=Int.gcd a b:=by
 rw[Int.fmod_eq_emod_of_nonneg a (by omega)];have h1:(a%b).natAbs=a.natAbs%b.natAbs:=by
  grind
 show Nat.gcd b.natAbs (a%b).natAbs=Nat.gcd a.natAbs b.natAbs;rw[h1,Nat.gcd_comm b.natAbs,<- Nat.gcd_rec,Nat.gcd_comm]
noncomputable def nadd:List Rat->List Rat
 | a::b::r=>(a+b)::nadd r
 | l=>l
noncomputable def sumR:List Rat->Rat
 | []=>0
 | a::r=>a+sumR r
theorem zH6:∀ l:List Rat,sumR (nadd l)=sumR l
 | []=>rfl
 | [_]=>rfl
 | a::b::r=>by simp only[nadd,sumR,zH6 r,Rat.add_assoc]
theorem zH7:∀ l:List Rat,(nadd l).length=(l.length+1) / 2
 | []=>by simp[nadd]
 | [_]=>by simp[nadd]
 | a::b::r=>by simp only[nadd,xX,zH7 r];omega
theorem zKT:∀ l:List Rat,(List.range (l.length / 2)).map (λi=>l.getD (2*i) 0+l.getD (2*i+1) 0)++(if l.length%2=1 then [l.getD (l.length - 1) 0] else [])=nadd l
 | []=>by simp[nadd]
 | [a]=>by simp[nadd]
 | a::b::r=>by
  have e1:(a::b::r).length / 2=r.length / 2+1:=by simp only[xX];omega
  have e2:(a::b::r).length%2=r.length%2:=by simp only[xX];omega
  rw[e1,e2,List.range_succ_eq_map,map_cons,map_map,nadd,<- zKT r];have e3:((λi=>(a::b::r).getD (2*i) 0+(a::b::r).getD (2*i+1) 0)∘Nat.succ)=λi=>r.getD (2*i) 0+r.getD (2*i+1) 0:=by
   funext i;simp only[Function.comp];rw[show 2*(i.succ)=2*i+1+1 by omega];simp only[List.getD_cons_succ]
  rw[e3];have e4:r.length%2=1->(a::b::r).getD ((a::b::r).length - 1) 0=r.getD (r.length - 1) 0:=λh=>by
   rw[show (a::b::r).length - 1=(r.length - 1)+1+1 by simp only[xX];omega];simp only[List.getD_cons_succ]
  by_cases h:r.length%2=1
  .rw [if_pos h,if_pos h,e4 h];rfl
  .rw [if_neg h,if_neg h];rfl
abbrev Pt:=Rat×Rat
noncomputable def rot {O:Type}(ps:List O):List O:=ps.drop 1++ps.take 1
noncomputable def zGJ (ps:List Pt):List (Pt×Pt):=ps.zip (rot ps)
def zJn {O:Type}(ps:List O):(rot ps).length=ps.length:=by
 unfold rot;grind
def zJh (ps:List Pt):(zGJ ps).length=ps.length:=by
 unfold zGJ;rw[List.length_zip,zJn,Nat.min_self]
def zJg (h:s∈zGJ ps):s.1∈ps/\s.2∈ps:=by
 obtain⟨h1,h2⟩:=of_mem_zip h;unfold rot at h2;grind
abbrev Ln:=Rat×Rat×Rat
noncomputable def hq (L:Ln)(p:Pt):Rat:=L.1*p.1+L.2.1*p.2 - L.2.2
def zTc (u v:Rat):Prop:=(0 < u/\v < 0)\/(u < 0/\0 < v)
noncomputable instance (u v:Rat):Decidable (zTc u v):=inferInstanceAs (Decidable (_\/_))
end DM
end
section
namespace DL
open PySem L2
def Bd (n:Nat)(i:Int):Prop:=i.natAbs < 2^n
def zF5 (h:Bd n i):Builtin.Int.intBits i<=n:=by
 unfold Builtin.Int.intBits;split
 .simp
 .rename_i b;have a:i.natAbs≠0:=by
   grind
  exact(Nat.log2_lt a).mpr h
def zEJ (h:j.natAbs < 2^64):IntMulOk i j:=IntMulOk.of_right (zF5 h)
def zCX (h:i.natAbs < 2^64):IntMulOk i j:=IntMulOk.of_left (zF5 h)
def Bd.mono (h:Bd m i)(l:m<=n):Bd n i:=xj h (Nat.pow_le_pow_right (by decide) l)
def zBr (h1:Bd m i)(h2:Bd n j):Bd (m+n) (i*j):=by
 unfold Bd at *;rw[Int.natAbs_mul,Nat.pow_add];exact Nat.mul_lt_mul'' h1 h2
def zHz (m n:Nat):2^m+2^n<=2^(Nat.max m n+1):=by
 have h1:2^m<=2^Nat.max m n:=Nat.pow_le_pow_right (by simp) (Nat.le_max_left m n);have h2:2^n<=2^Nat.max m n:=Nat.pow_le_pow_right (by simp) (Nat.le_max_right m n);omega
def zTi (h1:Bd m i)(h2:Bd n j):Bd (Nat.max m n+1) (i+j):=by
 unfold Bd at *;have:=zHz m n;have:=Int.natAbs_add_le i j;omega
def zTh (h1:Bd m i)(h2:Bd n j):Bd (Nat.max m n+1) (i - j):=by
 unfold Bd at *;have:=zHz m n;have:=Int.natAbs_sub_le i j;omega
noncomputable def ratD (q:Rat):D:=.tup [.int q.num,.int (q.den:Int)]
structure RB (n:Nat)(q:Rat):Prop where
 num:Bd n q.num
 den:Bd n (q.den:Int)
def RB.mono (h:RB m q)(l:m<=n):RB n q:=⟨h.num.mono l,h.den.mono l⟩
def zEw (a:b≠0)(h1:Bd n t)(h2:Bd n b):RB n (Rat.divInt t b) :=
 ⟨Nat.lt_of_le_of_lt (DM.zRu t b a) h1,Nat.lt_of_le_of_lt (by simpa using DM.zTY t b a) h2⟩
def zBE (q:Rat):(q.den:Int)≠0:=by have:=q.den_nz;omega
def zQj (q:Rat):(0:Int) < (q.den:Int):=by have:=q.den_nz;omega
def zOg (p q:Rat):p+q=Rat.divInt (p.num*q.den+q.num*p.den) (p.den*q.den):=by
 have:=Rat.divInt_add_divInt p.num q.num (zBE p) (zBE q)
 simp_all
def zNw (p q:Rat):p - q=Rat.divInt (p.num*q.den - q.num*p.den) (p.den*q.den):=by
 have:=Rat.divInt_sub_divInt p.num q.num (zBE p) (zBE q)
 simp_all
def zOF (p q:Rat):p*q=Rat.divInt (p.num*q.num) (p.den*q.den):=by
 have:=Rat.divInt_mul_divInt p.num q.num (d₁:=p.den) (d₂:=q.den)
 simp_all
def zOa (p q:Rat):p / q=Rat.divInt (p.num*q.den) (p.den*q.num):=by
 have e:q⁻¹=Rat.divInt q.den q.num:=by
  conv=>lhs;rw[<- Rat.num_divInt_den q,Rat.inv_divInt]
 rw[Rat.div_def];have:=Rat.divInt_mul_divInt p.num (q.den:Int) (d₁:=p.den) (d₂:=q.num)
 simp_all
def zDk {a b:Int}(h1:a≠0)(h2:b≠0):a*b≠0:=Int.mul_ne_zero h1 h2
def zCL (h1:RB m p)(h2:RB n q):RB (m+n+1) (p+q):=by
 rw[zOg];refine zEw (zDk (zBE p) (zBE q)) ?_ ((zBr h1.den h2.den).mono (by omega));refine(zTi (zBr h1.num h2.den) (zBr h2.num h1.den)).mono ?_;grind
def zCv (h1:RB m p)(h2:RB n q):RB (m+n+1) (p - q):=by
 rw[zNw];refine zEw (zDk (zBE p) (zBE q)) ?_ ((zBr h1.den h2.den).mono (by omega));refine(zTh (zBr h1.num h2.den) (zBr h2.num h1.den)).mono ?_;grind
def zAo (h1:RB m p)(h2:RB n q):RB (m+n) (p*q):=by
 rw[zOF];exact zEw (zDk (zBE p) (zBE q)) (zBr h1.num h2.num) (zBr h1.den h2.den)
def zOE {q:Rat}(h:q≠0):q.num≠0:=by simp_all
def zJu (hq:q≠0)(h1:RB m p)(h2:RB n q):RB (m+n) (p / q):=by
 rw[zOa];exact zEw (zDk (zBE p) (zOE hq)) (zBr h1.num h2.den) (zBr h1.den h2.num)
def zHx (h:Bd n i)(h1:1<=n):RB n (i:Rat):=by
 refine⟨?_,?_⟩
 .simp_all
 .show ((i:Rat).den:Int).natAbs < 2^n;exact Nat.one_lt_two_pow (by omega)
noncomputable def zPU:S:=.cons (.whl (.cmp .Gt (.var 1) (.int 0)) (.cons (.set 2 (.bin .Mod (.var 0) (.var 1))) (.cons (.set 0 (.var 1)) (.cons (.set 1 (.var 2)) .nil)))) (.cons (.ret (.var 0)) .nil)
def x_bl {P:Bool->Prop}(h:P b):∃ c,((D.bl b,k):R).1=.bl c/\P c:=⟨b,rfl,h⟩
def zTx {P:Int->Prop}(h:P i):∃ j,((D.int i,k):R).1=.int j/\P j:=⟨i,rfl,h⟩
def x_cl {P:Bool->Prop}(h:P false):∃ o,ownK ((d,Kd.cl):R).2=some o/\P o:=⟨false,rfl,h⟩
def x_fr {P:Bool->Prop}(h:P true):∃ o,ownK ((d,Kd.fr):R).2=some o/\P o:=⟨true,rfl,h⟩
def n_cl (h:P):((d,Kd.cl):R).2≠.dt/\P:=by grind
def n_fr (h:P):((d,Kd.fr):R).2≠.dt/\P:=by grind
def y_l {P:List D->Prop}(h:P ds):∃ d,((D.lst ds,k):R).1=.lst d/\P d:=⟨ds,rfl,h⟩
def zUV (h:Q (.int q.num,.cl)):EvP (ixD (ratD q) (.int 0)) Q:=zDJ rfl h
def zUW (h:Q (.int (q.den:Int),.cl)):EvP (ixD (ratD q) (.int 1)) Q:=zDJ rfl h
end DL
end
open PySem L2 DL
open PySem L2 DL
local macro_rules | `(tactic| walk_at "s")=>`(tactic| simp only [List.set_cons_zero,List.set_cons_succ])
local macro_rules | `(tactic| walk_at "ev")=>`(tactic| first
 | ((with_reducible show EvP (evE _ (DL.E.var _) _) _);first | refine zAN rfl ?_ | refine zUr rfl ?_)
 | (with_reducible first $[| refine $(#[`zAh,`zUs,`zAi,`zFB,`zC5,`zII,`zOS,`zEa,`zTK,`zTG,`zTE,`zTJ,`zUT,`zUU,`zUR,`zUS,`zQO,`zTB,`zHc,`zQP,`zTD,`zTC,`zOT,`zAn,`zAH,`zHb,`zTH,`zQM,`zOX,`zLR,`zTF,`zJE,`zTj,`c_lt,`c_le,`c_gt,`zTg,`zUV,`zUW,`zSC,`zUw,`zNv,`zUJ,`zDo,`zAG,`zCc,`zHf,`zIK,`zBo,`zOW,`zFw,`zJc,`zMC,`zRB,`zCq,`zLF,`w_cl,`w_fr,`w_tu].map Lean.mkIdent) ?_]*) | ((with_reducible refine k_nx ?_);try (walk_at "s")) | (with_reducible first | refine k_rt ?_ | refine zUO ?_ | refine y_l ?_ | refine zOP ?_) | ((with_reducible refine kf_nx ?_);try (walk_at "s")) | (with_reducible first | refine cb_t ?_ | refine cb_f ?_ | refine zTf ?_ | refine x_bl ?_ | refine zTx ?_ | refine x_cl ?_ | refine x_fr ?_ | refine n_cl ?_ | refine n_fr ?_)
 | ((with_reducible show EvP (forD (tg1 _) _ (_::_) _) _);refine zK6 rfl ?_;try (walk_at "s")) | ((with_reducible show EvP (ixD (DL.D.lst (_::_)) (DL.D.int _)) _);refine zA5 rfl ?_)
 | ((with_reducible show List.length _<=10000/\_);refine⟨zzb rfl,?_⟩) | ((with_reducible show EvP (evE _ (DL.E.call _ _ _) _) _);refine zAL rfl ?_) | ((with_reducible show EvP (evE _ (DL.E.lend _ _ _) _) _);refine ev_lend rfl ?_) | ((with_reducible show EvP (evE _ (DL.E.glob _ _) _) _);refine zCC rfl ?_)
 | ((with_reducible show EvP (ixD (DL.D.tup _) (DL.D.int _)) _);refine zDJ rfl ?_) | ((with_reducible show EvP (evS _ (DL.S.retOwn _) _) _);refine zLP rfl ?_) | ((with_reducible show EvP (evSs _ (DL.S.frz _ _) _) _);first | refine zHa rfl ?_ | (refine zIG rfl ?_;try (walk_at "s"))))
local macro_rules | `(tactic| walk_at "st")=>`(tactic| simp only [map_cons,map_nil,cons_append,nil_append,replicate_succ,List.replicate_zero,Nat.reduceSub,append_nil,List.replicate])
open PySem L2 DL
local macro_rules | `(tactic| walk_at "w")=>`(tactic| (repeat walk_at "ev"))
open PySem L2 DL
local macro_rules | `(tactic| walk_at "d")=>`(tactic| refine zQL rfl (by decide) ?_)
section
namespace DL
open PySem L2
def zKY :∀ (n:Nat) (a b:Int) (r:Option (D×Bool)),b.toNat<=n->0<=a->0<=b->(∀ r',Q (.nx [some (.int (Int.gcd a b:Int),false),some (.int 0,false),r'])) ->
  EvP (zBV (asB (evE J (.cmp .Gt (.var 1) (.int 0)))) (evSs J (.cons (.set 2 (.bin .Mod (.var 0) (.var 1))) (.cons (.set 0 (.var 1)) (.cons (.set 1 (.var 2)) .nil)))) [some (.int a,false),some (.int b,false),r]) Q:=by
 intro n
 induction n with
 | zero =>
  intro a b r g c d q;have e:b=0:=by omega
  subst e;refine zB6 (as_b ?_);(walk_at "w");refine zDp (Int.lt_irrefl 0) ?_;have:(Int.gcd a 0:Int)=a:=by rw[Int.gcd_zero_right];omega
  rw[this] at q;exact q r
 | succ n f =>
  intro a b r g c d q;by_cases e:b=0
  .subst e;refine zB6 (as_b ?_);(walk_at "w");refine zDp (Int.lt_irrefl 0) ?_;have:(Int.gcd a 0:Int)=a:=by rw[Int.gcd_zero_right];omega
   rw[this] at q;exact q r
  .refine zB6 (as_b ?_);(walk_at "w");refine zIX (show 0 < b by omega) ?_;(walk_at "w");refine zBD e ?_;(walk_at "w");have h1:=xQ a (show 0 < b by omega);have h2:=fmod_lt_of_pos a (show 0 < b by omega);refine f b (a.fmod b) (some (.int (a.fmod b),false)) (by omega) d h1 λr'=>?_
   rw[DM.zID c (by omega)];exact q r'
def zPT (e:0<=a)(c:0<=b)(h:Q (.int (Int.gcd a b:Int),.cl)):EvP (dFun 2 3 (evSs J zPU) [.int a,.int b]) Q:=by
 (walk_at "d");unfold zPU
 walk_at "ev"
 refine zKY b.toNat a b none (le_refl _) e c λr'=>?_
 (walk_at "w");omega
noncomputable def zJK:S:=.cons (.ret (.andl (.cons (.isi .int (.var 0)) (.cons (.not (.isi .bool (.var 0))) .nil)))) .nil
def zL4 (h:Q (.bl true,.cl)):EvP (dFun 1 1 (evSs J zJK) [.int i]) Q:=by
 refine zQL rfl (by simp) ?_;unfold zJK
 repeat walk_at "ev"
 exact h
def zTm (F:List D->Option R):Prop:=∀ (i:Int) (Q:R->Prop),Q (.bl true,.cl)->EvP (F [.int i]) Q
def zQt (F:List D->Option R):Prop:=∀ (a b:Int) (Q:R->Prop),0<=a->0<=b->Q (.int (Int.gcd a b:Int),.cl)->EvP (F [.int a,.int b]) Q
noncomputable def zOm (nm:Nat)(f:Str):S:=.cons (.set 2 (.call nm f (.cons (.abs (.var 0)) (.cons (.abs (.var 1)) .nil)))) (.cons (.ife (.cmp .Lt (.var 1) (.int 0)) (.cons (.set 2 (.neg (.var 2))) .nil) .nil) (.cons (.ret (.tup (.cons (.bin .FloorDiv (.var 0) (.var 2)) (.cons (.bin .FloorDiv (.var 1) (.var 2)) .nil)))) .nil))
def zQB (t b:Int):((Int.gcd (t.natAbs:Int) (b.natAbs:Int):Nat):Int)=(Int.gcd t b:Int):=rfl
def zPS (a:b≠0)(c:Bd 60000000 b)(i:Int):zJJ i (DM.msr t b):=DM.zKV a
theorem zOl (em:J.fns[nm]?=some (f,Fm))(hm:zQt Fm)(hb:b≠0)(sb:Bd 60000000 b)
  (h:Q (.rt (ratD (Rat.divInt t b),.cl))):EvP (evSs J (zOm nm f) [some (.int t,false),some (.int b,false),x]) Q:=by
 unfold zOm;refine zAG (zCc (zAL em ?_));(walk_at "w");refine hm _ _ _ (Int.natCast_nonneg _) (Int.natCast_nonneg _) ?_;rw[zQB];(walk_at "w");have fin:∀ g:Int,g=DM.msr t b->Q (.rt (.tup [.int (t.fdiv g),.int (b.fdiv g)],.cl)):=λg e=>by
  subst e;rw[DM.zHP hb,DM.zKX hb];exact h
 have dv:∀ g i:Int,g=DM.msr t b->zJJ i g:=λg i e=>by subst e;exact zPS hb sb i
 refine zA8 (λc=>?_) λc=>?_
 .have e:(-(Int.gcd t b:Int))=DM.msr t b:=by unfold DM.msr;rw[if_pos c]
  (walk_at "w");refine zCP (dv _ _ e) ?_;(walk_at "w");refine zCP (dv _ _ e) ?_;(walk_at "w");exact fin _ e
 .have e:(Int.gcd t b:Int)=DM.msr t b:=by unfold DM.msr;rw[if_neg c]
  (walk_at "w");refine zCP (dv _ _ e) ?_;(walk_at "w");refine zCP (dv _ _ e) ?_;(walk_at "w");exact fin _ e
def zFM (F:List D->Option R):Prop:=∀ (t b:Int) (Q:R->Prop),b≠0->Bd 60000000 b->Q (ratD (Rat.divInt t b),.cl)->EvP (F [.int t,.int b]) Q
noncomputable def zNz (nm:Nat)(x:S):S:=.cons (.ife (.cmp .Eq (.var 1) (.int 0)) (.cons x .nil) .nil) (zOm nm "common_measure")
theorem zMJ (em:J.fns[nm]?=some (("common_measure":Str),Fm))(hm:zQt Fm):zFM (dFun 2 3 (evSs J (zNz nm x))):=λt b Q hb sb h=>by
 (walk_at "d");unfold zNz;(walk_at "w");refine zDp hb ?_;(walk_at "w");exact zOl em hm hb sb h
noncomputable def cel (ns:List Int)(k:Int):Int :=
 if k < (ns.length:Int) then ns.getD k.toNat 0 else
  let seed:=if (0:Int) < (ns.length:Int) then k*7919+(ns.getD (k.fmod (ns.length:Int)).toNat 0).fmod 65537 else k*7919
  let some:=(seed*48271).fmod 65537
  ((some*(some+2*k+1)).fdiv 7).fmod 65521
noncomputable def zQl:S:=.cons (.ife (.cmp .Lt (.var 1) (.len (.var 0))) (.cons (.ret (.ix (.var 0) (.var 1))) .nil) .nil) (.cons (.set 2 (.bin .Mult (.var 1) (.int 7919))) (.cons (.ife (.cmp .Gt (.len (.var 0)) (.int 0)) (.cons (.set 2 (.bin .Add (.var 2) (.bin .Mod (.ix (.var 0) (.bin .Mod (.var 1) (.len (.var 0)))) (.int 65537)))) .nil) .nil) (.cons (.set 3 (.bin .Mod (.bin .Mult (.var 2) (.int 48271)) (.int 65537))) (.cons (.ret (.bin .Mod (.bin .FloorDiv (.bin .Mult (.var 3) (.bin .Add (.bin .Add (.var 3) (.bin .Mult (.int 2) (.var 1))) (.int 1))) (.int 7)) (.int 65521))) .nil))))
noncomputable def scr (ns:List Int):D:=.lst (ns.map D.int)
def zNx {ns:List Int}(h0:0<=k)(h1:k < (ns.length:Int)):atI (ns.map D.int) k=some (.int (ns.getD k.toNat 0)):=by
 have a:k=((k.toNat:Nat):Int):=by omega
 have q:atI (ns.map D.int) _=some (.int (ns.getD k.toNat 0)):=zAl (by
  rw[getElem?_map,getD_eq_getElem?_getD,getElem?_eq_getElem (by omega)]
  rfl)
 grind
def zTs (F:List D->Option R):Prop:=∀ (ns:List Int) (k:Int) (Q:R->Prop),0<=k->Q (.int (cel ns k),.cl)->EvP (F [scr ns,.int k]) Q
def zGH (x:Int)(h0:0 < m)(h1:m < 2^64):(x.fmod m).natAbs < 2^64:=by
 have a:=xQ x h0;have b:=fmod_lt_of_pos x h0;omega
def zBh (h:j≠0)(h2:j.natAbs < 2^64):zJJ i j:=h
def zQk :zTs (dFun 2 4 (evSs J zQl)):=λns k Q h0 h=>by
 (walk_at "d");unfold zQl;have f:((ns.map D.int).length:Int)=(ns.length:Int):=by rw[qy]
 refine zAG (zIK (zFB (zAN rfl (zEa (zAN rfl ?_)))));show EvP (lenD (.lst (ns.map D.int))) _;(walk_at "w");rw[f];refine zA8 (λc=>?_) λc=>?_
 .refine zAG (zBo (zC5 (zAN rfl (zAN rfl ?_))));show EvP (ixD (.lst (ns.map D.int)) (.int k)) _;refine zA5 (zNx h0 c) ?_;have e:cel ns k=ns.getD k.toNat 0:=by unfold cel;rw[if_pos c]
  rw[e] at h;(walk_at "w");exact h
 .unfold cel at h;rw[if_neg c] at h;(walk_at "w");refine zBC (zEJ (by decide)) ?_;(walk_at "w");refine(show EvP (lenD (.lst (ns.map D.int))) _ from ?_);(walk_at "w");rw[f];refine zA8 (λc2=>?_) λc2=>?_
  .rw [if_pos c2] at h;(walk_at "w");refine(show EvP (lenD (.lst (ns.map D.int))) _ from ?_);(walk_at "w");rw[f];refine zBD (by omega) ?_;refine(show EvP (ixD (.lst (ns.map D.int)) (.int (k.fmod (ns.length:Int)))) _ from ?_);refine zA5 (zNx (xQ k c2) (fmod_lt_of_pos k c2)) ?_;(walk_at "w");refine zBD (by decide) ?_;(walk_at "w");refine zBC (zEJ (by decide)) ?_;(walk_at "w");refine zBD (by decide) ?_;(walk_at "w");refine zBC (zCX (by decide)) ?_;(walk_at "w");refine zBC (zCX (zGH _ (by decide) (by decide))) ?_;(walk_at "w");refine zCP (zBh (by decide) (by decide)) ?_;(walk_at "w");refine zBD (by decide) ?_;(walk_at "w");exact h
  .rw [if_neg c2] at h;(walk_at "w");refine zBC (zEJ (by decide)) ?_;(walk_at "w");refine zBD (by decide) ?_;(walk_at "w");refine zBC (zCX (by decide)) ?_;(walk_at "w");refine zBC (zCX (zGH _ (by decide) (by decide))) ?_;(walk_at "w");refine zCP (zBh (by decide) (by decide)) ?_;(walk_at "w");refine zBD (by decide) ?_;(walk_at "w");exact h
def zDm (h:i.natAbs<=k)(h2:k < 2^n):Bd n i:=Nat.lt_of_le_of_lt h h2
mutual
theorem zIM:∀ d:D,PyData.eqv (toPy d) (toPy d)=true
 | .non=>by simp[toPy,PyData.eqv]
 | .bl b=>by simp[toPy,PyData.eqv]
 | .int i=>by simp[toPy,PyData.eqv]
 | .str x=>by simp[toPy,PyData.eqv]
 | .tup ds=>by
  rw[toPy,PyData.eqv];exact eqbL_self ds
 | .lst ds=>by
  rw[toPy,PyData.eqv];exact eqbL_self ds
 | .exc _=>by simp[toPy,PyData.eqv]
 | .dct _=>by simp[toPy,PyData.eqv]
 | .lam _ _ _=>by simp[toPy,PyData.eqv]
 | .obj _ _ _=>by simp[toPy,PyData.eqv]
 | .fn _ _=>by simp[toPy,PyData.eqv]
theorem eqbL_self:∀ ds:List D,PyData.eqvAll (toPyL ds) (toPyL ds)=true
 | []=>by simp[toPyL,PyData.eqvAll]
 | d::ds=>by
  rw[toPyL,PyData.eqvAll,zIM d,eqbL_self ds]
  rfl
end
def zIN (d:D):eqb d d=true:=zIM d
def DOk (k:Nat)(d:D):Prop:=(toPy d).canLay0=true/\(toPy d).depth<=k
def zFy (i:Int):DOk k (.int i):=⟨by simp[toPy,PyData.canLay0],by simp[toPy,PyData.depth]⟩
theorem zHg :∀ {ds:List D},(∀ d∈ds,DOk k d)->PyData.canLayAll0 (toPyL ds)=true/\PyData.depthAll (toPyL ds)<=k
 | [],_=>⟨by simp[toPyL,PyData.canLayAll0],by simp[toPyL,PyData.depthAll]⟩
 | d::ds,h=>by
  have h1:=h d q0;have h2:=zHg (ds:=ds) λx z=>h x (qY _ z)
  refine⟨by simp[toPyL,PyData.canLayAll0,h1.1,h2.1],?_⟩;simp only[toPyL,PyData.depthAll];exact Nat.max_le.mpr ⟨h1.2,h2.2⟩
def zFx (h:∀ d∈ds,DOk k d):DOk (k+1) (.tup ds):=by
 obtain⟨h1,h2⟩:=zHg h;exact⟨by simp[toPy,PyData.canLay0,h1],by simp only[toPy,PyData.depth];omega⟩
def zQi (h:∀ d∈ds,DOk k d):DOk (k+1) (.lst ds):=by
 obtain⟨h1,h2⟩:=zHg h;exact⟨by simp[toPy,PyData.canLay0,h1],by simp only[toPy,PyData.depth];omega⟩
def zEd (q:Rat):DOk 1 (ratD q):=zFx λd h=>by
 rcases mem_cons.mp h with rfl | h
 .exact zFy _
 .rcases mem_cons.mp h with rfl | h
  .exact zFy _
  .simp_all
def zEb (a:DOk m x)(c:DOk n y)(b:m<=64):EqOk x y:=⟨a.1,c.1,le_trans a.2 b⟩
def zDf (p q:Rat):eqb (ratD p) (ratD q)=decide (p=q):=by
 by_cases h:p=q
 .subst h;rw[zIN,decide_eq_true rfl]
 .rw [decide_eq_false h];unfold eqb ratD;simp only[toPy,toPyL,PyData.eqv,PyData.eqvAll];cases e:(p.num==q.num&&(((p.den:Int)==(q.den:Int))&&true)) with
  | false=>rfl
  | true =>
   simp only[Bool.and_true,x8,beq_iff_eq] at e;exact absurd (Rat.ext e.1 (by have:=e.2;omega)) h
noncomputable def zO2 (nm:Str)(nr:Nat):S:=.cons (.ret (.call nr nm (.cons (.bin .Add (.bin .Mult (.ix (.var 0) (.int 0)) (.ix (.var 1) (.int 1))) (.bin .Mult (.ix (.var 1) (.int 0)) (.ix (.var 0) (.int 1)))) (.cons (.bin .Mult (.ix (.var 0) (.int 1)) (.ix (.var 1) (.int 1))) .nil)))) .nil
noncomputable def zKa (nm:Str)(nr:Nat):S:=.cons (.ret (.call nr nm (.cons (.bin .Sub (.bin .Mult (.ix (.var 0) (.int 0)) (.ix (.var 1) (.int 1))) (.bin .Mult (.ix (.var 1) (.int 0)) (.ix (.var 0) (.int 1)))) (.cons (.bin .Mult (.ix (.var 0) (.int 1)) (.ix (.var 1) (.int 1))) .nil)))) .nil
noncomputable def zJU (nm:Str)(nr:Nat):S:=.cons (.ret (.call nr nm (.cons (.bin .Mult (.ix (.var 0) (.int 0)) (.ix (.var 1) (.int 0))) (.cons (.bin .Mult (.ix (.var 0) (.int 1)) (.ix (.var 1) (.int 1))) .nil)))) .nil
noncomputable def zHK (nm:Str)(nr:Nat):S:=.cons (.ret (.call nr nm (.cons (.bin .Mult (.ix (.var 0) (.int 0)) (.ix (.var 1) (.int 1))) (.cons (.bin .Mult (.ix (.var 0) (.int 1)) (.ix (.var 1) (.int 0))) .nil)))) .nil
def OpF (f:Rat->Rat->Rat)(F:List D->Option R):Prop:=∀ (p q:Rat) (m n:Nat) (Q:R->Prop),RB m p->RB n q->m+n<=60000000->Q (ratD (f p q),.cl)->EvP (F [ratD p,ratD q]) Q
abbrev zGu:=OpF (·+·)
abbrev zFP:=OpF (· - ·)
abbrev zDr:=OpF (·*·)
def zF9 (F:List D->Option R):Prop:=∀ (p q:Rat) (m n:Nat) (Q:R->Prop),q≠0->RB m p->RB n q->m+n<=60000000->Q (ratD (p / q),.cl)->EvP (F [ratD p,ratD q]) Q
def zCN (h1:Bd m i)(h2:Bd n j)(h3:m+n<=60000000):IntMulOk i j:=(IntMulOk.of_le (zF5 h1) (zF5 h2) (le_trans h3 (by simp)))
section
variable {J:Gm}{nm:Str}{nr:Nat}{Fr:List D->Option R}
def zO1 (b:J.fns[nr]?=some (nm,Fr))(c:zFM Fr):zGu (dFun 2 2 (evSs J (zO2 nm nr))):=λp q m n Q a hq l h=>by
 (walk_at "d");unfold zO2;refine zAG (zBo (zAL b ?_));(walk_at "w");refine zBC (zCN a.num hq.den l) ?_;(walk_at "w");refine zBC (zCN hq.num a.den (by omega)) ?_;(walk_at "w");refine zBC (zCN a.den hq.den l) ?_;(walk_at "w");refine c _ _ _ (zDk (zBE p) (zBE q)) ((zBr a.den hq.den).mono l) ?_;rw[<- zOg];(walk_at "w");exact h
def zMY (b:J.fns[nr]?=some (nm,Fr))(c:zFM Fr):zFP (dFun 2 2 (evSs J (zKa nm nr))):=λp q m n Q a hq l h=>by
 (walk_at "d");unfold zKa;refine zAG (zBo (zAL b ?_));(walk_at "w");refine zBC (zCN a.num hq.den l) ?_;(walk_at "w");refine zBC (zCN hq.num a.den (by omega)) ?_;(walk_at "w");refine zBC (zCN a.den hq.den l) ?_;(walk_at "w");refine c _ _ _ (zDk (zBE p) (zBE q)) ((zBr a.den hq.den).mono l) ?_;rw[<- zNw];(walk_at "w");exact h
def zL9 (b:J.fns[nr]?=some (nm,Fr))(c:zFM Fr):zDr (dFun 2 2 (evSs J (zJU nm nr))):=λp q m n Q a hq l h=>by
 (walk_at "d");unfold zJU;refine zAG (zBo (zAL b ?_));(walk_at "w");refine zBC (zCN a.num hq.num l) ?_;(walk_at "w");refine zBC (zCN a.den hq.den l) ?_;(walk_at "w");refine c _ _ _ (zDk (zBE p) (zBE q)) ((zBr a.den hq.den).mono l) ?_;rw[<- zOF];(walk_at "w");exact h
def zJ7 (c:J.fns[nr]?=some (nm,Fr))(e:zFM Fr):zF9 (dFun 2 2 (evSs J (zHK nm nr))):=λp q m n Q b a hq l h=>by
 (walk_at "d");unfold zHK;refine zAG (zBo (zAL c ?_));(walk_at "w");refine zBC (zCN a.num hq.den l) ?_;(walk_at "w");refine zBC (zCN a.den hq.num l) ?_;(walk_at "w");refine e _ _ _ (zDk (zBE p) (zOE b)) ((zBr a.den hq.num).mono l) ?_;rw[<- zOa];(walk_at "w");exact h
end
def zL2:D.tup [.int 0,.int 1]=ratD 0:=rfl
def zPH:D.tup [.int 1,.int 1]=ratD 1:=rfl
def zMt:D.tup [.int 1,.int 2]=ratD (1 / 2):=by
 unfold ratD;rw[show (1 / 2:Rat).num=1 from by decide +kernel,show (1 / 2:Rat).den=2 from by decide +kernel]
 rfl
inductive WB:List Rat->Nat->Prop
 | nil:WB [] 0
 | cons {q:Rat} {m W:Nat} {qs:List Rat}:RB m q->WB qs W->WB (q::qs) (m+1+W)
theorem zNn:∀ {qs:List Rat} {W:Nat},WB qs W->RB (W+1) (DM.sumR qs)
 | [],_,.nil=>⟨by unfold Bd;decide,by unfold Bd;decide⟩
 | _::_,_,.cons h t=>(zCL h (zNn t)).mono (by omega)
theorem zJL:∀ {qs:List Rat} {W:Nat},WB qs W->WB (DM.nadd qs) W
 | [],_,.nil=>.nil
 | [_],_,.cons h .nil=>.cons h .nil
 | a::b::r,_,.cons (m:=m) h (.cons (m:=n) (W:=W) k t)=>by
  have e:m+1+(n+1+W)=(m+n+1)+1+W:=by omega
  rw[e];exact .cons (zCL h k) (zJL t)
theorem zNm:∀ {qs:List Rat} {W i:Nat} {a b:Rat},WB qs W->qs[i]?=some a->qs[i+1]?=some b->∃ m n,RB m a/\RB n b/\m+n+2<=W
 | [],_,_,_,_,_,h,_=>by simp at h
 | [_],_,_,_,_,_,_,h=>by simp at h
 | x::y::r,_,0,a,b,.cons (m:=m) h (.cons (m:=n) k t),h1,h2=>by
  simp at h1 h2;subst h1 h2;exact⟨m,n,h,k,by omega⟩
 | x::y::r,_,i+1,a,b,.cons h t,h1,h2=>by
  obtain⟨m,n,q1,q2,q3⟩:=zNm (i:=i) t (by simpa using h1) (by simpa using h2);exact⟨m,n,q1,q2,by omega⟩
theorem zNo :∀ {qs:List Rat},(∀ q∈qs,RB n q)->WB qs (qs.length*(n+1))
 | [],_=>by rw[List.length_nil,Nat.zero_mul];exact .nil
 | q::qs,h=>by
  rw[xX,Nat.succ_mul,Nat.add_comm];exact .cons (h q q0) (zNo λx z=>h x (qY _ z))
noncomputable def zPP (np:Nat):S:=.cons (.setC 1 (.comp1 2 [] "k" (.r3 (.int 0) (.bin .Sub (.len (.var 0)) (.int 1)) (.int 2)) .nil (.call np "plus" (.cons (.ix (.var 0) (.var 2)) (.cons (.ix (.var 0) (.bin .Add (.var 2) (.int 1))) .nil))))) (.cons (.ife (.cmp .Eq (.bin .Mod (.len (.var 0)) (.int 2)) (.int 1)) (.cons (.app 1 (.ix (.var 0) (.neg (.int 1)))) .nil) .nil) (.cons (.retOwn 1) .nil))
noncomputable def zJS (nn ng:Nat):S:=.cons (.set 1 (.list (.var 0))) (.cons (.whl (.cmp .Gt (.len (.var 1)) (.int 1)) (.frz 1 (.cons (.set 1 (.call nn "neighbours_added" (.cons (.var 1) .nil))) .nil))) (.cons (.ret (.ite (.cmp .Eq (.len (.var 1)) (.int 1)) (.ix (.var 1) (.int 0)) (.glob ng "NOUGHT"))) .nil))
noncomputable def zCz (qs:List Rat):D:=.lst (qs.map ratD)
def zJv {a:List Rat}{i:Nat}(h:a[i]?=some q):atI (a.map ratD) (i:Int)=some (ratD q):=zAl (by simp_all)
def zKp (n:Nat):(Builtin.Range.rangeSize 0 ((n:Int) - 1) 2).toNat=n / 2:=by
 unfold Builtin.Range.rangeSize;omega
def zNk (F:List D->Option R):Prop:=∀ (qs:List Rat) (W:Nat) (Q:R->Prop),WB qs W->W<=60000000->qs.length<=10000->Q (zCz (DM.nadd qs),.fr)->EvP (F [zCz qs]) Q
noncomputable def zRe (qs:List Rat):D->D
 | .int k=>ratD (qs.getD k.toNat 0+qs.getD (k.toNat+1) 0)
 | d=>d
def zK1 {a:List Rat}(h:a[i]?=some q):a.getD i 0=q:=by simp_all
def zPO (s:J.fns[np]?=some (("plus":Str),Fp))(y:zGu Fp):zNk (dFun 1 2 (evSs J (zPP np))):=λqs W Q x C B h=>by
 (walk_at "d");unfold zPP;(walk_at "st");refine zAG (zHf (zCq (zRB ?_)));have p:((qs.map ratD).length:Int)=(qs.length:Int):=by rw[qy]
 walk_at "ev"
 refine zAi (zEa (zAN rfl ?_));refine(show EvP (lenD (.lst (qs.map ratD))) _ from ?_);(walk_at "w");rw[p];refine⟨_,_,_,rfl,rfl,rfl,(by refine⟨by decide,by decide,?_⟩;unfold Builtin.Range.small Builtin.Range.rangeSize;simp only[Builtin.Range.rangeFitsLong,x8,Bool.or_eq_true,qj,show (2:Int)>0 by decide,if_true];omega),?_⟩;rw[zKp];have r:(rngS 0 2 (qs.length / 2)).length<=10000:=by unfold rngS;rw[qy,length_range];omega
 refine⟨r,?_⟩;show EvP (zCt (tg1 2) (evC J .nil) _ _ ([some (zCz qs,false),none]++[none])) _;refine zOd (n:=2) (base:=[some (zCz qs,false),none]) rfl (zRe qs) _ _ (λz o=>?_) ?_
 .unfold rngS at o;obtain⟨i,q,rfl⟩:=mem_map.mp o;have z:=mem_range.mp q;have h1:2*i < qs.length:=by omega
  have h2:2*i+1 < qs.length:=by omega
  have j:qs[2*i]?=some qs[2*i]:=by simp[h1]
  have f:qs[2*i+1]?=some qs[2*i+1]:=by simp[h2]
  obtain⟨m,n,r1,r2,r3⟩:=zNm x j f;have u:(0:Int)+(i:Int)*2=((2*i:Nat):Int):=by omega
  have l:((2*i:Nat):Int)+1=((2*i+1:Nat):Int):=by omega
  rw[u];refine zAL s (zAH (zC5 (zAN rfl (zAN rfl ?_))));refine zA5 (zJv j) ?_;(walk_at "w");rw[l];refine(show EvP (ixD (.lst (qs.map ratD)) (.int ((2*i+1:Nat):Int))) _ from ?_);refine zA5 (zJv f) ?_;(walk_at "w");refine y _ _ m n _ r1 r2 (by omega) ?_;(walk_at "w");show _=ratD _;rw[toNat_natCast,zK1 j,zK1 f]
 .have A:(rngS 0 2 (qs.length / 2)).map (zRe qs)=((List.range (qs.length / 2)).map λi=>qs.getD (2*i) 0+qs.getD (2*i+1) 0).map ratD:=by
   unfold rngS;rw[map_map,map_map];refine map_congr_left λi _=>?_
   show ratD _=ratD _;rw[show ((0:Int)+(i:Int)*2).toNat=2*i by omega]
  rw[A];have b:=DM.zKT qs;(walk_at "w");refine(show EvP (lenD (.lst (qs.map ratD))) _ from ?_);(walk_at "w");rw[p];refine zBD (by decide) ?_;(walk_at "w");refine zA8 (λc=>?_) λc=>?_
  .have k:qs.length%2=1:=by
    rw[Int.fmod_eq_emod_of_nonneg _ (by decide)] at c;omega
   rw[if_pos k] at b;refine zAG (zIL rfl (by rw[qy,qy,length_range];omega) ?_);(walk_at "w");have e:qs[qs.length - 1]?=some (qs.getD (qs.length - 1) 0):=by
    have:qs.length - 1 < qs.length:=by omega
    rw[getD_eq_getElem?_getD];simp[this]
   have g:atI (qs.map ratD) (-1)=some (ratD (qs.getD (qs.length - 1) 0)):=by
    unfold L2.atI;have v:ixN (qs.map ratD).length (-1)=some (qs.length - 1):=by
     unfold L2.ixN;rw[qy];split<;>first | omega | (split<;>first | omega | (congr 1;omega)) | (congr 1;omega)
    rw[v];show (qs.map ratD)[qs.length - 1]?=_;rw[getElem?_map,e]
    rfl
   refine(show EvP (ixD (.lst (qs.map ratD)) (.int (-1))) _ from ?_);refine zA5 g ?_;(walk_at "w");have t:List.map ratD ((List.range (qs.length / 2)).map λi=>qs.getD (2*i) 0+qs.getD (2*i+1) 0)++[ratD (qs.getD (qs.length - 1) 0)]=(DM.nadd qs).map ratD:=by
    rw[<- b,xY];rfl
   rw[t];exact h
  .have k:¬ qs.length%2=1:=λz=>c (by
    rw[Int.fmod_eq_emod_of_nonneg _ (by decide)];omega)
   rw[if_neg k,append_nil] at b;(walk_at "w");rw[b];exact h
def zLq (F:List D->Option R):Prop:=∀ (qs:List Rat) (W:Nat) (Q:R->Prop),WB qs W->W<=60000000->qs.length<=10000->Q (ratD (DM.sumR qs),.cl)->EvP (F [zCz qs]) Q
def zIj (i:J.fns[nn]?=some (("neighbours_added":Str),Fn))(l:zNk Fn):∀ (n:Nat) (a:List Rat) (W:Nat) (o:Bool),a.length<=n->WB a W->W<=60000000->a.length<=10000 ->
    (∀ qs' o,DM.sumR qs'=DM.sumR a->qs'.length<=1->(a.length=0<->qs'.length=0)->Q (.nx [x0,some (zCz qs',o)])) ->
    EvP (zBV (asB (evE J (.cmp .Gt (.len (.var 1)) (.int 1)))) (evSs J (.frz 1 (.cons (.set 1 (.call nn "neighbours_added" (.cons (.var 1) .nil))) .nil))) [x0,some (zCz a,o)]) Q:=by
  intro n
  induction n with
  | zero =>
    intro a W o p d f b q;have e:a=[]:=List.eq_nil_of_length_eq_zero (by omega);subst e;refine zB6 (as_b ?_);refine zFB (zEa (zIH rfl ?_));refine(show EvP (lenD (.lst [])) _ from ?_);(walk_at "w");refine zDp (by simp) ?_;exact q [] o rfl (by simp) (by simp)
  | succ n h =>
    intro a W o p d f b q;refine zB6 (as_b ?_);refine zFB (zEa (zIH rfl ?_));refine(show EvP (lenD (.lst (a.map ratD))) _ from ?_);(walk_at "w");rw[qy];by_cases c:1 < a.length
    . refine zIX (by omega) ?_;have g:EvP (evSs J (.cons (.set 1 (.call nn "neighbours_added" (.cons (.var 1) .nil))) .nil) [x0,some (zCz a,false)]) λo=>match o with
          | .nx G'=>EvP (zBV (asB (evE J (.cmp .Gt (.len (.var 1)) (.int 1)))) (evSs J (.frz 1 (.cons (.set 1 (.call nn "neighbours_added" (.cons (.var 1) .nil))) .nil))) G') Q
          | .ct G'=>EvP (zBV (asB (evE J (.cmp .Gt (.len (.var 1)) (.int 1)))) (evSs J (.frz 1 (.cons (.set 1 (.call nn "neighbours_added" (.cons (.var 1) .nil))) .nil))) G') Q
          | .bk G'=>Q (.nx G')
          | .rt r=>Q (.rt r):=by
        refine zAG (zCc (zAL i ?_));(walk_at "w");refine l a W _ d f b ?_;(walk_at "w");have s:=DM.zH7 a;refine h (DM.nadd a) W true (by omega) (zJL d) f (by omega) λqs' o j m k=>?_
        exact q qs' o (j.trans (DM.zH6 a)) m ⟨λz=>absurd z (by omega),λz=>absurd (k.mpr z) (by omega)⟩
      cases o with
      | true=>exact zIG rfl g
      | false=>exact zHa rfl g
    . refine zDp (by omega) ?_;exact q a o rfl (by omega) Iff.rfl
def zL8 (k:J.fns[nn]?=some (("neighbours_added":Str),Fn))(g:zNk Fn)(f:J.cs[ng]?=some (("NOUGHT":Str),.tup [.int 0,.int 1])):zLq (dFun 1 2 (evSs J (zJS nn ng))):=λqs W Q i j l h=>by
 (walk_at "d");unfold zJS;(walk_at "st");refine zAG (zCc (zHb (zAN rfl ?_)));refine(show EvP (zI1 (.lst (qs.map ratD))) _ from ?_);(walk_at "w");refine zIj k g qs.length qs W true (le_refl _) i j l λqs' o n e p=>?_
 refine k_nx ?_;refine zAG (zBo (zOT (zFB (zEa (zIH rfl ?_)))));refine(show EvP (lenD (.lst (qs'.map ratD))) _ from ?_);(walk_at "w");rw[qy];rw[<- n] at h
 match qs',e with
 | [],_ =>
  refine zDp (by simp) ?_;refine zCC f ?_;rw[zL2];(walk_at "w");exact h
 | [a],_ =>
  refine zIX (by simp) ?_;refine zC5 (zIH rfl ?_);(walk_at "w");refine(show EvP (ixD (.lst [ratD a]) (.int 0)) _ from ?_);(walk_at "w");have m:DM.sumR [a]=a:=by simp only[DM.sumR,Rat.add_zero]
  rw[m] at h;exact h
 | _::_::_,z=>exact absurd z (by simp)
abbrev Pt:=DM.Pt
noncomputable def ptD (p:Pt):D:=.tup [ratD p.1,ratD p.2]
noncomputable def zGK (s:Pt×Pt):D:=.tup [ptD s.1,ptD s.2]
noncomputable def zIo (ps:List Pt):D:=.lst (ps.map ptD)
def PB (n:Nat)(p:Pt):Prop:=RB n p.1/\RB n p.2
def i_p0 (h:Q (ratD p.1,.cl)):EvP (ixD (ptD p) (.int 0)) Q:=zDJ rfl h
def i_p1 (h:Q (ratD p.2,.cl)):EvP (ixD (ptD p) (.int 1)) Q:=zDJ rfl h
def i_s0 (h:Q (ptD s.1,.cl)):EvP (ixD (zGK s) (.int 0)) Q:=zDJ rfl h
def i_s1 (h:Q (ptD s.2,.cl)):EvP (ixD (zGK s) (.int 1)) Q:=zDJ rfl h
def zIQ (p:Pt):DOk 2 (ptD p):=zFx λd h=>by
 rcases mem_cons.mp h with rfl | h
 .exact zEd _
 .rcases mem_cons.mp h with rfl | h
  .exact zEd _
  .simp_all
def zUv (a:DOk k d)(b:k<=64)(h:Q (.bl false,.cl)):EvP (cmpD .NotEq d d) Q:=c_ne (zEb a a b) (by rw[zIN];exact h)
def zHl (h:Q (.bl (!decide (p=q)),.cl)):EvP (cmpD .NotEq (ratD p) (ratD q)) Q:=c_ne (zEb (zEd p) (zEd q) (by decide)) (by rw[zDf];exact h)
def zIT (xs:List D)(k:Nat):cutD xs (some (k:Int)) none=xs.drop k:=by
 unfold cutD;rw[HT.zG9,HT.zFc];by_cases h:k<=xs.length
 .rw [Nat.min_eq_left h,take_of_length_le (by simp)]
 .rw [Nat.min_eq_right (by omega),List.drop_length,List.take_nil,drop_eq_nil_of_le (by omega)]
def zTb (xs:List D)(k:Nat):cutD xs none (some (k:Int))=xs.take k:=by
 unfold cutD;rw[HT.zG9,HT.zFc];simp
def zL1 (as bs:List Pt):zipT (as.map ptD) (bs.map ptD)=(as.zip bs).map zGK:=by
 unfold zipT;rw[List.zipWith_map,List.zip_eq_zipWith,List.map_zipWith]
 rfl
noncomputable def zJi:S:=.cons (.ret (.lzip (.var 0) (.bin .Add (.sl (.var 0) (.cons (.int 1) .nil) .nil) (.sl (.var 0) .nil (.cons (.int 1) .nil))))) .nil
def zLt (F:List D->Option R):Prop:=∀ (ps:List Pt) (Q:R->Prop),ps.length<=9000->Q (.lst ((DM.zGJ ps).map zGK),.fr)->EvP (F [zIo ps]) Q
def zMD :zLt (dFun 1 1 (evSs J zJi)):=λps Q e h=>by
 (walk_at "d");unfold zJi;refine zAG (zBo (zLF (zAN rfl (zAi (zQM (zAN rfl ?_))))));(walk_at "w");refine⟨ps.map ptD,rfl,?_⟩;refine zQM (zAN rfl ?_);(walk_at "w");refine⟨ps.map ptD,rfl,?_⟩;have c:cutD (ps.map ptD) (some 1) none=(ps.drop 1).map ptD:=by rw[show (1:Int)=((1:Nat):Int) from rfl,zIT,List.map_drop]
 have b:cutD (ps.map ptD) none (some 1)=(ps.take 1).map ptD:=by rw[show (1:Int)=((1:Nat):Int) from rfl,zTb,List.map_take]
 rw[c,b];refine zNf (by rw[qy,qy,length_drop,length_take];omega) ?_;rw[<- xY];refine zTw ⟨?_,?_⟩ ?_
 .rw [qy,qy];exact(DM.zJn ps).symm
 .rw [qy];omega
 .rw [(zL1 ps _)];(walk_at "w");exact h
def zHC:RB 2 (1 / 2:Rat):=⟨by unfold Bd;decide +kernel,by unfold Bd;decide +kernel⟩
def zFp (i:Int):D.tup [.int i,.int 1]=ratD (i:Rat):=rfl
def zAd (a:Int)(n:Nat):(rngL a n).length=n:=by unfold rngL;simp
theorem zLc {O:Type}{J:Gm}{n:Nat}{el:E}{base:Dst}{Q:List D->Prop}(hn:base.length=n)(enc g:O->D):∀ (xs:List O) (o:Option (D×Bool)),(∀ x∈xs,EvP (evE J el (base++[some (enc x,false)])) λr=>r.2≠.dt/\r.1=g x)->Q (xs.map g)->EvP (zCt (tg1 n) (evC J .nil) (evE J el) (xs.map enc) (base++[o])) Q
 | [],o,_,h=>⟨_,rfl,h⟩
 | z::zs,o,hz,h=>by
  obtain⟨r,e,nd,er⟩:=hz z q0;obtain⟨ys,e2,q⟩:=zLc (Q:=λys=>Q (g z::ys)) hn enc g zs (some (enc z,false)) (λy hy=>hz y (qY _ hy)) h;refine⟨_,?_,q⟩;have es:(base++[o]).set n (some (enc z,false))=base++[some (enc z,false)]:=by
   rw[set_append_right _ _ (by omega),hn,sub_self];rfl
  show (tg1 n (enc z) (base++[o])).bind _=_;unfold tg1;rw[es,qx,zDe,qx,if_pos rfl,e,qx,if_neg nd,er];show (zCt _ _ _ (zs.map enc) (base++[some (enc z,false)])).bind _=_;unfold tg1 at e2;rw[zDe] at e2;rw[e2]
  rfl
noncomputable def zBc (rs:List (List Pt)):D:=.lst (rs.map zIo)
def zA3:RB 1 0:=⟨by unfold Bd;decide,by unfold Bd;decide⟩
def zCS:RB 1 1:=⟨by unfold Bd;decide,by unfold Bd;decide⟩
def PB.x (h:PB n p):RB n p.1:=h.1
def PB.y (h:PB n p):RB n p.2:=h.2
def PB.mono (h:PB m p)(l:m<=n):PB n p:=⟨h.1.mono l,h.2.mono l⟩
abbrev Ln:=DM.Ln
end DL
end
open PySem L2 DL
local macro_rules | `(tactic| walk_at "rb")=>`(tactic| first
 | assumption | exact zA3 | exact zCS | exact zHC | exact PB.x (by assumption) | exact PB.y (by assumption) | exact LB.a (by assumption) | exact LB.b (by assumption) | exact LB.c (by assumption)
 | with_reducible apply zCL | with_reducible apply zCv | with_reducible apply zAo | with_reducible apply rb_neg | (with_reducible apply zJu;assumption))
section
namespace DL
open PySem L2
def zRq (h:OpF f F)(h1:RB m p)(h2:RB n q)(h3:m+n<=60000000)(h4:Q (ratD (f p q),.cl)):EvP (F [ratD p,ratD q]) Q:=h p q m n Q h1 h2 h3 h4
def zJ8 (h:zF9 F)(h0:q≠0)(h1:RB m p)(h2:RB n q)(h3:m+n<=60000000)(h4:Q (ratD (p / q),.cl)):EvP (F [ratD p,ratD q]) Q:=h p q m n Q h0 h1 h2 h3 h4
end DL
end
open PySem L2 DL
local macro_rules | `(tactic| walk_at "ev")=>`(tactic| first
 | (with_reducible first | refine i_p0 ?_ | refine i_p1 ?_ | refine i_s0 ?_ | refine i_s1 ?_ | refine zHl ?_)
 | ((with_reducible show EvP (evE _ (DL.E.call _ _ _) _) _);refine zAL (by assumption) ?_) | ((with_reducible show EvP (evE _ (DL.E.glob _ _) _) _);refine zCC (by assumption) ?_)
 | ((try dsimp only);with_reducible refine zRq (by assumption) (by (repeat walk_at "rb")) (by (repeat walk_at "rb")) (by omega) ?_))
section
namespace DL
open PySem L2
noncomputable def zG2:S:=.cons (.ife (.chn .Lt .Lt (.neg (.int 1000)) (.var 0) (.int 1000)) (.cons (.ret (.bin .Mod (.bin .Mult (.bin .Add (.bin .Mult (.bin .Add (.var 0) (.int 1000)) (.bin .Add (.bin .Add (.var 0) (.int 1000)) (.bin .Mult (.int 37) (.var 1)))) (.bin .Mult (.int 911) (.var 1))) (.int 48271)) (.int 1000003))) .nil) .nil) (.cons (.ret (.var 0)) .nil)
def zLs (F:List D->Option R):Prop:=∀ (c k:Int) (Q:R->Prop),0<=k->k<=1000->(∀ x:Int,Q (.int x,.cl))->EvP (F [.int c,.int k]) Q
def zJd :zLs (dFun 2 2 (evSs J zG2)):=λc k Q h0 h1 h=>by
 (walk_at "d");unfold zG2;(walk_at "st");refine zAG (zIK (zOU ?_));(walk_at "w");refine zA8 (λc1=>?_) λc1=>?_
 ·(walk_at "w");refine zA8 (λc2=>?_) λc2=>?_
  ·(walk_at "w");refine zBC (zCX (by decide)) ?_;(walk_at "w");refine zBC (zCX (by omega)) ?_;(walk_at "w");refine zBC (zCX (by decide)) ?_;(walk_at "w");refine zBC (zEJ (by decide)) ?_;(walk_at "w");refine zBD (by decide) ?_;(walk_at "w");exact h _
  ·(walk_at "w");exact h _
 ·(walk_at "w");exact h _
def zHB (h:x∈rngL 0 n):∃ k:Int,x=.int k/\0<=k/\k < n:=by
 unfold rngL at h;grind
noncomputable def zJO:S:=.cons (.ret (.cmp .Lt (.bin .Mult (.ix (.var 0) (.int 0)) (.ix (.var 1) (.int 1))) (.bin .Mult (.ix (.var 1) (.int 0)) (.ix (.var 0) (.int 1))))) .nil
def zFL (F:List D->Option R):Prop:=∀ (p q:Rat) (m n:Nat) (Q:R->Prop),RB m p->RB n q->m+n<=60000000->Q (.bl (decide (p < q)),.cl)->EvP (F [ratD p,ratD q]) Q
def zL7 :zFL (dFun 2 2 (evSs J zJO)):=λp q m n Q a hq l h=>by
 (walk_at "d");unfold zJO;(walk_at "st");(walk_at "w");refine zBC (zCN a.num hq.den l) ?_;(walk_at "w");refine zBC (zCN hq.num a.den (by omega)) ?_;(walk_at "w");have e:decide (p.num*↑q.den < q.num*↑p.den)=decide (p < q):=by
  rw[decide_eq_decide];exact((Rat.lt_iff ..)).symm
 rw[e];exact h
def zCl (h:zFL F)(h1:RB m p)(h2:RB n q)(h3:m+n<=60000000)(h4:Q (.bl (decide (p < q)),.cl)):EvP (F [ratD p,ratD q]) Q:=h p q m n Q h1 h2 h3 h4
noncomputable def hD (L:Ln):D->D
 | .tup [.tup [.int a,.int b],.tup [.int c,.int e]]=>ratD (DM.hq L (Rat.divInt a b,Rat.divInt c e))
 | d=>d
def zRL (h:(rngL 0 n).drop i=x::xs):i < n/\x=.int (i:Int)/\xs=(rngL 0 n).drop (i+1):=by
 have a:i < (rngL 0 n).length:=by
  by_cases q:i < (rngL 0 n).length
  .omega
  .rw [drop_eq_nil_of_le (by omega)] at h;cases h
 rw[List.drop_eq_getElem_cons a] at h;cases h;rw[zAd] at a
 simp_all
 unfold rngL;simp
def zOt (h:[]=(rngL 0 n).drop i)(a:i<=n):i=n:=by
 have:=congrArg List.length h;rw[List.length_nil,length_drop,zAd] at this;omega
end DL
end
open PySem L2 DL
local macro_rules | `(tactic| walk_at "e")=>`(tactic| (repeat ((fail_if_success (with_reducible show EvP (evSs _ _ _) _));walk_at "ev")))
open PySem L2 DL
local macro_rules | `(tactic| walk_at "c")=>`(tactic| simp only [cons_append,nil_append])
section
namespace DL
open PySem L2
theorem zFC (hn:base.length=n)(P:D->Prop):∀ (zs:List D) (o:Option (D×Bool)),(∀ z∈zs,EvP (evC J c (base++[some (z,false)])) λb=>b=true->EvP (evE J el (base++[some (z,false)])) λr=>r.2≠.dt/\P r.1)->(∀ ys,ys.length<=zs.length->(c=.nil->ys.length=zs.length)->(∀ y∈ys,P y)->Q ys)->EvP (zCt (tg1 n) (evC J c) (evE J el) zs (base++[o])) Q
 | [],o,_,h=>⟨_,rfl,h [] (le_refl _) (λ_=>rfl) (by simp)⟩
 | z::zs,o,hc,h=>by
  obtain⟨b,eb,hb⟩:=hc z q0;have et:tg1 n z (base++[o])=some (base++[some (z,false)]):=by unfold tg1;rw[set_append_right _ _ (by omega),hn,sub_self];rfl
  have ih:=λQ'=>zFC (Q:=Q') hn P zs (some (z,false)) λy hy=>hc y (qY _ hy)
  cases b with
  | true =>
   obtain⟨r,e,nd,p⟩:=hb rfl;obtain⟨ys,e2,q⟩:=ih (λys=>Q (r.1::ys)) λys l1 l2 l3=>h _ (Nat.succ_le_succ l1) (λz=>congrArg Nat.succ (l2 z)) (by simpa using ⟨p,l3⟩)
   refine⟨_,?_,q⟩;show (tg1 n z (base++[o])).bind _=_;rw[et,qx,eb,qx,if_pos rfl,e,qx,if_neg nd,e2]
   rfl
  | false =>
   obtain⟨ys,e2,q⟩:=ih Q λys l1 l2 l3=>h _ (Nat.le_succ_of_le l1) (λz=>by subst z;cases eb) l3
   refine⟨_,?_,q⟩;show (tg1 n z (base++[o])).bind _=_;rw[et,qx,eb,qx,if_neg qX,e2]
theorem zLD {O:Type}{f:O->D}{P:O->Prop}:∀ {ds:List D},(∀ d∈ds,∃ a,d=f a/\P a)->∃ as:List O,ds=as.map f/\∀ a∈as,P a
 | [],_=>⟨[],rfl,by simp⟩
 | d::ds,h=>by
  obtain⟨a,rfl,p⟩:=h _ q0;obtain⟨as,rfl,q⟩:=zLD λd m=>h d (qY _ m)
  exact⟨a::as,rfl,by simpa using ⟨p,q⟩⟩
def zF6 {ds:List D}{k:Int}(h0:0<=k)(h1:k < ds.length):∃ d,d∈ds/\atI ds k=some d:=by
 obtain⟨i,rfl⟩:=Int.eq_ofNat_of_zero_le h0;have e:ds[i]?=some ds[i]:=getElem?_eq_getElem _;exact⟨_,mem_of_getElem? e,zAl e⟩
def isP (n:Nat)(d:D):Prop:=∃ p:Pt,d=ptD p/\PB n p
def isK (a b:Rat)(d:D):Prop:=∃ k:Int,d=.int k/\RB 8 (k:Rat)/\a≠b
noncomputable def wpB:S:=.cons (.ret (.bin .FloorDiv (.ix (.var 0) (.int 0)) (.ix (.var 0) (.int 1)))) .nil
def WpF (F:List D->Option R):Prop:=∀ (q:Rat) (Q:R->Prop),(∀ k:Int,Q (.int k,.cl))->EvP (F [ratD q]) Q
def zTy :WpF (dFun 1 1 (evSs J wpB)):=λq Q h=>by
 (walk_at "d");unfold wpB;(walk_at "w");refine zCP (zBE q) ?_;(walk_at "w");exact h _
noncomputable def midB (nt np ng:Nat):S:=.cons (.ret (.call nt "times" (.cons (.glob ng "HALF") (.cons (.call np "plus" (.cons (.var 0) (.cons (.var 1) .nil))) .nil)))) .nil
def MidF (F:List D->Option R):Prop:=∀ (p q:Rat) (n:Nat) (Q:R->Prop),RB n p->RB n q->n<=10000000->(∀ m,RB (2*n+3) m->Q (ratD m,.cl))->EvP (F [ratD p,ratD q]) Q
def zRz (g:J.fns[nt]?=some (("times":Str),Ft))(b:J.fns[np]?=some (("plus":Str),Fp))(f:J.cs[ng]?=some (("HALF":Str),.tup [.int 1,.int 2]))(a:zDr Ft)(c:zGu Fp):MidF (dFun 2 2 (evSs J (midB nt np ng))):=λp q n Q h1 h2 e h=>by
 (walk_at "d");unfold midB;(walk_at "st");(walk_at "w");rw[zMt];refine zRq a zHC (by (repeat walk_at "rb")) (by omega) ?_;(walk_at "w");exact h _ ((zAo zHC (zCL h1 h2)).mono (by omega))
noncomputable def zPL (nu ns:Nat):S:=.cons (.ife (.call nu "under" (.cons (.var 1) (.cons (.var 0) .nil))) (.cons (.ret (.lrev (.call ns "numbers_between" (.cons (.var 1) (.cons (.var 0) (.cons (.var 2) .nil)))))) .nil) .nil) (.cons (.ret (.comp1 3 [] "number" (.r1 (.bin .Add (.var 2) (.int 1))) (.cons (.andl (.cons (.call nu "under" (.cons (.var 0) (.cons (.tup (.cons (.var 3) (.cons (.int 1) .nil))) .nil))) (.cons (.call nu "under" (.cons (.tup (.cons (.var 3) (.cons (.int 1) .nil))) (.cons (.var 1) .nil))) .nil))) .nil) (.var 3))) .nil)
def zLx (C:Rat->Rat->Prop)(F:List D->Option R):Prop:=∀ (a b:Rat) (l n:Nat) (Q:R->Prop),C a b->RB n a->RB n b->n<=10000000->l<=100->(∀ ds,ds.length<=l+1->(∀ d∈ds,isK a b d)->Q (.lst ds,.fr))->EvP (F [ratD a,ratD b,.int l]) Q
def zKN (A:J.fns[nu]?=some (("under":Str),Fu))(i:zFL Fu)(g:∀ {a b},C a b->b < a->∃ Fs,J.fns[ns]?=some (("numbers_between":Str),Fs)/\zLx (λa b=>¬ b < a) Fs):zLx C (dFun 3 3 (evSs J (zPL nu ns))):=λa b l n Q t j f q s h=>by
 (walk_at "d");unfold zPL;(walk_at "st");(walk_at "w");refine zCl i f j (by omega) ?_;(walk_at "w");refine zA8 (λc=>?_) λc=>?_
 .obtain ⟨Fs,es,g⟩:=g t c;refine zAG (zBo (zQN (zAL es ?_)));(walk_at "w");refine g b a l n _ (by grind) f j q s λds o m=>n_fr ⟨_,rfl,by omega,?_⟩
  (walk_at "w");refine h _ (by simpa using o) λd v=>?_
  obtain⟨k,e,r,z⟩:=m d (by simpa using v);exact⟨k,e,r,z.symm⟩
 ·(walk_at "w");refine⟨by omega,?_⟩;rw[show ((l:Int)+1).toNat=l+1 by omega];refine⟨by rw[zAd];omega,?_⟩;refine zFC (n:=3) (base:=[_,_,_]) rfl (isK a b) _ _ (λz x=>as_b ?_) λys o _ m=>?_
  .obtain ⟨k,rfl,y,B⟩:=zHB x;(walk_at "c");have p:RB 8 (k:Rat):=zHx (zDm (k:=200) (by omega) (by decide)) (by decide);(walk_at "w");rw[zFp];refine zCl i j p (by omega) ?_;(walk_at "w");refine zA8 (λc=>?_) λc=>?_
   ·(walk_at "w");refine zCl i p f (by omega) ?_;(walk_at "w");intro u;have:=of_decide_eq_true u;(walk_at "w");exact⟨k,rfl,p,by grind⟩
   ·(walk_at "w");exact λz=>nomatch z
  ·(walk_at "w");exact h _ (by rwa [zAd] at o) m
noncomputable def zJs (nd nm np nt:Nat):S:=.cons (.ife (.cmp .Eq (.len (.var 0)) (.int 0)) (.cons (.ret (.lst .nil)) .nil) .nil) (.cons (.set 5 (.call nd "parted" (.cons (.call nm "minus" (.cons (.var 4) (.cons (.var 3) .nil))) (.cons (.call nm "minus" (.cons (.var 2) (.cons (.var 1) .nil))) .nil)))) (.cons (.ret (.comp1 6 [] "number" (.it (.var 0)) .nil (.call np "plus" (.cons (.var 3) (.cons (.call nt "times" (.cons (.var 5) (.cons (.call nm "minus" (.cons (.tup (.cons (.var 6) (.cons (.int 1) .nil))) (.cons (.var 1) .nil))) .nil))) .nil))))) .nil))
def isR (n:Nat)(d:D):Prop:=∃ q:Rat,d=ratD q/\RB n q
def zLv (F:List D->Option R):Prop:=∀ (ks:List D) (a b c e:Rat) (n:Nat) (Q:R->Prop),RB n a->RB n b->RB n c->RB n e->8*n+20<=10000000->(∀ k∈ks,isK a b k)->ks.length<=200->(∀ ds,ds.length=ks.length->(∀ d∈ds,isR (8*n+20) d)->Q (.lst ds,.fr))->EvP (F [.lst ks,ratD a,ratD b,ratD c,ratD e]) Q
theorem zMI (ed:J.fns[nd]?=some (("parted":Str),Fd))(em:J.fns[nm]?=some (("minus":Str),Fm))(ep:J.fns[np]?=some (("plus":Str),Fp))(et:J.fns[nt]?=some (("times":Str),Ft))
  (hd:zF9 Fd) (hm:zFP Fm) (hp:zGu Fp) (ht:zDr Ft):zLv (dFun 5 6 (evSs J (zJs nd nm np nt))):=λks a b c e n Q ha hb hc he hn hk hl h=>by
 (walk_at "d");unfold zJs;(walk_at "st");(walk_at "w");refine zA8 (λz=>?_) λz=>?_
 ·(walk_at "w");exact h [] (by show (0:Nat)=_;omega) (by simp)
 .obtain ⟨k,mk,_⟩:=zF6 (ds:=ks) (k:=0) (by decide) (by omega);obtain⟨_,_,_,ne⟩:=hk k mk;have nz:b - a≠0:=by grind
  have rs:=zJu nz (zCv he hc) (zCv hb ha);(walk_at "w");refine zJ8 hd nz (by (repeat walk_at "rb")) (by (repeat walk_at "rb")) (by omega) ?_;(walk_at "w");refine⟨by omega,?_⟩;refine zFC (n:=6) (base:=[_,_,_,_,_,_]) rfl (isR (8*n+20)) _ _ (λy hy=>⟨true,rfl,λ_=>?_⟩) λys _ l1 l2=>?_
  .obtain ⟨k,rfl,rk,_⟩:=hk y hy;(walk_at "c");(walk_at "w");rw[zFp];(walk_at "w");exact⟨_,rfl,(zCL hc (zAo rs (zCv rk ha))).mono (by omega)⟩
  ·(walk_at "w");exact h _ (l1 rfl) l2
noncomputable def crB (u:Bool)(nn nr:Nat):S:=.cons (.set 2 (.ix (.var 0) (.int 0))) (.cons (.set 3 (.ix (.var 0) (.int 1))) (.cons (.set 4 (.call nn "numbers_between" (.cons (.ix (.var 2) (.int (cond u 0 1))) (.cons (.ix (.var 3) (.int (cond u 0 1))) (.cons (.var 1) .nil))))) (.frz 4 (.cons (.set 5 (.call nr "rests_at" (.cons (.var 4) (.cons (.ix (.var 2) (.int (cond u 0 1))) (.cons (.ix (.var 3) (.int (cond u 0 1))) (.cons (.ix (.var 2) (.int (cond u 1 0))) (.cons (.ix (.var 3) (.int (cond u 1 0))) .nil))))))) (.frz 4 (.frz 5 (.cons (.ret (.comp1 6 [] "k" (.r1 (.len (.var 4))) .nil (.tup (cond u (.cons (.tup (.cons (.ix (.var 4) (.var 6)) (.cons (.int 1) .nil))) (.cons (.ix (.var 5) (.var 6)) .nil)) (.cons (.ix (.var 5) (.var 6)) (.cons (.tup (.cons (.ix (.var 4) (.var 6)) (.cons (.int 1) .nil))) .nil)))))) .nil)))))))
def CrF (F:List D->Option R):Prop:=∀ (s:Pt×Pt) (w n:Nat) (Q:R->Prop),PB n s.1->PB n s.2->8*n+20<=10000000->w<=100->(∀ ds,ds.length<=w+1->(∀ d∈ds,isP (8*n+20) d)->Q (.lst ds,.fr))->EvP (F [zGK s,.int w]) Q
def zTd (u:Bool)(G:J.fns[nn]?=some (("numbers_between":Str),Fn))(F:J.fns[nr]?=some (("rests_at":Str),Fr))(y:zLx (λ_ _=>True) Fn)(E:zLv Fr):CrF (dFun 2 6 (evSs J (crB u nn nr))):=λs w n Q h1 h2 z t h=>by
 (walk_at "d");unfold crB;cases u
 all_goals
  dsimp only[cond];(walk_at "st");(walk_at "w");refine y _ _ w n _ trivial (by first | exact h1.x | exact h1.y) (by first | exact h2.x | exact h2.y) (by omega) t λks H g=>?_
  (walk_at "w");refine E ks _ _ _ _ n _ (by first | exact h1.x | exact h1.y) (by first | exact h2.x | exact h2.y) (by first | exact h1.x | exact h1.y) (by first | exact h2.x | exact h2.y) z g (by omega) λrs I l=>?_
  (walk_at "w");refine⟨by omega,?_⟩;rw[toNat_natCast];refine⟨by rw[zAd];omega,?_⟩;refine zFC (n:=6) (base:=[_,_,_,_,_,_]) rfl (isP (8*n+20)) _ _ (λz x=>⟨true,rfl,λ_=>?_⟩) λys s _ B=>?_
  .obtain ⟨k,rfl,j,D⟩:=zHB x;(walk_at "c");obtain⟨a,v,C⟩:=zF6 (ds:=ks) j D;obtain⟨b,m,r⟩:=zF6 (ds:=rs) j (by omega);obtain⟨i,rfl,e,_⟩:=g a v;obtain⟨q,rfl,f⟩:=l b m;(walk_at "w")
   iterate 2
    first | refine zA5 C ?_ | refine zA5 r ?_
    (walk_at "w")
   first | exact⟨((i:Rat),q),rfl,e.mono (by omega),f⟩ | exact⟨(q,(i:Rat)),rfl,f,e.mono (by omega)⟩
  ·(walk_at "w");exact h _ (by rw[zAd] at s;omega) B
noncomputable def zLp (nu:Nat):S:=.cons (.ife (.var 2) (.cons (.ret (.call nu "under" (.cons (.ix (.var 0) (.int 0)) (.cons (.ix (.var 1) (.int 0)) .nil)))) .nil) .nil) (.cons (.ret (.call nu "under" (.cons (.ix (.var 1) (.int 0)) (.cons (.ix (.var 0) (.int 0)) .nil)))) .nil)
def zIf (F:List D->Option R):Prop:=∀ (p q:Pt) (r:Bool) (n:Nat) (Q:R->Prop),PB n p->PB n q->n<=10000000->(∀ b,Q (.bl b,.cl))->EvP (F [ptD p,ptD q,.bl r]) Q
def zNh (c:J.fns[nu]?=some (("under":Str),Fu))(a:zFL Fu):zIf (dFun 3 3 (evSs J (zLp nu))):=λp q r n Q b hq e h=>by
 (walk_at "d");unfold zLp;(walk_at "st");refine zAG (zIK (zAN rfl ⟨r,rfl,zF0 (λ_=>?_) λ_=>?_⟩))
 ·(walk_at "w");refine zCl a b.x hq.x (by omega) ?_;(walk_at "w");exact h _
 ·(walk_at "w");refine zCl a hq.x b.x (by omega) ?_;(walk_at "w");exact h _
noncomputable def zPX:S:=.cons (.app 3 (.ix (.var 1) (.var 4))) (.cons (.aug .Add 4 (.int 1)) .nil)
noncomputable def zPY (na:Nat):E:=.andl (.cons (.cmp .Lt (.var 4) (.len (.var 1))) (.cons (.call na "comes_ahead" (.cons (.ix (.var 1) (.var 4)) (.cons (.var 5) (.cons (.var 2) .nil)))) .nil))
noncomputable def zR0 (na:Nat):S:=.cons (.whl (zPY na) zPX) (.cons (.ife (.andl (.cons (.cmp .Lt (.var 4) (.len (.var 1))) (.cons (.cmp .Eq (.ix (.var 1) (.var 4)) (.var 5)) .nil))) (.cons (.aug .Add 4 (.int 1)) .nil) .nil) (.cons (.app 3 (.var 5)) .nil))
noncomputable def zR1 (na:Nat):S:=.cons (.set 3 (.lst .nil)) (.cons (.set 4 (.int 0)) (.cons (.for1 5 (.it (.var 0)) (zR0 na)) (.cons (.ret (.bin .Add (.var 3) (.sl (.var 1) (.cons (.var 4) .nil) .nil))) .nil)))
def zLQ (c:G[i]?=some (some (.int a,false)))(h:EvP (evE J e G) λr=>∃ b,r.1=.int b/\Q (.nx (G.set i (some (.int (a+b),false))))):EvP (evS J (.aug .Add i e) G) Q:=by
 rw[evS];obtain⟨⟨d,k⟩,e1,b,e2,q⟩:=h;subst e2;refine⟨_,?_,q⟩;unfold augD;rw[c,e1]
 rfl
def zQu (F:List D->Option R):Prop:=∀ (xs ys:List D) (r:Bool) (n:Nat) (Q:R->Prop),(∀ x∈xs,isP n x)->(∀ y∈ys,isP n y)->n<=10000000->xs.length+ys.length<=1000->(∀ ds,ds.length<=xs.length+ys.length->(∀ d∈ds,isP n d)->Q (.lst ds,.fr))->EvP (F [.lst xs,.lst ys,.bl r]) Q
section
variable {J:Gm}{na:Nat}{Fa:List D->Option R}
def zIz (o:J.fns[na]?=some (("comes_ahead":Str),Fa))(t:zIf Fa)(e:∀ y∈ys,isP n y)(s:PB n p)(u:n<=10000000)(C:B<=1000) :
  ∀ (m:Nat) (acc:List D) (k:Nat),ys.length - k=m->acc.length+(ys.length - k)<=B->k<=ys.length->(∀ a∈acc,isP n a) ->
   (∀ (acc:List D) (k:Nat),acc.length+(ys.length - k)<=B->k<=ys.length->(∀ a∈acc,isP n a)->Q (.nx [x0,some (.lst ys,false),some (.bl r,false),some (.lst acc,true),some (.int (k:Int),false),some (ptD p,false)])) ->
   EvP (zBV (asB (evE J (zPY na))) (evSs J zPX) [x0,some (.lst ys,false),some (.bl r,false),some (.lst acc,true),some (.int (k:Int),false),some (ptD p,false)]) Q:=by
 intro m
 induction m using Nat.strongRecOn with
 | _ m v =>
  intro acc k A l g d h;refine zB6 (as_b ?_);unfold zPY;(walk_at "w");refine zA8 (λc=>?_) λc=>?_
  .obtain ⟨y,f,j⟩:=zF6 (ds:=ys) (k:=k) (by omega) c;have q:=e y f;obtain⟨x,rfl,b2⟩:=e y f;refine zHc (zAL o ?_);(walk_at "w");refine zA5 j ?_;(walk_at "w");refine t _ _ _ n _ b2 s u λb=>?_
   (walk_at "w");refine zF0 (λ_=>?_) λ_=>h _ _ l g d
   unfold zPX;refine zAG (zIL (xs:=acc) (i:=3) rfl (by omega) ?_);(walk_at "w");refine zA5 j ?_;(walk_at "w");refine zLQ (i:=4) rfl ?_;(walk_at "w");rw[show (k:Int)+1=((k+1:Nat):Int) by omega];exact v (ys.length - (k+1)) (by omega) (acc++[ptD x]) (k+1) rfl (by rw[List.length_append,length_singleton];omega) (by omega) (λa m=>(mem_append.mp m).elim (d a) λz=>mem_singleton.mp z▸q) h
  ·(walk_at "w");exact h _ _ l g d
def zPW (P:J.fns[na]?=some (("comes_ahead":Str),Fa))(K:zIf Fa):zQu (dFun 3 6 (evSs J (zR1 na))):=λxs g r n Q S I M T h=>by
 (walk_at "d");unfold zR1;(walk_at "st");(walk_at "w");refine zE9 (λzs G=>∃ (acc:List D) (k:Nat) (o:Option (D×Bool)),(∀ z∈zs,isP n z)/\(∀ a∈acc,isP n a)/\k<=g.length/\acc.length+zs.length+(g.length - k)<=xs.length+g.length/\G=[some (.lst xs,false),some (.lst g,false),some (.bl r,false),some (.lst acc,true),some (.int (k:Int),false),o]) ?_ ?_ _ _ ⟨[],0,none,S,by simp,by omega,by simp,rfl⟩
 .rintro x zs G ⟨acc,k,o,C,v,A,E,rfl⟩;rw[xX] at E;have H:=C x q0;obtain⟨p,rfl,L⟩:=C x q0;refine⟨_,rfl,?_⟩;(walk_at "s");unfold zR0;refine zAG (zOW (zIz P K I L M (B:=xs.length+g.length - zs.length - 1) (by omega) _ acc k rfl (by omega) A v λacc k E A v=>k_nx ?_));have f:∀ {Q:Out->Prop} (j:Nat),Q (.nx [some (.lst xs,false),some (.lst g,false),some (.bl r,false),some (.lst (acc++[ptD p]),true),some (.int (j:Int),false),some (ptD p,false)])->EvP (evSs J (.cons (.app 3 (.var 5)) .nil) [some (.lst xs,false),some (.lst g,false),some (.bl r,false),some (.lst acc,true),some (.int (j:Int),false),some (ptD p,false)]) Q:=λj q=>by
   refine zAG (zIL (xs:=acc) (i:=3) rfl (by omega) ?_);(walk_at "w");exact q
  have l:∀ a∈acc++[ptD p],isP n a:=λa m=>(mem_append.mp m).elim (v a) λz=>mem_singleton.mp z▸H
  have t:∀ z∈zs,isP n z:=λz m=>C z (qY _ m)
  have U:(acc++[ptD p]).length=acc.length+1:=by simp
  (walk_at "w");refine zA8 (λc=>?_) λc=>?_
  .obtain ⟨y,R,N⟩:=zF6 (ds:=g) (k:=k) (by omega) c;obtain⟨O,rfl,b2⟩:=I y R;(walk_at "w");refine zA5 N ?_;(walk_at "w");refine c_eq (zEb (zIQ O) (zIQ p) (by decide)) ?_;(walk_at "w");refine zF0 (λ_=>?_) λ_=>?_
   .refine zAG (zLQ (i:=4) rfl ?_);(walk_at "e");refine zDo (k_nx ?_);rw[show (k:Int)+1=((k+1:Nat):Int) by omega];exact f _ ⟨_,k+1,_,t,l,by omega,by omega,rfl⟩
   .exact zDo (k_nx (f _ ⟨_,k,_,t,l,A,by omega,rfl⟩))
  ·(walk_at "e");exact zDo (k_nx (f _ ⟨_,k,_,t,l,A,by omega,rfl⟩))
 .rintro G ⟨acc,k,o,C,v,A,E,rfl⟩;refine k_nx ?_;(walk_at "w");rw[zIT];have e:(acc++g.drop k).length<=xs.length+g.length:=by simp at E ⊢;omega
  refine zNf (by rw[<- List.length_append];omega) ?_;(walk_at "w");exact h _ e λd m=>(mem_append.mp m).elim (v d) λz=>I d (List.mem_of_mem_drop z)
end
noncomputable def zJb (nm nu nl nx:Nat):S:=.cons (.set 3 (.ix (.var 2) (.int 0))) (.cons (.set 4 (.ix (.var 2) (.int 1))) (.cons (.set 5 (.call nm "made_one" (.cons (.call nu "upright_crossings" (.cons (.var 2) (.cons (.var 0) .nil))) (.cons (.call nl "level_crossings" (.cons (.var 2) (.cons (.var 1) .nil))) (.cons (.call nx "under" (.cons (.ix (.var 3) (.int 0)) (.cons (.ix (.var 4) (.int 0)) .nil))) .nil))))) (.frz 4 (.frz 3 (.cons (.ret (.bin .Add (.bin .Add (.lst (.cons (.var 3) .nil)) (.var 5)) (.lst (.cons (.var 4) .nil)))) .nil)))))
def zLr (F:List D->Option R):Prop:=∀ (w h:Nat) (s:Pt×Pt) (n:Nat) (Q:R->Prop),PB n s.1->PB n s.2->8*n+20<=10000000->w<=100->h<=100->(∀ ds,1<=ds.length->ds.length<=w+h+4->(∀ d∈ds,isP (8*n+20) d)->Q (.lst ds,.fr))->EvP (F [.int w,.int h,zGK s]) Q
theorem zMB (em:J.fns[nm]?=some (("made_one":Str),Fm))(eu:J.fns[nu]?=some (("upright_crossings":Str),Fu))(el:J.fns[nl]?=some (("level_crossings":Str),Fl))(ex:J.fns[nx]?=some (("under":Str),Fx))
  (hm:zQu Fm) (hu:CrF Fu) (hl:CrF Fl) (hx:zFL Fx):zLr (dFun 3 6 (evSs J (zJb nm nu nl nx))):=λw h s n Q h1 h2 hn hw hh hQ=>by
 (walk_at "d");unfold zJb;(walk_at "st");(walk_at "w");refine hu s w n _ h1 h2 hn hw λxs l1 p1=>?_
 (walk_at "w");refine hl s h n _ h1 h2 hn hh λys l2 p2=>?_
 (walk_at "w");refine zCl hx h1.x h2.x (by omega) ?_;(walk_at "w");refine hm xs ys _ _ _ p1 p2 hn (by omega) λzs l3 p3=>?_
 (walk_at "w");refine zNf (by rw[length_singleton];omega) ?_;(walk_at "w");refine zNf (by simp;omega) ?_;(walk_at "w");refine hQ _ (by simp) (by simp;omega) λd m=>?_
 simp only[mem_append,mem_singleton] at m;rcases m with (rfl | m) | rfl
 .exact ⟨_,rfl,h1.mono (by omega)⟩
 .exact p3 d m
 .exact ⟨_,rfl,h2.mono (by omega)⟩
noncomputable def pcB (nw nm:Nat):S:=.cons (.set 2 (.call nw "whole_part" (.cons (.call nm "middle" (.cons (.ix (.var 0) (.int 0)) (.cons (.ix (.var 1) (.int 0)) .nil))) .nil))) (.cons (.set 3 (.call nw "whole_part" (.cons (.call nm "middle" (.cons (.ix (.var 0) (.int 1)) (.cons (.ix (.var 1) (.int 1)) .nil))) .nil))) (.cons (.ret (.tup (.cons (.max (.var 2) (.neg (.int 1))) (.cons (.var 3) (.cons (.var 0) (.cons (.var 1) .nil)))))) .nil))
abbrev zEx (c r:Int) (p q:Pt):D:=.tup [.int c,.int r,ptD p,ptD q]
def PcF (F:List D->Option R):Prop:=∀ (p q:Pt) (n:Nat) (Q:R->Prop),PB n p->PB n q->n<=10000000->(∀ c r:Int,-1<=c->Q (zEx c r p q,.cl))->EvP (F [ptD p,ptD q]) Q
theorem zUD (ew:J.fns[nw]?=some (("whole_part":Str),Fw))(em:J.fns[nm]?=some (("middle":Str),Fm))(hw:WpF Fw)(hm:MidF Fm):PcF (dFun 2 4 (evSs J (pcB nw nm))):=λp q n Q h1 h2 hn h=>by
 (walk_at "d");unfold pcB;(walk_at "st");(walk_at "w");refine hm _ _ n _ h1.x h2.x hn λ_ _=>?_
 (walk_at "w");refine hw _ _ λc=>?_
 (walk_at "w");refine hm _ _ n _ h1.y h2.y hn λ_ _=>?_
 (walk_at "w");refine hw _ _ λr=>?_
 (walk_at "w");exact h _ _ (by omega)
noncomputable def onB:S:=.cons (.ret (.andl (.cons (.cmp .Lt (.ix (.var 2) (.int 0)) (.var 0)) (.cons (.chn .LtE .Lt (.int 0) (.ix (.var 2) (.int 1)) (.var 1)) .nil)))) .nil
def OnF (F:List D->Option R):Prop:=∀ (w h c r:Int) (p q:Pt) (Q:R->Prop),(∀ b,(b=true->c < w/\0<=r/\r < h)->Q (.bl b,.cl))->EvP (F [.int w,.int h,zEx c r p q]) Q
def zUE :OnF (dFun 3 3 (evSs J onB)):=λw h c r p q Q a=>by
 (walk_at "d");unfold onB;(walk_at "st");(walk_at "w");refine zA8 (λz1=>?_) λz1=>?_
 .refine zHc (zOU ?_);(walk_at "w");refine zA8 (λz2=>?_) λz2=>?_
  ·(walk_at "w");exact a _ λz=>⟨z1,z2,of_decide_eq_true z⟩
  ·(walk_at "w");exact a _ λz=>nomatch z
 ·(walk_at "w");exact a _ λz=>nomatch z
noncomputable def zHI (ns np no:Nat):S:=.cons (.ife (.cmp .Eq (.ix (.var 2) (.int 0)) (.ix (.var 2) (.int 1))) (.cons (.ret (.lst .nil)) .nil) .nil) (.cons (.set 3 (.call ns "stops" (.cons (.var 0) (.cons (.var 1) (.cons (.var 2) .nil))))) (.frz 3 (.cons (.setC 4 (.comp1 5 [] "k" (.r1 (.bin .Sub (.len (.var 3)) (.int 1))) .nil (.call np "piece_between" (.cons (.ix (.var 3) (.var 5)) (.cons (.ix (.var 3) (.bin .Add (.var 5) (.int 1))) .nil))))) (.frz 4 (.cons (.ret (.comp1 5 [] "part" (.it (.var 4)) (.cons (.call no "counts_on" (.cons (.var 0) (.cons (.var 1) (.cons (.var 5) .nil)))) .nil) (.var 5))) .nil)))))
def isC (n:Nat)(d:D):Prop:=∃ (c r:Int) (p q:Pt),d=zEx c r p q/\-1<=c/\PB n p/\PB n q
def isZ (n w h:Nat)(d:D):Prop:=∃ (c r:Int) (p q:Pt),d=zEx c r p q/\-1<=c/\c < w/\0<=r/\r < h/\PB n p/\PB n q
def zHn (F:List D->Option R):Prop:=∀ (w h:Nat) (s:Pt×Pt) (n:Nat) (Q:R->Prop),PB n s.1->PB n s.2->8*n+20<=10000000->w<=100->h<=100->(∀ ds,ds.length<=w+h+4->(∀ d∈ds,isZ (8*n+20) w h d)->Q (.lst ds,.fr))->EvP (F [.int w,.int h,zGK s]) Q
def zJ1 (es:J.fns[ns]?=some (("stops":Str),Fs))(S:J.fns[np]?=some (("piece_between":Str),Fp))(T:J.fns[no]?=some (("counts_on":Str),Fo))(K:zLr Fs)(A:PcF Fp)(H:OnF Fo) :
  zHn (dFun 3 5 (evSs J (zHI ns np no))):=λw h s n Q h1 h2 F C M o=>by
 (walk_at "d");unfold zHI;(walk_at "st");refine zAG ?_;(walk_at "e");refine c_eq (zEb (zIQ _) (zIQ _) (by decide)) ?_;(walk_at "e");refine zF0 (λ_=>?_) λ_=>?_
 ·(walk_at "w");exact o [] (zero_le _) (by simp)
 refine zDo (k_nx (zAG ?_));(walk_at "e");refine K w h s n _ h1 h2 F C M λl O P m=>?_
 (walk_at "e");refine zIG rfl ?_;(walk_at "s");refine zAG (zHf (zCq (zMC ?_)));(walk_at "e");refine⟨by omega,by rw[zAd];omega,?_⟩;refine zFC (n:=5) (base:=[_,_,_,_,_]) rfl (isC (8*n+20)) _ _ (λy j=>⟨true,rfl,λ_=>?_⟩) λps B _ I=>?_
 .obtain ⟨k,rfl,N,U⟩:=zHB j;(walk_at "c");obtain⟨a,D,L⟩:=zF6 (ds:=l) N (by omega);obtain⟨b,u,x⟩:=zF6 (ds:=l) (k:=k+1) (by omega) (by omega);obtain⟨p,rfl,g⟩:=m a D;obtain⟨q,rfl,f⟩:=m b u;(walk_at "w");refine zA5 L ?_;(walk_at "w");refine zA5 x ?_;(walk_at "w");refine A _ _ _ _ g f (by omega) λc r i=>?_
  (walk_at "w");exact⟨c,r,p,q,rfl,i,g,f⟩
 rw[zAd] at B;(walk_at "e");refine zIG rfl ?_;(walk_at "s");refine zAG (zBo (zCq (zJc ?_)));(walk_at "e");refine⟨by omega,?_⟩;refine zFC (n:=5) (base:=[_,_,_,_,_]) rfl (isZ (8*n+20) w h) _ _ (λy j=>as_b ?_) λzs R _ E=>?_
 .obtain ⟨c,r,p,q,rfl,i,g,f⟩:=I y j;(walk_at "c");(walk_at "w");refine H _ _ _ _ _ _ _ λb t=>?_
  (walk_at "w");intro z;obtain⟨v,G,r1⟩:=t z;(walk_at "w");exact⟨c,r,p,q,rfl,i,v,G,r1,g,f⟩
 ·(walk_at "w");exact o _ (by omega) E
noncomputable def rsD (qs:List Rat):D:=.tup (qs.map ratD)
noncomputable def lowL:S:=.cons (.set 4 (.bin .Mod (.var 2) (.var 3))) (.frz 3 (.cons (.set 2 (.var 3)) (.cons (.set 3 (.var 4)) .nil)))
noncomputable def lowB:S:=.cons (.set 2 (.abs (.var 0))) (.cons (.set 3 (.var 1)) (.cons (.whl (.cmp .Gt (.var 3) (.int 0)) lowL) (.cons (.ret (.tup (.cons (.bin .FloorDiv (.var 0) (.var 2)) (.cons (.bin .FloorDiv (.var 1) (.var 2)) .nil)))) .nil)))
def LowF (F:List D->Option R):Prop:=∀ (t b:Int) (Q:R->Prop),0 < b->Q (ratD (Rat.divInt t b),.cl)->EvP (F [.int t,.int b]) Q
def zMf :∀ (n:Nat) (a b:Int) (r:Option (D×Bool)),b.toNat<=n->0<=a->0<=b->(∀ r',Q (.nx [x0,x1,some (.int (Int.gcd a b:Int),false),some (.int 0,false),r'])) ->
  EvP (zBV (asB (evE J (.cmp .Gt (.var 3) (.int 0)))) (evSs J lowL) [x0,x1,some (.int a,false),some (.int b,false),r]) Q:=by
 intro n
 induction n with
 | zero =>
  intro a b r f c d q;have e:b=0:=by omega
  subst e;refine zB6 (as_b ?_);(walk_at "w");refine zDp (Int.lt_irrefl 0) ?_;have:(Int.gcd a 0:Int)=a:=by rw[Int.gcd_zero_right];omega
  rw[this] at q;exact q r
 | succ n g =>
  intro a b r f c d q;by_cases e:b=0
  .subst e;refine zB6 (as_b ?_);(walk_at "w");refine zDp (Int.lt_irrefl 0) ?_;have:(Int.gcd a 0:Int)=a:=by rw[Int.gcd_zero_right];omega
   rw[this] at q;exact q r
  .refine zB6 (as_b ?_);(walk_at "w");refine zIX (show 0 < b by omega) ?_;unfold lowL;(walk_at "w");refine zBD e ?_;(walk_at "w");have h1:=xQ a (show 0 < b by omega);have h2:=fmod_lt_of_pos a (show 0 < b by omega);refine g b (a.fmod b) (some (.int (a.fmod b),false)) (by omega) d h1 λr'=>?_
   rw[DM.zID c (by omega)];exact q r'
def zR9 :LowF (dFun 2 5 (evSs J lowB)):=λt b Q e h=>by
 (walk_at "d");unfold lowB;(walk_at "st");(walk_at "w");refine zMf _ _ _ none (le_refl _) (Int.natCast_nonneg _) (Int.le_of_lt e) λr'=>?_
 have c:((Int.gcd (t.natAbs:Int) b:Nat):Int)=DM.msr t b:=by
  unfold DM.msr;rw[if_neg (by omega)];unfold Int.gcd;simp only[Int.natAbs_natCast]
 rw[c];refine k_nx ?_;have a:b≠0:=by omega
 (walk_at "w");refine zCP (DM.zKV a) ?_;(walk_at "w");refine zCP (DM.zKV a) ?_;(walk_at "w");rw[DM.zHP a,DM.zKX a];exact h
def zTW (a:List Rat):DOk 2 (rsD a):=zFx λd h=>by
 obtain⟨q,_,rfl⟩:=mem_map.mp h;exact zEd q
def zC6 (h:EvP (evE J el (G.set n (some (z,false)))) λr=>r.2≠.dt/\EvP (zCt (tg1 n) (evC J .nil) (evE J el) zs (G.set n (some (z,false)))) λys=>Q (r.1::ys)):EvP (zCt (tg1 n) (evC J .nil) (evE J el) (z::zs) G) Q:=by
 obtain⟨r,e,b,ys,a,q⟩:=h;refine⟨_,?_,q⟩;show (tg1 n z G).bind _=_;unfold tg1 at a ⊢;rw[ zDe];rw[zDe] at a
 simp_all
def zOc (h:Q []):EvP (zCt (tg1 n) (evC J .nil) (evE J el) [] G) Q:=⟨_,rfl,h⟩
noncomputable def zLf (n1 n0:Nat):S:=.cons (.ret (.tup (.cons (.glob n1 "ONE") (.cons (.glob n0 "NOUGHT") (.cons (.glob n0 "NOUGHT") (.cons (.glob n0 "NOUGHT") (.cons (.glob n0 "NOUGHT") .nil))))))) .nil
def zOh (F:List D->Option R):Prop:=∀ (Q:R->Prop),Q (rsD [1,0,0,0,0],.cl)->EvP (F []) Q
def zNZ (a:J.cs[n1]?=some (("ONE":Str),.tup [.int 1,.int 1]))(b:J.cs[n0]?=some (("NOUGHT":Str),.tup [.int 0,.int 1])):zOh (dFun 0 0 (evSs J (zLf n1 n0))):=λQ h=>by
 (walk_at "d");unfold zLf;(walk_at "w");exact h
noncomputable def zRM (nm n1:Nat):S:=.cons (.ret (.call nm "minus" (.cons (.glob n1 "ONE") (.cons (.var 0) .nil)))) .nil
def zJI (F:List D->Option R):Prop:=∀ (q:Rat) (n:Nat) (Q:R->Prop),RB n q->n<=50000000->Q (ratD (1 - q),.cl)->EvP (F [ratD q]) Q
theorem zOv (em:J.fns[nm]?=some (("minus":Str),Fm))(e1:J.cs[n1]?=some (("ONE":Str),.tup [.int 1,.int 1]))(hm:zFP Fm):zJI (dFun 1 1 (evSs J (zRM nm n1))):=λq n Q hq l h=>by
 refine zQL rfl (by decide) (zAG (zBo (zAL em (zAH (zCC e1 ?_)))));rw[zPH];(walk_at "w");exact h
noncomputable def zPR (nt:Nat):S:=.cons (.ret (.tupl (.comp1 2 [] "part" (.it (.var 0)) .nil (.call nt "times" (.cons (.var 2) (.cons (.var 1) .nil)))))) .nil
def zHo (F:List D->Option R):Prop:=∀ (d:D) (qs:List Rat) (r:Rat) (m n:Nat) (Q:R->Prop),(d=rsD qs\/d=.lst (qs.map ratD))->qs.length<=100->(∀ q∈qs,RB m q)->RB n r->m+n<=60000000->Q (rsD (qs.map (·*r)),.cl)->EvP (F [d,ratD r]) Q
def zPQ (c:J.fns[nt]?=some (("times":Str),Ft))(i:zDr Ft):zHo (dFun 2 2 (evSs J (zPR nt))):=λd a r m n Q e g hq j l h=>by
 (walk_at "d");unfold zPR;(walk_at "st");refine zAG (zBo (zLE (zCq (zJc (zAN rfl ?_)))));refine⟨a.map ratD,(λz=>nomatch z),?_,?_⟩
 .rcases e with rfl | rfl
  .exact .inr rfl
  .exact .inl rfl
 refine⟨by rw[qy];omega,?_⟩;refine zLc (J:=J) (base:=[some (d,false),some (ratD r,false)]) rfl ratD (λq=>ratD (q*r)) a none ?_ ?_
 .intro q f;have b:=hq q f;refine zAL c ?_;show EvP (evEs J _ [some (d,false),some (ratD r,false),some (ratD q,false)]) _;(walk_at "w")
  rfl
 .refine zQ0 ?_;(walk_at "w");unfold rsD at h;rw[map_map] at h;exact h
noncomputable def zOr (nm np:Nat):S:=.cons (.set 2 (.call nm "multiplied" (.cons (.var 1) (.cons (.ix (.var 0) (.int 0)) .nil)))) (.cons (.ret (.tupl (.comp1 3 [] "k" (.r1 (.int 4)) .nil (.call np "plus" (.cons (.ix (.var 0) (.bin .Add (.int 1) (.var 3))) (.cons (.ix (.var 2) (.var 3)) .nil)))))) .nil)
structure Fm where
 k:Rat
 a:Rat
 r:Rat
 g:Rat
 b:Rat
structure Gr where
 a:Rat
 r:Rat
 g:Rat
 b:Rat
noncomputable def fmD (f:Fm):D:=rsD [f.k,f.a,f.r,f.g,f.b]
noncomputable def grD (x:Gr):D:=rsD [x.a,x.r,x.g,x.b]
structure FB (n:Nat)(f:Fm):Prop where
 k:RB n f.k
 a:RB n f.a
 r:RB n f.r
 g:RB n f.g
 b:RB n f.b
structure GB (n:Nat)(x:Gr):Prop where
 a:RB n x.a
 r:RB n x.r
 g:RB n x.g
 b:RB n x.b
def FB.mono (h:FB m f)(l:m<=n):FB n f:=⟨h.k.mono l,h.a.mono l,h.r.mono l,h.g.mono l,h.b.mono l⟩
noncomputable def sn (f:Fm)(x:Gr):Gr:=⟨f.a+x.a*f.k,f.r+x.r*f.k,f.g+x.g*f.k,f.b+x.b*f.k⟩
def zQs (F:List D->Option R):Prop:=∀ (f:Fm) (x:Gr) (m n:Nat) (Q:R->Prop),FB m f->GB n x->m+n<=10000000->Q (grD (sn f x),.cl)->EvP (F [fmD f,grD x]) Q
def zOq {Fm:List D->Option R}(k:J.fns[nm]?=some (("multiplied":Str),Fm))(g:J.fns[np]?=some (("plus":Str),Fp))(c:zHo Fm)(u:zGu Fp):zQs (dFun 2 3 (evSs J (zOr nm np))):=λf x m n Q a b l h=>by
 (walk_at "d");unfold zOr;(walk_at "st");refine zAG (zCc (zAL k ?_));(walk_at "w");refine zDJ (d:=ratD f.k) rfl ?_;(walk_at "w");refine c (grD x) [x.a,x.r,x.g,x.b] f.k n m _ (.inl rfl) (zzb rfl) ?_ a.k (by omega) ?_
 .intro q hq;simp only[mem_cons,not_mem_nil,or_false] at hq;rcases hq with rfl | rfl | rfl | rfl
  .exact b.a
  .exact b.r
  .exact b.g
  .exact b.b
 (walk_at "w");refine zLE (zCq (zMC ?_));(walk_at "w");refine⟨by decide,?_⟩;refine⟨by decide,?_⟩;show EvP (zCt (tg1 3) (evC J .nil) _ [.int 0,.int 1,.int 2,.int 3] [some (fmD f,false),some (grD x,false),some (rsD [x.a*f.k,x.r*f.k,x.g*f.k,x.b*f.k],false),none]) _;have step:∀ (i j:Int) (p q:Rat) (o:Option (D×Bool)) (Q:R->Prop),atI ([f.k,f.a,f.r,f.g,f.b].map ratD) (1+i)=some (ratD p)->atI ([x.a*f.k,x.r*f.k,x.g*f.k,x.b*f.k].map ratD) i=some (ratD q)->RB m p->RB (n+m) q->Q (ratD (p+q),.cl) ->
   EvP (evE J (.call np "plus" (.cons (.ix (.var 0) (.bin .Add (.int 1) (.var 3))) (.cons (.ix (.var 2) (.var 3)) .nil))) [some (fmD f,false),some (grD x,false),some (rsD [x.a*f.k,x.r*f.k,x.g*f.k,x.b*f.k],false),some (.int i,false)]) Q:=by
  intro i j p q o Q r t b1 b2 e;refine zAL g ?_;(walk_at "w");refine zDJ r ?_;(walk_at "w");refine zDJ t ?_;(walk_at "w");exact e
 refine zC6 ?_;(walk_at "s");refine step 0 0 f.a (x.a*f.k) none _ rfl rfl a.a (zAo b.a a.k) ?_;refine n_cl (zC6 ?_);(walk_at "s");refine step 1 0 f.r (x.r*f.k) none _ rfl rfl a.r (zAo b.r a.k) ?_;refine n_cl (zC6 ?_);(walk_at "s");refine step 2 0 f.g (x.g*f.k) none _ rfl rfl a.g (zAo b.g a.k) ?_;refine n_cl (zC6 ?_);(walk_at "s");refine step 3 0 f.b (x.b*f.k) none _ rfl rfl a.b (zAo b.b a.k) ?_;refine n_cl (zOc ?_);refine zQ0 ?_;(walk_at "w");exact h
def zNS (a:0 < b)(h0:0<=t)(h1:t<=b):0<=Rat.divInt t b/\Rat.divInt t b<=1:=by
 refine⟨Rat.divInt_nonneg h0 (Int.le_of_lt a),?_⟩;have d:b≠0:=by omega
 have c:=(DM.zUu d (Rat.divInt t b)).mp rfl;have e:=zQj (Rat.divInt t b);rw[Rat.le_iff];show (Rat.divInt t b).num*1<=1*((Rat.divInt t b).den:Int);rw[Int.mul_one,Int.one_mul];refine Int.le_of_mul_le_mul_right ?_ a;rw[c,Int.mul_comm];exact Int.mul_le_mul_of_nonneg_left h1 (Int.le_of_lt e)
noncomputable def inkD (r g b:Int):D:=.tup [.int r,.int g,.int b]
noncomputable def inkB (nr nm:Nat):S:=.cons (.ret (.bin .Add (.tup (.cons (.call nr "rest_of" (.cons (.var 0) .nil)) (.cons (.var 0) .nil))) (.call nm "multiplied" (.cons (.comp1 2 [] "part" (.it (.var 1)) .nil (.tup (.cons (.var 2) (.cons (.int 1) .nil)))) (.cons (.var 0) .nil))))) .nil
noncomputable def zHT (s:Rat)(r g b:Int):Fm:=⟨1 - s,s,(r:Rat)*s,(g:Rat)*s,(b:Rat)*s⟩
def zE6 {i:Int}(h0:0<=i)(h1:i<=255):RB 8 (i:Rat):=zHx (zDm (k:=255) (by omega) (by simp)) (by simp)
def InkF (F:List D->Option R):Prop:=∀ (s:Rat) (r g b:Int) (n:Nat) (Q:R->Prop),RB n s->n<=10000000->(0<=r/\r<=255)->(0<=g/\g<=255)->(0<=b/\b<=255)->Q (fmD (zHT s r g b),.cl)->EvP (F [ratD s,inkD r g b]) Q
def b_tt (l:(x::xs).length+(y::ys).length<=10000)(h:Q (.tup ((x::xs)++(y::ys)),.cl)):EvP (binD .Add (.tup (x::xs)) (.tup (y::ys))) Q:=⟨_,if_pos l,h⟩
def zSK {Fm:List D->Option R}(i:J.fns[nr]?=some (("rest_of":Str),Fr))(f:J.fns[nm]?=some (("multiplied":Str),Fm))(e:zJI Fr)(c:zHo Fm):InkF (dFun 2 2 (evSs J (inkB nr nm))):=λs r g b n Q a l h1 h2 h3 h=>by
 (walk_at "d");unfold inkB inkD;(walk_at "st");(walk_at "w");refine e s n _ a (by omega) ?_;(walk_at "w");refine zC6 ?_;simp only[mask,cons_append,nil_append,List.set_cons_zero,List.set_cons_succ];(walk_at "w");refine zC6 ?_;(walk_at "s");(walk_at "w");refine zC6 ?_;(walk_at "s");(walk_at "w");refine zOc ?_;(walk_at "w");refine⟨(λz=>nomatch z),?_⟩;(walk_at "w");refine c _ [(r:Rat),(g:Rat),(b:Rat)] s 8 n _ (.inr rfl) (zzb rfl) ?_ a (by omega) ?_
 .intro q hq;simp only[mem_cons,not_mem_nil,or_false] at hq;rcases hq with rfl | rfl | rfl
  .exact zE6 h1.1 h1.2
  .exact zE6 h2.1 h2.2
  .exact zE6 h3.1 h3.2
 (walk_at "w");refine b_tt (zzb rfl) ?_;(walk_at "w");exact h
def zS8 (a:RB n s)(h1:0<=r/\r<=255)(h2:0<=g/\g<=255)(h3:0<=b/\b<=255):FB (n+8) (zHT s r g b):=by
 refine⟨(zCv zCS a).mono (by omega),a.mono (by omega),?_,?_,?_⟩
 .exact (zAo (zE6 h1.1 h1.2) a).mono (by omega)
 .exact (zAo (zE6 h2.1 h2.2) a).mono (by omega)
 .exact (zAo (zE6 h3.1 h3.2) a).mono (by omega)
noncomputable def rubB (nr n0:Nat):S:=.cons (.ret (.tup (.cons (.call nr "rest_of" (.cons (.var 0) .nil)) (.cons (.glob n0 "NOUGHT") (.cons (.glob n0 "NOUGHT") (.cons (.glob n0 "NOUGHT") (.cons (.glob n0 "NOUGHT") .nil))))))) .nil
def RubF (F:List D->Option R):Prop:=∀ (s:Rat) (n:Nat) (Q:R->Prop),RB n s->n<=10000000->Q (fmD ⟨1 - s,0,0,0,0⟩,.cl)->EvP (F [ratD s]) Q
def zRI (e:J.fns[nr]?=some (("rest_of":Str),Fr))(c:J.cs[n0]?=some (("NOUGHT":Str),.tup [.int 0,.int 1]))(b:zJI Fr):RubF (dFun 1 1 (evSs J (rubB nr n0))):=λs n Q a l h=>by
 (walk_at "d");unfold rubB;(walk_at "st");(walk_at "w");refine b s n _ a (by omega) ?_;(walk_at "w");exact h
noncomputable def zPd (nt ns:Nat):S:=.cons (.ret (.bin .Add (.tup (.cons (.call nt "times" (.cons (.ix (.var 0) (.int 0)) (.cons (.ix (.var 1) (.int 0)) .nil))) .nil)) (.call ns "seen" (.cons (.var 0) (.cons (.sl (.var 1) (.cons (.int 1) .nil) .nil) .nil))))) .nil
noncomputable def jn (f g:Fm):Fm:=⟨f.k*g.k,f.a+g.a*f.k,f.r+g.r*f.k,f.g+g.g*f.k,f.b+g.b*f.k⟩
def zUp (a:FB m f)(b:FB n g):FB (m+(n+m)+1) (jn f g) :=
 ⟨(zAo a.k b.k).mono (by omega),zCL a.a (zAo b.a a.k),zCL a.r (zAo b.r a.k),zCL a.g (zAo b.g a.k),zCL a.b (zAo b.b a.k)⟩
def zTn (F:List D->Option R):Prop:=∀ (f g:Fm) (m n:Nat) (Q:R->Prop),FB m f->FB n g->m+n<=10000000->Q (fmD (jn f g),.cl)->EvP (F [fmD f,fmD g]) Q
def fm_k (h:Q (ratD f.k,.cl)):EvP (ixD (fmD f) (.int 0)) Q:=zDJ rfl h
def zHZ (e:G[i]?=some (some (fmD f,false)))(h:Q (rsD [f.a,f.r,f.g,f.b],.cl)):EvP (evE J (.sl (.var i) (.cons (.int 1) .nil) .nil) G) Q:=by
 refine zTA (zAN e (zLR (zAh ⟨1,rfl,zOX ?_⟩)));refine⟨[ratD f.k,ratD f.a,ratD f.r,ratD f.g,ratD f.b],rfl,?_,h⟩;show ¬ (HT.sIx 5 0 _=0/\HT.sIx 5 5 none=5)
 decide
def zPc (i:J.fns[nt]?=some (("times":Str),Ft))(es:J.fns[ns]?=some (("seen":Str),Fs))(c:zDr Ft)(e:zQs Fs):zTn (dFun 2 2 (evSs J (zPd nt ns))):=λf g m n Q b a l h=>by
 (walk_at "d");unfold zPd;refine zAG (zBo (zAi (zII (zAH (zAL i (zAH (zC5 (zAN rfl (zAh (fm_k (n_cl (zAH (zC5 (zAN rfl (zAh (fm_k (n_cl (zAn ?_))))))))))))))))));refine c f.k g.k m n _ b.k a.k (by omega) ?_;refine n_cl (n_cl (zAn ⟨zzb rfl,?_⟩));refine zAL es (zAH (zAN rfl (n_cl (zAH (zHZ rfl (n_cl (zAn ?_)))))));refine e f ⟨g.a,g.r,g.g,g.b⟩ m n _ b ⟨a.a,a.r,a.g,a.b⟩ l ?_;refine n_cl ?_;refine b_tt (zzb rfl) ?_;simp;exact h
noncomputable def mixB (np nr nt nm:Nat):S:=.cons (.ret (.bin .Add (.tup (.cons (.call np "plus" (.cons (.call nr "rest_of" (.cons (.var 1) .nil)) (.cons (.call nt "times" (.cons (.var 1) (.cons (.ix (.var 0) (.int 0)) .nil))) .nil))) .nil)) (.call nm "multiplied" (.cons (.sl (.var 0) (.cons (.int 1) .nil) .nil) (.cons (.var 1) .nil))))) .nil
noncomputable def mx (f:Fm)(t:Rat):Fm:=⟨1 - t+t*f.k,f.a*t,f.r*t,f.g*t,f.b*t⟩
def zUo (b:FB m f)(a:RB n t):FB (m+n+n+3) (mx f t) :=
 ⟨(zCL (zCv zCS a) (zAo a b.k)).mono (by omega),(zAo b.a a).mono (by omega),(zAo b.r a).mono (by omega),(zAo b.g a).mono (by omega),(zAo b.b a).mono (by omega)⟩
def MixF (F:List D->Option R):Prop:=∀ (f:Fm) (t:Rat) (m n:Nat) (Q:R->Prop),FB m f->RB n t->m+n<=10000000->Q (fmD (mx f t),.cl)->EvP (F [fmD f,ratD t]) Q
def zRx (c:zHo F)(a:FB m f)(b:RB n t)(l:m+n<=10000000)(h:Q (rsD [f.a*t,f.r*t,f.g*t,f.b*t],.cl)):EvP (F [rsD [f.a,f.r,f.g,f.b],ratD t]) Q:=by
 refine c _ [f.a,f.r,f.g,f.b] t m n _ (.inl rfl) (zzb rfl) ?_ b (by omega) h;intro q hq
 simp_all
 rcases hq with rfl | rfl | rfl | rfl
 .exact a.a
 .exact a.r
 .exact a.g
 .exact a.b
def zRy {Fm:List D->Option R}(g:J.fns[np]?=some (("plus":Str),Fp))(o:J.fns[nr]?=some (("rest_of":Str),Fr))(j:J.fns[nt]?=some (("times":Str),Ft))(c:J.fns[nm]?=some (("multiplied":Str),Fm))(i:zGu Fp)(k:zJI Fr)(p:zDr Ft)(e:zHo Fm) :
  MixF (dFun 2 2 (evSs J (mixB np nr nt nm))):=λf t m n Q b a l h=>by
 (walk_at "d");unfold mixB;refine zAG (zBo (zAi (zII (zAH (zAL g (zAH (zAL o (zAH (zAN rfl (n_cl (zAn ?_))))))))))) ;refine k t n _ a (by omega) ?_;refine n_cl (n_cl (zAH (zAL j (zAH (zAN rfl (n_cl (zAH (zC5 (zAN rfl (zAh (fm_k (n_cl (zAn ?_)))))))))))));refine p t f.k n m _ a b.k (by omega) ?_;refine n_cl (n_cl (zAn ?_));refine i _ _ (1+n+1) (n+m) _ (zCv zCS a) (zAo a b.k) (by omega) ?_;refine n_cl (n_cl (zAn ⟨zzb rfl,?_⟩));refine zAL c (zAH (zHZ rfl (n_cl (zAH (zAN rfl (n_cl (zAn ?_)))))));refine zRx e b a l ?_;refine n_cl ?_;refine b_tt (zzb rfl) ?_;(walk_at "w");exact h
noncomputable def zLo (nm nr:Nat):S:=.cons (.set 2 (.call nm "multiplied" (.cons (.sl (.var 0) (.cons (.int 1) .nil) .nil) (.cons (.var 1) .nil)))) (.cons (.ret (.bin .Add (.tup (.cons (.call nr "rest_of" (.cons (.ix (.var 2) (.int 0)) .nil)) .nil)) (.var 2))) .nil)
noncomputable def al (f:Fm)(t:Rat):Fm:=⟨1 - f.a*t,f.a*t,f.r*t,f.g*t,f.b*t⟩
def zOi (F:List D->Option R):Prop:=∀ (f:Fm) (t:Rat) (m n:Nat) (Q:R->Prop),FB m f->RB n t->m+n<=10000000->Q (fmD (al f t),.cl)->EvP (F [fmD f,ratD t]) Q
def zNg {Fm:List D->Option R}(g:J.fns[nm]?=some (("multiplied":Str),Fm))(i:J.fns[nr]?=some (("rest_of":Str),Fr))(e:zHo Fm)(c:zJI Fr):zOi (dFun 2 3 (evSs J (zLo nm nr))):=λf t m n Q a b l h=>by
 (walk_at "d");unfold zLo;(walk_at "st");refine zAG (zCc (zAL g (zAH (zHZ rfl (n_cl (zAH (zAN rfl (n_cl (zAn ?_)))))))));refine zRx e a b l ?_;(walk_at "w");refine zDJ (d:=ratD (f.a*t)) rfl ?_;(walk_at "w");refine c _ (m+n) _ (zAo a.a b) (by omega) ?_;(walk_at "w");refine b_tt (zzb rfl) ?_;(walk_at "w");exact h
def zOZ (f:Fm):DOk 2 (fmD f):=zTW _
noncomputable def clr:Fm:=⟨1,0,0,0,0⟩
def zS9:FB 1 clr:=⟨zCS,zA3,zA3,zA3,zA3⟩
def zIv {a i:Rat}(h:0<=a)(h1:i<=1):a*i<=a:=by
 have:=Rat.mul_le_mul_of_nonneg_left h1 h;grind
end DL
end
section
namespace DL
open PySem Spec PyProof.Rows L2
inductive W where
 | dat (d:D) | loc (n:Nat) | tup (l:List W) | obj (c:Str) (ns:List Str) (l:List W) | ob (c:Str) (ns:List Str) (n:Nat) | di (t:Bool) (n:Nat)
noncomputable instance:Inhabited W:=⟨.dat .non⟩
abbrev Mem:=List (List W)
inductive CK where
 | lst | ins (c:Str) (ns:List Str) | dic (t:Bool)
abbrev CA:=Addr×CK
noncomputable def mutK (ns:List Str):Bool:=ns.any λn=>n==("grounds":Str)||n==("shapes":Str)
noncomputable def mutF (fs:List (Str×V)):Bool:=mutK (fs.map (·.1))
noncomputable def fz1:HO->Option HO
 | .tup xs=>some (.tup xs)
 | .frz o u=>some (.frz o u)
 | .ins C dx fs=>if mutF fs=true then none else some (.ins C dx fs)
 | _=>none
noncomputable def fzH (H:Hp):Hp:=λb=>(H b).bind fz1
def zS2 (h:fz1 o=some u):u=o:=by
 cases o<;>first | cases h;rfl | cases h | skip
 rename_i C a fs;replace h:(if mutF fs=true then none else some _)=some u:=h;grind
def zCa :fzH H b=some o<->H b=some o/\fz1 o=some o:=by
 unfold fzH;constructor
 .intro h;obtain⟨u,e,h⟩:=bind_some h;have:=zS2 h
  simp_all
 .simp_all
def zBP :Same (fzH H) H:=λb o h=>(zCa.mp h).1
def zE8 (h:H a=some (.frz o u)):fzH H a=some (.frz o u):=zCa.mpr ⟨h,rfl⟩
def zIE (h:H a=some (.ins C dx fs))(n:mutF fs=false):fzH H a=some (.ins C dx fs):=zCa.mpr ⟨h,by show (if mutF fs=true then none else some _)=_;rw[n];rfl⟩
def zAx (h:Same H H'):Same (fzH H) (fzH H'):=λb o q=>let ⟨q1,q2⟩:=zCa.mp q;zCa.mpr ⟨h _ _ q1,q2⟩
def zK3 (h:H a=some u)(h1:fz1 u=none)(h2:fz1 o=none):fzH (upd H a o)=fzH H:=by
 funext b;unfold fzH;by_cases e:b=a
 .subst e;rw[zAW,h];exact h2.trans h1.symm
 .rw [zAQ e]
def zOO (h:H a=some (.lst xs)):fzH (upd H a (.lst ys))=fzH H:=zK3 h rfl rfl
def zIP (h:zEc gs=true):mutF gs=false:=by
 unfold zEc zLY at h;rw[x8,all_eq_true] at h;unfold mutF mutK;rw[List.any_eq_false];intro n a z;have q:=h.2 n a;rw[Bool.or_eq_true,beq_iff_eq,beq_iff_eq] at z;rcases z with rfl | rfl
 .exact absurd q (by decide)
 .exact absurd q (by decide)
abbrev Kp (H H':Hp):Prop:=Same (fzH H) (fzH H')
def Kp.refl (H:Hp):Kp H H:=Same.refl _
def zRC {K:W.Frag}(h:SqT K H a xs):SqT K (fzH H) a xs:=by
 rcases h with (h | ⟨o,h⟩) | h
 .exact .inl (.inl ((zCa.mpr ⟨h,rfl⟩)))
 .exact .inl (.inr ⟨o,zE8 h⟩)
 .exact .inr h
mutual
noncomputable def noL:D->Bool
 | .lst _=>false
 | .tup ds=>noLs ds
 | .lam _ _ ds=>noLs ds
 | .obj _ _ ds=>noLs ds
 | .dct _=>false
 | _=>true
noncomputable def noLs:List D->Bool
 | []=>true
 | d::ds=>noL d&&noLs ds
end
section
variable {K:W.Frag}{H:Hp}
mutual
theorem Den.fz:∀ {d:D} {v:V},noL d=true->Den K H d v->Den K (fzH H) d v
 | .non,_,_,h=>by rw[Den] at h ⊢;exact h
 | .bl _,_,_,h=>by rw[Den] at h ⊢;exact h
 | .int _,_,_,h=>by rw[Den] at h ⊢;exact h
 | .str _,_,_,h=>by rw[Den] at h ⊢;exact h
 | .lst _,_,n,_=>by rw[noL] at n;cases n
 | .tup ds,_,n,h=>by
  rw[noL] at n;rw[Den] at h ⊢;obtain⟨a,vs,h1,h2,h3⟩:=h;exact⟨a,vs,h1,zRC h2,DenL.fz n h3⟩
 | .exc c,_,_,h=>by
  rw[Den] at h ⊢;obtain⟨a,o,u,C,h1,h2,h3⟩:=h;exact⟨a,o,u,C,h1,zE8 h2,h3⟩
 | .dct _,_,n,_=>by rw[noL] at n;cases n
 | .lam _ L ds,_,n,h=>by
  rw[noL] at n;rw[Den] at h ⊢;obtain⟨a,vs,h1,⟨cl,pm,c,ctv,oc,u1,g1,g2,g3,g4,g5,g6⟩,h3⟩:=h;exact⟨a,vs,h1,⟨cl,pm,c,ctv,oc,u1,zE8 g1,zE8 g2,g3,g4,g5,Paired.mapP g6 λ_ _ zy138=>by obtain⟨o,u,k1,k2⟩:=zy138;exact⟨o,u,zE8 k1,k2⟩⟩,DenL.fz n h3⟩
 | .obj _ ns ds,_,n,h=>by
  rw[noL] at n;rw[Den] at h ⊢;obtain⟨a,vs,h1,⟨C,dx,gs,g1,g2⟩,h3⟩:=h;exact⟨a,vs,h1,⟨C,dx,gs,zIE g1 (zIP g2.1),g2⟩,DenL.fz n h3⟩
 | .fn _ _,_,_,h=>by rw[Den] at h ⊢;exact h
theorem DenL.fz:∀ {ds:List D} {vs:List V},noLs ds=true->DenL K H ds vs->DenL K (fzH H) ds vs
 | [],_,_,h=>by rw[DenL] at h ⊢;exact h
 | d::ds,_,n,h=>by
  rw[noLs,x8] at n;rw[DenL] at h ⊢;obtain⟨v,ws,h1,h2,h3⟩:=h;exact⟨v,ws,h1,Den.fz n.1 h2,DenL.fz n.2 h3⟩
end
end
mutual
noncomputable def DenW (K:W.Frag)(H:Hp)(O:List CA):W->V->Prop
 | .dat d,v=>Den K (fzH H) d v
 | .loc n,v=>∃ a,O[n]?=some (a,.lst)/\v=.ref a
 | .ob c ns n,v=>∃ a,O[n]?=some (a,.ins c ns)/\v=.ref a
 | .di t n,v=>∃ a,O[n]?=some (a,.dic t)/\v=.ref a
 | .tup ws,v=>∃ a vs,v=.ref a/\fzH H a=some (.tup vs)/\DenWL K H O ws vs
 | .obj c ns ws,v=>∃ a vs,v=.ref a/\zLw K (fzH H) c ns a vs/\DenWL K H O ws vs
noncomputable def DenWL (K:W.Frag)(H:Hp)(O:List CA):List W->List V->Prop
 | [],vs=>vs=[]
 | w::ws,vs=>∃ v us,vs=v::us/\DenW K H O w v/\DenWL K H O ws us
end
def zCT {M:List CA}{n:Nat}{a:CA}(h:O[n]?=some a):(O++M)[n]?=some a:=by rw[getElem?_append_left (zzg h).1];exact h
section
variable {K:W.Frag}{H H':Hp}{O:List CA}
mutual
theorem DenW.monoF (e:zCf (fzH H) (fzH H'))(M:List CA):∀ {w:W} {v:V},DenW K H O w v->DenW K H' (O++M) w v
 | .dat _,_,h=>by rw[DenW] at h ⊢;exact h.monoF e
 | .loc n,_,h=>by
  rw[DenW] at h ⊢;obtain⟨a,h1,h2⟩:=h;exact⟨a,zCT h1,h2⟩
 | .ob c ns n,_,h=>by
  rw[DenW] at h ⊢;obtain⟨a,h1,h2⟩:=h;exact⟨a,zCT h1,h2⟩
 | .di t n,_,h=>by
  rw[DenW] at h ⊢;obtain⟨a,h1,h2⟩:=h;exact⟨a,zCT h1,h2⟩
 | .tup ws,_,h=>by
  rw[DenW] at h ⊢;obtain⟨a,vs,h1,h2,h3⟩:=h;exact⟨a,vs,h1,e _ _ h2 (λ_ _ _ z=>nomatch z),DenWL.monoF e M h3⟩
 | .obj c ns ws,_,h=>by
  rw[DenW] at h ⊢;obtain⟨a,vs,h1,h2,h3⟩:=h;exact⟨a,vs,h1,h2.monoF e,DenWL.monoF e M h3⟩
theorem DenWL.monoF (e:zCf (fzH H) (fzH H'))(M:List CA):∀ {ws:List W} {vs:List V},DenWL K H O ws vs->DenWL K H' (O++M) ws vs
 | [],_,h=>by rw[DenWL] at h ⊢;exact h
 | w::ws,_,h=>by
  rw[DenWL] at h ⊢;obtain⟨v,us,h1,h2,h3⟩:=h;exact⟨v,us,h1,DenW.monoF e M h2,DenWL.monoF e M h3⟩
end
def DenW.mono (e:Kp H H')(M:List CA)(h:DenW K H O w v):DenW K H' (O++M) w v:=h.monoF (λb o q _=>e b o q) M
def DenWL.mono (e:Kp H H')(M:List CA)(h:DenWL K H O ws vs):DenWL K H' (O++M) ws vs:=h.monoF (λb o q _=>e b o q) M
def DenW.keep (e:Kp H H')(h:DenW K H O w v):DenW K H' O w v:=by
 have:=h.mono e []
 simp_all
def DenWL.keep (e:Kp H H')(h:DenWL K H O ws vs):DenWL K H' O ws vs:=by
 have:=h.mono e []
 simp_all
def DenWL.nil:DenWL K H O [] []:=rfl
def DenWL.cons (h:DenW K H O w v)(t:DenWL K H O ws vs):DenWL K H O (w::ws) (v::vs):=⟨v,vs,rfl,h,t⟩
def DenWL.length:∀ {a:List W} {vs:List V},DenWL K H O a vs->a.length=vs.length
 | [],_,h=>by rw[DenWL] at h;rw[h];rfl
 | _::a,_,h=>by
  rw[DenWL] at h;obtain⟨v,us,h1,h2,h3⟩:=h;rw[h1,xX,xX,DenWL.length h3]
def DenWL.get:∀ {a:List W} {vs:List V} {i:Nat} {w:W},DenWL K H O a vs->a[i]?=some w->∃ v,vs[i]?=some v/\DenW K H O w v
 | [],_,_,_,_,e=>by simp at e
 | x::a,_,i,w,h,e=>by
  rw[DenWL] at h;obtain⟨v,us,h1,h2,h3⟩:=h;subst h1;cases i with
  | zero=>simp at e;subst e;exact⟨v,by simp,h2⟩
  | succ i =>
   obtain⟨u,c,b⟩:=DenWL.get (i:=i) (w:=w) h3 (by simpa using e);exact⟨u,by simpa using c,b⟩
def DenWL.append:∀ {a xs:List W} {vs us:List V},DenWL K H O a vs->DenWL K H O xs us->DenWL K H O (a++xs) (vs++us)
 | [],_,_,_,h,t=>by rw[DenWL] at h;subst h;exact t
 | _::a,_,_,_,h,t=>by
  rw[DenWL] at h;obtain⟨v,us',h1,h2,h3⟩:=h;subst h1;exact .cons h2 (DenWL.append h3 t)
def DenWL.set (b:DenW K H O w v):∀ {a:List W} {vs:List V} (n:Nat),DenWL K H O a vs->DenWL K H O (a.set n w) (vs.set n v)
 | [],_,n,h=>by rw[DenWL] at h;subst h;exact .nil
 | _::a,_,n,h=>by
  rw[DenWL] at h;obtain⟨u,us,h1,h2,h3⟩:=h;subst h1;cases n with
  | zero=>exact .cons b h3
  | succ n=>exact .cons h2 (DenWL.set b n h3)
def DenWL.dats:∀ {ds:List D} {vs:List V},DenL K (fzH H) ds vs->DenWL K H O (ds.map .dat) vs
 | [],_,h=>by rw[DenL] at h;subst h;exact .nil
 | d::ds,_,h=>by
  rw[DenL] at h;obtain⟨v,us,h1,h2,h3⟩:=h;subst h1;exact .cons (by rw[DenW];exact h2) (DenWL.dats h3)
end
noncomputable def kI:W->Option (List Int)
 | .dat (.int i)=>some [i]
 | .tup [.dat (.int i),.dat (.int j)]=>some [i,j]
 | _=>none
noncomputable def encK:List Int->Option Key
 | [i]=>some (Sum.inl i)
 | _=>none
noncomputable def encT:List Int->Option (List Key)
 | [i,j]=>some [Sum.inl i,Sum.inl j]
 | _=>none
def zC8 {a:Type}(K:W.Frag)(H:Hp)(O:List CA)(enc:List Int->Option a):List W->List (a×V)->Prop
 | [],kvs=>kvs=[]
 | w::ws,kvs=>∃ d ks k u v r,w=.tup [d,u]/\kI d=some ks/\enc ks=some k/\kvs=(k,v)::r/\DenW K H O u v/\zC8 K H O enc ws r
theorem zC8.monoF {a:Type}{K:W.Frag}{H H':Hp}{O:List CA}{enc:List Int->Option a}(e:zCf (fzH H) (fzH H'))(M:List CA):∀ {ws:List W} {kvs:List (a×V)},zC8 K H O enc ws kvs->zC8 K H' (O++M) enc ws kvs
 | [],_,h=>h
 | _::ws,_,⟨d,ks,k,u,v,r,h1,h2,h3,h4,h5,h6⟩=>⟨d,ks,k,u,v,r,h1,h2,h3,h4,h5.monoF e M,zC8.monoF e M h6⟩
def zC8.mono {a:Type}{K:W.Frag}{H g:Hp}{O:List CA}{c:List Int->Option a}(e:Kp H g)(M:List CA){f:List W}{d:List (a×V)}(h:zC8 K H O c f d):zC8 K g (O++M) c f d:=h.monoF (λb o q _=>e b o q) M
def zBG (K:W.Frag)(H:Hp)(O:List CA)(a:Addr)(ws:List W):CK->Prop
 | .lst=>∃ vs,H a=some (.lst vs)/\DenWL K H O ws vs
 | .ins c ns=>∃ C dx gs,H a=some (.ins C dx gs)/\mutF gs=true/\zBT K c C/\gs.map (·.1)=ns/\DenWL K H O ws (gs.map (·.2))
 | .dic false=>∃ kvs,H a=some (.dK kvs)/\zC8 K H O encK ws kvs
 | .dic true=>∃ kvs,H a=some (.dT kvs)/\zC8 K H O encT ws kvs
def zBG.monoF {K:W.Frag}(h:zBG K H O a ws k)(e:zCf (fzH H) (fzH H'))(q:H' a=H a)(M:List CA):zBG K H' (O++M) a ws k:=by
 match k,h with
 | .lst,⟨vs,h1,h2⟩=>exact⟨vs,q.trans h1,h2.monoF e M⟩
 | .ins c ns,⟨C,dx,gs,h1,h2,h3,h4,h5⟩=>exact⟨C,dx,gs,q.trans h1,h2,h3,h4,h5.monoF e M⟩
 | .dic false,⟨kvs,h1,h2⟩=>exact⟨kvs,q.trans h1,h2.monoF e M⟩
 | .dic true,⟨kvs,h1,h2⟩=>exact⟨kvs,q.trans h1,h2.monoF e M⟩
def zBG.mono {K:W.Frag}(h:zBG K H O a ws k)(e:Kp H H')(q:H' a=H a)(M:List CA):zBG K H' (O++M) a ws k:=h.monoF (λb o q _=>e b o q) q M
theorem zBG.some {K:W.Frag}(h:zBG K H O a ws k):∃ o,H a=some o/\fz1 o=none:=by
 match k,h with
 | .lst,⟨vs,h1,h2⟩=>exact⟨_,h1,rfl⟩
 | .ins c ns,⟨C,dx,gs,h1,h2,h3,h4,h5⟩=>exact⟨_,h1,if_pos h2⟩
 | .dic false,⟨kvs,h1,h2⟩=>exact⟨_,h1,rfl⟩
 | .dic true,⟨kvs,h1,h2⟩=>exact⟨_,h1,rfl⟩
structure zAD (K:W.Frag)(H:Hp)(O:List CA)(B:Mem):Prop where
 len:O.length=B.length
 nd:(O.map (·.1)).Nodup
 at_:∀ (n:Nat) ws,B[n]?=some ws->∃ p:CA,O[n]?=some p/\zBG K H O p.1 ws p.2
structure MS (K:W.Frag)(H:Hp)(O:List CA)(B:Mem)(σ:St)(G:List (Option W)):Prop where
 cells:zAD K H O B
 len:σ.length=G.length
 get:∀ (i:Nat) w,G[i]?=some (some w)->∃ v,σ[i]?=some (some v)/\DenW K H O w v
section
variable {K:W.Frag}{H H':Hp}{O:List CA}{B:Mem}
def zAD.cell (c:zAD K H O B){n:Nat}(d:O[n]?=some (a,k)):∃ ws,B[n]?=some ws/\zBG K H O a ws k:=by
 have b:n < B.length:=by rw[<- c.len];exact(zzg d).1
 obtain _:=c.at_ n _ (getElem?_eq_getElem b)
 simp_all
def zAD.cell' (c:zAD K H O B){n:Nat}(b:O[n]?=some (a,k))(e:B[n]?=some ws):zBG K H O a ws k:=by
 obtain⟨d,f,g⟩:=c.cell b;grind
def zAD.loc (c:zAD K H O B){n:Nat}(b:O[n]?=some (a,.lst)):∃ ws vs,B[n]?=some ws/\H a=some (.lst vs)/\DenWL K H O ws vs :=
 let ⟨ws,h1,vs,h2⟩:=c.cell b;⟨ws,vs,h1,h2⟩
def zAD.loc' (c:zAD K H O B){n:Nat}(d:O[n]?=some (a,.lst))(b:B[n]?=some ws):∃ vs,H a=some (.lst vs)/\DenWL K H O ws vs:=c.cell' d b
def zAD.same (h:zAD K H O B)(e:Same H H'):zAD K H' O B :=
 ⟨h.len,h.nd,λn a q=>let ⟨p,h1,h2⟩:=h.at_ n a q;let ⟨_,g,_⟩:=h2.some;⟨p,h1,by have:=h2.mono (zAx e) ((e _ _ g).trans g.symm) [];rwa [append_nil] at this⟩⟩
def zAD.out (h:zAD K H O B)(f:H x=some o)(g:fz1 o=some u):x∉O.map (·.1):=λz=>by
 obtain⟨p,a,rfl⟩:=mem_map.mp z;obtain⟨i,c,j⟩:=List.mem_iff_getElem.mp a;obtain⟨e,d,b⟩:=h.at_ i _ (getElem?_eq_getElem (by rw[<- h.len];exact c))
 simp_all
 obtain _:=b.some;grind
def zAD.outN (h:zAD K H O B)(g:H x=none):x∉O.map (·.1):=λz=>by
 obtain⟨p,a,rfl⟩:=mem_map.mp z;obtain⟨i,b,f⟩:=List.mem_iff_getElem.mp a;obtain⟨d,e,c⟩:=h.at_ i _ (getElem?_eq_getElem (by rw[<- h.len];exact b));obtain _:=c.some
 simp_all
def zAD.more (h:zAD K H O B){a:Addr}{k:CK}{d:List W}(n:a∉O.map (·.1))(t:zBG K H (O++[(a,k)]) a d k):zAD K H (O++[(a,k)]) (B++[d]):=by
 refine⟨by rw[List.length_append,List.length_append,h.len];rfl,?_,λm g q=>?_⟩
 .rw [xY,List.nodup_append];refine⟨h.nd,by simp,λb f c j=>?_⟩;rw[mem_singleton.mp j];rintro rfl;exact n f
 .by_cases lt:m < B.length
  .rw [getElem?_append_left lt] at q;obtain⟨p,e,i⟩:=h.at_ m g q;exact⟨p,zCT e,i.mono (Kp.refl H) rfl _⟩
  .rw [getElem?_append_right (by omega)] at q;have b:m - B.length=0:=by
    have:=(zzg q).1
    simp_all
   rw[b] at q;cases q;exact⟨_,by rw[getElem?_append_right (by rw[h.len];omega),h.len,b];rfl,t⟩
def zAD.newG (h:zAD K H O B)(e:Same H H')(n:H a=none)(t:zBG K H' (O++[(a,k)]) a ws k):zAD K H' (O++[(a,k)]) (B++[ws]):=(h.same e).more (h.outN n) t
def zAD.new (h:zAD K H O B)(e:Same H H')(n:H a=none)(b:H' a=some (.lst vs))(t:DenWL K H' (O++[(a,.lst)]) ws vs):zAD K H' (O++[(a,.lst)]) (B++[ws]):=h.newG e n ⟨vs,b,t⟩
def zAD.chgG (h:zAD K H O B)(z:n < B.length)(g:O[n]?=some (a,k))(h2:fz1 o=none)(t:Kp H (upd H a o)->zBG K (upd H a o) O a ws k):zAD K (upd H a o) O (B.set n ws)/\Kp H (upd H a o):=by
 have d:Kp H (upd H a o):=by
  obtain⟨_,_,h4⟩:=h.cell g;obtain⟨_,y,u⟩:=h4.some;show Same _ _;rw[zK3 y u h2];exact Same.refl _
 refine⟨⟨by rw[length_set];exact h.len,h.nd,λm r q=>?_⟩,d⟩;by_cases e:n=m
 .simp_all
 .rw [getElem?_set_ne e] at q;obtain⟨p,v,l⟩:=h.at_ m r q;have s:p.1≠a:=by
   rintro rfl;have w:(O.map (·.1))[n]?=some p.1:=by rw[getElem?_map,g];rfl
   have x:(O.map (·.1))[m]?=some p.1:=by rw[getElem?_map,v];rfl
   obtain⟨c,i⟩:=zzg w;obtain⟨b,j⟩:=zzg x;have f:=List.pairwise_iff_getElem.mp h.nd;rcases Nat.lt_or_gt_of_ne e with lt | lt
   .exact f n m c b lt (i.trans j.symm)
   .exact f m n b c lt (j.trans i.symm)
  have:=l.mono d (zAQ s) []
  simp_all
def zAD.change (h:zAD K H O B)(b:n < B.length)(c:O[n]?=some (a,.lst))(t:DenWL K H O ws vs):zAD K (upd H a (.lst vs)) O (B.set n ws):=(h.chgG b c rfl λkp=>⟨vs,zAW,t.keep kp⟩).1
def MS.next {σ:St}(h:MS K H O B σ G)(e:Kp H H')(c:zAD K H' (O++M) B'):MS K H' (O++M) B' σ G :=
 ⟨c,h.len,λi w q=>let ⟨v,q1,q2⟩:=h.get i w q;⟨v,q1,q2.mono e M⟩⟩
def MS.set {σ:St}(h:MS K H O B σ G)(b:DenW K H O w v):MS K H O B (σ.set i (some v)) (G.set i (some w)):=by
 refine⟨h.cells,by rw[length_set,length_set];exact h.len,λj x q=>?_⟩;rcases zAS q with ⟨rfl,z,a⟩ | ⟨ne,z⟩
 .cases z;exact⟨v,zBO (by rw[h.len];exact a),b⟩
 .obtain _:=h.get j x z
  simp_all
end
noncomputable def datA:List Str->List W->List (Str×D)
 | n::ns,.dat d::ws=>(n,d)::datA ns ws
 | _::ns,_::ws=>datA ns ws
 | _,_=>[]
noncomputable def dobj (c:Str)(ns:List Str)(ws:List W):D:=.obj c ((datA ns ws).map (·.1)) ((datA ns ws).map (·.2))
theorem zIS {K:W.Frag}{gs:List (Str×V)}:∀ {ns:List Str} {ws:List W} {vs:List V},(ns.map λn=>gs.lookup n)=vs.map some->DenWL K H O ws vs->∃ us,(((datA ns ws).map (·.1)).map λn=>gs.lookup n)=us.map some/\DenL K (fzH H) ((datA ns ws).map (·.2)) us
 | [],ws,_,_,_=>⟨[],by unfold datA;rfl,by unfold datA;exact .nil⟩
 | _::_,[],_,_,_=>⟨[],rfl,.nil⟩
 | n::ns,w::ws,vs,h,t=>by
  rw[DenWL] at t;obtain⟨v,us,rfl,t1,t2⟩:=t;simp only[map_cons,List.cons.injEq] at h;obtain⟨zs,z1,z2⟩:=zIS h.2 t2;cases w with
  | dat d =>
   rw[DenW] at t1;refine⟨v::zs,?_,.cons t1 z2⟩;show gs.lookup n::_=some v::_;rw[h.1,<- z1]
  | loc _=>exact⟨zs,z1,z2⟩
  | tup _=>exact⟨zs,z1,z2⟩
  | ob _ _ _=>exact⟨zs,z1,z2⟩
  | di _ _=>exact⟨zs,z1,z2⟩
  | obj _ _ _=>exact⟨zs,z1,z2⟩
def zIR {K:W.Frag}(h:DenW K H O (.obj c ns ws) v):Den K (fzH H) (dobj c ns ws) v:=by
 obtain⟨a,g,rfl,⟨C,f,d,h1,h2,h3,h4⟩,h5⟩:=h;obtain⟨us,b,e⟩:=zIS h4 h5;exact⟨a,us,rfl,⟨C,f,d,h1,h2,h3,b⟩,e⟩
mutual
noncomputable def sbW (f:Nat->Option D):W->Option D
 | .dat d=>some d
 | .loc n=>f n
 | .tup ws=>(sbL f ws).map .tup
 | .obj c ns ws=>some (dobj c ns ws)
 | .ob _ _ _=>none
 | .di _ _=>none
noncomputable def sbL (f:Nat->Option D):List W->Option (List D)
 | []=>some []
 | w::ws=>(sbW f w).bind λd=>(sbL f ws).map λds=>d::ds
end
noncomputable def drN (B:Mem):Nat->Nat->Option D
 | 0,_=>none
 | k+1,n=>(B[n]?).bind λws=>(sbL (drN B k) ws).map .lst
noncomputable def drW (B:Mem)(w:W):Option D:=sbW (drN B 6) w
noncomputable def drS (B:Mem)(G:List (Option W)):Dst:=G.map λo=>o.bind λw=>(drW B w).map λd=>(d,false)
section
variable {K:W.Frag}{H:Hp}{O:List CA}{B:Mem}
mutual
theorem zNy {f:Nat->Option D}(hf:∀ n d a,f n=some d->O[n]?=some (a,.lst)->Den K H d (.ref a)):∀ {w:W} {v:V} {d:D},DenW K H O w v->sbW f w=some d->Den K H d v
 | .dat x,v,d,h,e=>by
  rw[sbW] at e;cases e;rw[DenW] at h;exact h.mono zBP
 | .loc n,v,d,h,e=>by
  rw[sbW] at e;rw[DenW] at h;obtain⟨a,h1,rfl⟩:=h;exact hf n d a e h1
 | .tup ws,v,d,h,e=>by
  rw[sbW] at e;obtain⟨ds,e1,rfl⟩:=x9.mp e;rw[DenW] at h;obtain⟨a,vs,rfl,h2,h3⟩:=h;rw[Den];exact⟨a,vs,rfl,SqT.of (zBP _ _ h2),sb_denL hf h3 e1⟩
 | .obj c ns ws,v,d,h,e=>by
  rw[sbW] at e;cases e;exact(zIR h).mono zBP
 | .ob _ _ _,_,_,_,e=>by rw[sbW] at e;cases e
 | .di _ _,_,_,_,e=>by rw[sbW] at e;cases e
theorem sb_denL {f:Nat->Option D}(hf:∀ n d a,f n=some d->O[n]?=some (a,.lst)->Den K H d (.ref a)):∀ {ws:List W} {vs:List V} {ds:List D},DenWL K H O ws vs->sbL f ws=some ds->DenL K H ds vs
 | [],_,_,h,e=>by
  rw[sbL] at e;cases e;rw[DenWL] at h;subst h;exact .nil
 | w::ws,_,_,h,e=>by
  rw[sbL] at e;obtain⟨d,e1,e⟩:=bind_some e;obtain⟨ds,e2,rfl⟩:=x9.mp e;rw[DenWL] at h;obtain⟨v,us,rfl,h2,h3⟩:=h;exact .cons (zNy hf h2 e1) (sb_denL hf h3 e2)
end
theorem zLW (c:zAD K H O B):∀ (k n:Nat) (d:D) (a:Addr),drN B k n=some d->O[n]?=some (a,.lst)->Den K H d (.ref a)
 | 0,_,_,_,e,_=>by cases e
 | k+1,n,d,a,e,ha=>by
  obtain⟨ws,e1,e⟩:=bind_some e;obtain⟨ds,e2,rfl⟩:=x9.mp e;obtain⟨vs,q2,q3⟩:=c.loc' ha e1;rw[Den];exact⟨a,vs,rfl,SqL.of q2,sb_denL (zLW c k) q3 e2⟩
def zOY {σ:St}(h:MS K H O B σ G):DS K H [] σ (drS B G):=by
 refine⟨by unfold drS;rw[qy];exact h.len,λa z=>absurd z (by simp),λi d o q=>?_,λi j d e a c g _ _=>?_⟩
 .unfold drS at q;rw[getElem?_map] at q;obtain⟨x,f,b⟩:=x9.mp q;obtain⟨w,rfl,b⟩:=bind_some b;obtain⟨m,k,l⟩:=x9.mp b;cases l;obtain⟨v,c,g⟩:=h.get i w f;exact⟨v,c,.of_den ((zNy (zLW h.cells 6) g k))⟩
 .unfold drS at c;rw[getElem?_map] at c;obtain⟨x,f,b⟩:=x9.mp c;obtain _:=bind_some b
  simp_all
end
structure Mst where
 G:List (Option W)
 B:Mem
abbrev MR:=W×Mem
def gM (K:W.Frag)(g:Mst->Option MR):TE:=fun σ H Q=>∃ O G B r,MS K H O B σ G/\g ⟨G,B⟩=some r/\∀ v H' M,Kp H H'->zAD K H' (O++M) r.2->DenW K H' (O++M) r.1 v->Q v H'
def GM (X:Cx)(e:Expr)(g:Mst->Option MR):Prop:=PE X e (gM X.K g)
noncomputable def zF7 (r:R)(B:Mem):Option MR:=match r with
 | (d,.cl)=>if noL d=true then some (.dat d,B) else none
 | (.lst es,.fr)=>if noLs es=true then some (.loc B.length,B++[es.map .dat]) else none
 | _=>none
noncomputable def zMi (f:Dst->Option R):Mst->Option MR:=λs=>(f (drS s.B s.G)).bind λr=>zF7 r s.B
def zNi {K:W.Frag}(c:zAD K H O B)(e:Same H H')(h:RV K H H' [] r v)(q:zF7 r B=some z):∃ M,zAD K H' (O++M) z.2/\DenW K H' (O++M) z.1 v:=by
 unfold zF7 at q;split at q
 .rename_i d;by_cases n:noL d=true
  .rw [if_pos n] at q;cases q;refine⟨[],by rw[append_nil];exact c.same e,?_⟩;rw[DenW];exact h.fz n
  .rw [if_neg n] at q;cases q
 .rename_i es;by_cases n:noLs es=true
  .rw [if_pos n] at q;cases q;obtain⟨a,i,j,rfl,g,_,b,f,t⟩:=h;cases g;refine⟨[(a,.lst)],c.new e b f (DenWL.dats ((t.mono zAf).fz n)),?_⟩;rw[DenW];exact⟨a,by show _[B.length]?=_;rw[getElem?_append_right (by rw[c.len];omega),c.len,sub_self];rfl,rfl⟩
  .rw [if_neg n] at q;cases q
 .cases q
def zP1 (h:GE X e f):GM X e (zMi f):=h.imp fun σ H Q zz85=>by
 obtain⟨O,G,B,z,b,q,c⟩:=zz85;obtain⟨r,g,q⟩:=bind_some q;refine⟨[],drS B G,r,zOY b,g,λv j a r1=>?_⟩;obtain⟨M,i,d⟩:=zNi b.cells a r1 q;exact c v j M (zAx a) i d
section
variable {X:Cx}
noncomputable def varM (i:Nat):Mst->Option MR:=λs=>match s.G[i]? with
 | some (some w)=>some (w,s.B)
 | _=>none
def zSY (j:X.N[i]?=some x)(g:Vis X.env.scope x)(d:(x==("__debug__":Str))=false)(a:(x==("__classdict__":Str))=false):GM X (.Name x pos) (varM i):=by
 refine(zDD j g d a).imp fun σ H Q zz86=>?_
 obtain⟨O,G,B,r,b,q,c⟩:=zz86;unfold varM at q;split at q
 .rename_i w e;cases q;obtain⟨v,f,h⟩:=b.get i w e;exact⟨v,f,c v H [] (Kp.refl H) (by rw[append_nil];exact b.cells) (by rw[append_nil];exact h)⟩
 .cases q
abbrev MA:=List W×Mem
def gAM (K:W.Frag)(g:Mst->Option MA):TA:=fun σ H Q=>∃ O G B r,MS K H O B σ G/\g ⟨G,B⟩=some r/\∀ vs H' M,Kp H H'->zAD K H' (O++M) r.2->DenWL K H' (O++M) r.1 vs->Q vs H'
def GAM (X:Cx)(es:List Expr)(g:Mst->Option MA):Prop:=PA X es (gAM X.K g)
noncomputable def nilM:Mst->Option MA:=λs=>some ([],s.B)
def zQC:GAM X [] nilM:=zA2.imp fun σ H Q zz87=>by
 obtain⟨O,G,B,r,a,q,c⟩:=zz87;cases q;exact c [] H [] (Kp.refl H) (by rw[append_nil];exact a.cells) .nil
noncomputable def zNV (f:Mst->Option MR)(g:Mst->Option MA):Mst->Option MA:=λs=>(f s).bind λw=>(g ⟨s.G,w.2⟩).bind λws=>some (w.1::ws.1,ws.2)
def zM7 (s:GM X e f)(x:GAM X es g)(n:starEach (e::es) X.env=(false,eval e X.env)::starEach es X.env):GAM X (e::es) (zNV f g):=by
 refine(zAU s x n).imp fun σ H Q zz88=>?_
 obtain⟨O,G,B,r,i,q,c⟩:=zz88;obtain⟨w,j,q⟩:=bind_some q;obtain⟨k,t,q⟩:=bind_some q;cases q;refine⟨O,G,B,w,i,j,λv z h a l p=>⟨O++h,G,w.2,k,i.next a l,t,λvs u b d m o=>?_⟩⟩;refine c (v::vs) u (h++b) (a.trans d) (by rw[<- qJ];exact m) (.cons ?_ ?_)
 .rw [<- qJ];exact p.mono d b
 .rw [<- qJ];exact o
noncomputable def lstM (g:Mst->Option MA):Mst->Option MR:=λs=>(g s).bind λr=>if r.1.length<=10000 then some (.loc r.2.length,r.2++[r.1]) else none
def zDX {K:W.Frag}(c:zAD K H O B):DenW K H' (O++[(a,.lst)]) (.loc B.length) (.ref a):=by
 exact⟨a,by rw[getElem?_append_right (by rw[c.len];omega),c.len,sub_self];rfl,rfl⟩
abbrev MF:=List W->Mem->Option MR
def spM (K:W.Frag)(F:MF):Sp:=λvs H Q _=>∃ O B ws r,zAD K H O B/\DenWL K H O ws vs/\F ws B=some r/\∀ v H' M,Kp H H'->zAD K H' (O++M) r.2->DenW K H' (O++M) r.1 v->Q v H'
noncomputable def zLj (F:MF)(g:Mst->Option MA):Mst->Option MR:=λs=>(g s).bind λws=>F ws.1 ws.2
def zP2 {k:Nat}{f:Addr}{fd:FuncData}{ps:List Str}{F:MF}{x:Str}{p pos:Pos}{e:Expr}{es:List Expr}{g:Mst->Option MA}(m:FnOk X.prog X.w X.K X.mg X.base CX0 k f fd ps (spM X.K F))(D:Room k X.A)(h:Gl X x)(u:X.mg x=some (.ref f))
  (z:W.keepIn X.K (.ref f)=true) (i:zBH X.K fd ps []) (w:GAM X (e::es) g) (a:(x==("__debug__":Str))=false) (y:starEach (e::es) X.env=(false,eval e X.env)::starEach es X.env) (b:∀ pos,(backTo pos (starEach es X.env)).any (·.1)=false) :
  GM X (.Call (.Name x p) (e::es) [] pos) (zLj F g) :=
 (zJ6 m D h u z i .nil zHJ w a y (b pos)).imp λ_ _ _ q=>(by obtain⟨O,G,B,r,n,q,c⟩:=q;obtain⟨d,s,q⟩:=bind_some q;refine⟨O,G,B,d,n,s,λvs I M C o j=>?_⟩;simp;exact⟨O++M,d.2,d.1,r,o,j,q,λv l A t E H=>c v l (M++A) (C.trans t) (by simp_all) (by simp_all)⟩)
noncomputable def opM (o:D->D->Option R)(x y:W)(B:Mem):Option MR:=(drW B x).bind λa=>(drW B y).bind λb=>(o a b).bind λr=>zF7 r B
noncomputable def twoM (f g:Mst->Option MR)(o:W->W->Mem->Option MR):Mst->Option MR:=λs=>(f s).bind λx=>(g ⟨s.G,x.2⟩).bind λy=>o x.1 y.1 y.2
def OpW (K:W.Frag)(r:R2)(o:W->W->Mem->Option MR):Prop :=
 ∀ (H:Hp) (O:List CA) (B:Mem) (x y:W) (z:MR) (vx vy:V) (Q:VK),zAD K H O B->o x y B=some z->DenW K H O x vx->DenW K H O y vy->(∀ v H' M,Kp H H'->zAD K H' (O++M) z.2->DenW K H' (O++M) z.1 v->Q v H')->r vx vy H Q
def zKB (h:OpW X.K r o){σ:St}(q:gM X.K (twoM f g o) σ H Q):tOp r (gM X.K f) (gM X.K g) σ H Q:=by
 obtain⟨O,G,B,z,d,q,c⟩:=q;obtain⟨x,j,q⟩:=bind_some q;obtain⟨y,p,q⟩:=bind_some q;refine⟨O,G,B,x,d,j,λvx D b e u s=>⟨O++b,G,x.2,y,d.next e u,p,λvy w i a t l=>?_⟩⟩;refine h w _ y.2 x.1 y.1 z vx vy Q t q (s.mono a i) l λv n k m A C=>c v n (b++i++k) (e.trans (a.trans m)) ?_ ?_
 .grind
 .simp_all
noncomputable def ixW (x y:W)(B:Mem):Option MR:=match x,y with
 | .loc n,.dat (.int i)=>(B[n]?).bind λws=>(atI ws i).map λw=>(w,B)
 | .tup ws,.dat (.int i)=>(atI ws i).map λw=>(w,B)
 | .dat (.tup ds),.dat (.int i)=>(atI ds i).map λd=>(.dat d,B)
 | .dat (.lst ds),.dat (.int i)=>(atI ds i).map λd=>(.dat d,B)
 | _,_=>none
theorem DenWL.atI {K:W.Frag}(h:DenWL K H O ws vs)(e:atI ws i=some w):∃ v,L2.atI vs i=some v/\DenW K H O w v:=by
 unfold L2.atI at e ⊢;obtain⟨j,e1,e2⟩:=bind_some e;obtain⟨v,q1,q2⟩:=h.get e2;refine⟨v,?_,q2⟩;rw[<- h.length,e1];exact q1
def zRf:OpW X.K (λx y H Q=>rIxL X.K x y H Q\/rIxT X.K x y H Q) ixW:=λH O B x y z C A Q c e g f n=>by
 have h:∀ {w:W} {v:V},DenW X.K H O w v->z=(w,B)->Q v H:=λ{w v} d u=>by
  subst u;exact n v H [] (Kp.refl H) (by rw[append_nil];exact c) (by rw[append_nil];exact d)
 unfold ixW at e;split at e
 .rename_i m i;obtain⟨s,t,e⟩:=bind_some e;obtain⟨w,o,e⟩:=x9.mp e;rw[DenW] at g;rw[DenW] at f;rw[Den] at f;obtain⟨b,h1,rfl⟩:=g;obtain⟨j,p,q⟩:=c.loc' h1 t;obtain⟨v,k,l⟩:=q.atI o;exact .inl ⟨_,j,i,v,rfl,f,SqL.of p,k,h l e.symm⟩
 .rename_i s i;obtain⟨w,o,e⟩:=x9.mp e;rw[DenW] at g;rw[DenW] at f;rw[Den] at f;obtain⟨a,j,rfl,h2,h3⟩:=g;obtain⟨v,k,l⟩:=h3.atI o;exact .inr ⟨a,j,i,v,rfl,f,SqT.of (zBP _ _ h2),k,h l e.symm⟩
 .rename_i r i;obtain⟨d,o,e⟩:=x9.mp e;rw[DenW] at g;rw[DenW] at f;rw[Den] at g;rw[Den] at f;obtain⟨a,j,rfl,h2,h3⟩:=g;obtain⟨v,k,l⟩:=h3.atI o;exact .inr ⟨a,j,i,v,rfl,f,Same.tupS zBP h2,k,h (w:=.dat d) (by rw[DenW];exact l) e.symm⟩
 .rename_i r i;obtain⟨d,o,e⟩:=x9.mp e;rw[DenW] at g;rw[DenW] at f;rw[Den] at g;rw[Den] at f;obtain⟨a,j,rfl,h2,h3⟩:=g;obtain⟨v,k,l⟩:=h3.atI o;exact .inl ⟨a,j,i,v,rfl,f,zBP.seq h2,k,h (w:=.dat d) (by rw[DenW];exact l) e.symm⟩
 .cases e
end
section
variable {X:Cx}
abbrev MB:=Bool×Mem
def gBM (K:W.Frag)(g:Mst->Option MB):TT:=fun σ H Q=>∃ O G B r,MS K H O B σ G/\g ⟨G,B⟩=some r/\∀ H' M,Kp H H'->zAD K H' (O++M) r.2->Q r.1 H'
def GTM (X:Cx)(e:Expr)(g:Mst->Option MB):Prop:=PT X e (gBM X.K g)
def GWM (X:Cx)(e:Expr)(g:Mst->Option MB):Prop:=PW X e (gBM X.K g)
noncomputable def asBM (f:Mst->Option MR):Mst->Option MB:=λs=>match f s with
 | some (.dat (.bl b),B)=>some (b,B)
 | _=>none
def zLn (h:asBM f s=some r):f s=some (.dat (.bl r.1),r.2):=by
 unfold asBM at h;split at h
 .rename_i e;cases h;omega
 .cases h
def zQF {σ:St}(q:gBM X.K (asBM f) σ H Q):gM X.K f σ H λx H'=>∃ k,x=.bl k/\Q k H':=by
 obtain⟨O,G,B,r,d,e,c⟩:=q;refine⟨O,G,B,_,d,zLn e,λv H' M a b g=>⟨r.1,?_,c H' M a b⟩⟩;exact g
noncomputable def zMj (k:Dst->Option Bool):Mst->Option MB:=λs=>(k (drS s.B s.G)).map λb=>(b,s.B)
def zMv (h:GT X e k):GTM X e (zMj k):=h.imp fun σ H Q zz90=>by
 obtain⟨O,G,B,r,d,q,c⟩:=zz90;obtain⟨b,f,g⟩:=x9.mp q;cases g;exact⟨[],drS B G,b,zOY d,f,λH' a=>c H' [] (zAx a) (by rw[append_nil];exact d.cells.same a)⟩
def zPn (h:GM X e f)(a:∀ whole,isTrue e X.env whole=(do let v<-whole;standAt e.pos;holding [v] (truthy v))):GTM X e (asBM f) :=
 (zN2 h a).imp λ_ _ _ q=>zQF q
noncomputable def andB (f g:Mst->Option MB):Mst->Option MB:=λs=>(f s).bind λr=>if r.1=true then g ⟨s.G,r.2⟩ else some (false,r.2)
noncomputable def orB (f g:Mst->Option MB):Mst->Option MB:=λs=>(f s).bind λr=>if r.1=true then some (true,r.2) else g ⟨s.G,r.2⟩
noncomputable def notB (f:Mst->Option MB):Mst->Option MB:=λs=>(f s).map λr=>(!r.1,r.2)
def zPo (h:GTM X a f):GTM X (.UnaryOp .Not a pos) (notB f) :=
 (zN3 h).imp fun σ H Q zz91=>by
  obtain⟨O,G,B,r,b,q,c⟩:=zz91;obtain⟨z,e,i⟩:=x9.mp q;cases i;exact⟨O,G,B,z,b,e,λH' M g d=>c H' M g d⟩
def zPm (k:GTM X a f)(m:GWM X (.BoolOp .And (b::rest) pos) g):GWM X (.BoolOp .And (a::b::rest) pos) (andB f g):=by
 refine PW.imp (zN1 k m) fun σ H Q zz92=>?_
 obtain⟨O,G,B,r,h,q,c⟩:=zz92;obtain⟨⟨b1,i⟩,e1,q⟩:=bind_some q;cases b1 with
 | true =>
  rw[if_pos rfl] at q;refine⟨O,G,B,_,h,e1,λH1 M d e=>iteT ?_⟩;exact⟨O++M,G,i,r,h.next d e,q,λH2 l j n=>c H2 (M++l) (d.trans j) (by rw[<- qJ];exact n)⟩
 | false =>
  rw[if_neg qX] at q;cases q;exact⟨O,G,B,_,h,e1,λH1 M d e=>iteF (c H1 M d e)⟩
def zSL (k:GTM X a f)(j:GWM X (.BoolOp .Or (b::rest) pos) g):GWM X (.BoolOp .Or (a::b::rest) pos) (orB f g):=by
 refine PW.imp (zRQ k j) fun σ H Q zz93=>?_
 obtain⟨O,G,B,r,e,q,c⟩:=zz93;obtain⟨⟨b1,i⟩,e1,q⟩:=bind_some q;cases b1 with
 | true =>
  rw[if_pos rfl] at q;cases q;exact⟨O,G,B,_,e,e1,λH1 M d h=>iteT (c H1 M d h)⟩
 | false =>
  rw[if_neg qX] at q;refine⟨O,G,B,_,e,e1,λH1 M d h=>iteF ?_⟩;exact⟨O++M,G,i,r,e.next d h,q,λH2 m l n=>c H2 (M++m) (d.trans l) (by rw[<- qJ];exact n)⟩
inductive OutM where
 | nx (s:Mst) | rt (r:MR) | bk (s:Mst) | ct (s:Mst)
def zUx (K:W.Frag)(H0:Hp)(α0:List CA)(o:OutM)(E:Ends):Prop:=match o with
 | .nx s=>∀ M O1 H',MS K H' (α0++M) s.B O1 s.G->Kp H0 H'->E.nx O1 H'
 | .bk s=>∀ M O1 H',MS K H' (α0++M) s.B O1 s.G->Kp H0 H'->E.bk O1 H'
 | .ct s=>∀ M O1 H',MS K H' (α0++M) s.B O1 s.G->Kp H0 H'->E.ct O1 H'
 | .rt r=>∀ M v H',zAD K H' (α0++M) r.2->DenW K H' (α0++M) r.1 v->Kp H0 H'->E.rt v H'
def gSM (K:W.Frag)(H0:Hp)(α0:List CA)(g:Mst->Option OutM):TS:=λE σ H=>∃ M s o,MS K H (α0++M) s.B σ s.G/\Kp H0 H/\g s=some o/\zUx K H0 α0 o E
def GSM (X:Cx)(st:Stmt)(g:Mst->Option OutM):Prop:=∀ H0 α0,PS X st (gSM X.K H0 α0 g)
def GSsM (X:Cx)(st:List Stmt)(g:Mst->Option OutM):Prop:=∀ H0 α0,PSs X st (gSM X.K H0 α0 g)
noncomputable def seqM (f g:Mst->Option OutM):Mst->Option OutM:=λs=>(f s).bind λo=>match o with
 | .nx s'=>g s'
 | o=>some o
def zMw:GSsM X [] (λs=>some (.nx s)):=λH0 c=>zHE.imp λE σ H a=>by
 obtain⟨M,s,o,b,k,e,p⟩:=a;cases e;exact p M σ H b k
def zKr {st:Stmt}(h1:GSM X st f)(h2:GSsM X rest g):GSsM X (st::rest) (seqM f g):=λH0 d=>(zDz (h1 H0 d) (h2 H0 d)).imp λE σ H a=>by
 obtain⟨M,s,o,i,k,e,p⟩:=a;obtain⟨h,m,e⟩:=bind_some e;refine⟨M,s,h,i,k,m,?_⟩;cases h with
 | nx b=>exact λM' n q c l=>⟨M',b,o,c,l,e,p⟩
 | rt r=>cases e;exact p
 | bk b=>cases e;exact p
 | ct b=>cases e;exact p
noncomputable def setM (i:Nat)(f:Mst->Option MR):Mst->Option OutM:=λs=>(f s).bind λr=>some (.nx ⟨s.G.set i (some r.1),r.2⟩)
def zKs (q:X.N.Nodup)(t:X.N[i]?=some x)(m:Loc X.env.scope x)(h:GM X e f)(j:swapsWith e (some (.Name x pos')) pos.line X.env=pure false)(l:X.fn x=true\/X.env.scope.names.lookup x=some .local) :
  GSM X (.Assign [.Name x pos'] e pos) (setM i f):=λH0 y=>(zJy q t m h j l).imp λE σ H b=>by
 obtain⟨M,s,o,c,k,e,p⟩:=b;obtain⟨r,g,e⟩:=bind_some e;cases e;refine⟨y++M,s.G,s.B,r,c,g,λv n u d v w=>?_⟩;have a:=(c.next d v).set (i:=i) w;rw[qJ] at a;exact p (M++u) _ n a (k.trans d)
noncomputable def retM (f:Mst->Option MR):Mst->Option OutM:=λs=>(f s).bind λr=>some (.rt r)
def zPs (h:GM X e f):GSM X (.Return (some e) pos) (retM f):=λH0 l=>(zJz h).imp λE σ H a=>by
 obtain⟨M,s,o,m,k,e,p⟩:=a;obtain⟨r,g,e⟩:=bind_some e;cases e;refine⟨l++M,s.G,s.B,r,m,g,λv i j d b c=>?_⟩;rw[qJ] at b c;exact p (M++j) v i b c (k.trans d)
noncomputable def ifM (c:Mst->Option MB)(f g:Mst->Option OutM):Mst->Option OutM:=λs=>(c s).bind λb=>if b.1=true then f ⟨s.G,b.2⟩ else g ⟨s.G,b.2⟩
def zSS (v:GTM X c k)(t:GSsM X a f)(r:GSsM X b g):GSM X (.If c a b pos) (ifM k f g):=λH0 i=>(zRS v (t H0 i) (r H0 i)).imp λE σ H h=>by
 obtain⟨M,s,o,l,n,e,p⟩:=h;obtain⟨⟨b1,w⟩,e1,e⟩:=bind_some e;refine⟨i++M,s.G,s.B,_,l,e1,λH1 m j q=>?_⟩;have d:=l.next j q;rw[qJ] at d;cases b1 with
 | true =>
  rw[if_pos rfl] at e;exact iteT ⟨M++m,_,o,d,n.trans j,e,p⟩
 | false =>
  rw[if_neg qX] at e;exact iteF ⟨M++m,_,o,d,n.trans j,e,p⟩
noncomputable def appM (t f:Mst->Option MR):Mst->Option OutM:=λs=>(t s).bind λx=>match x.1 with
 | .loc n=>(f ⟨s.G,x.2⟩).bind λr=>(r.2[n]?).bind λws=>if ws.length<=10000 then some (.nx ⟨s.G,r.2.set n (ws++[r.1])⟩) else none
 | _=>none
def zPu (S:GM X b t)(h:GM X e f)
  (A:starEach [e] X.env=[(false,eval e X.env)]) (d:attributeBase b "append" X.env (eval b X.env)=eval b X.env) (c:(apos.endLine==cpos.line)=true) :
  GSM X (.Expr (.Call (.Attribute b "append" apos) [e] [] cpos) pos) (appM t f):=λH0 i=>(zFf (zO5 PySem.F.plainAttrs_list PySem.F.slot_list_append PySem.F.type_list_append zGR S (zAU h zA2 A) d (by rw[A];rfl) c A rfl) rfl).imp λE σ H j=>by
 obtain⟨M,s,o,K,k,e,p⟩:=j;obtain⟨x,U,e⟩:=bind_some e;split at e
 .rename_i n V;obtain⟨r,R,e⟩:=bind_some e;obtain⟨Q,J,e⟩:=bind_some e;by_cases hl:Q.length<=10000
  .rw [if_pos hl] at e;cases e;refine⟨i++M,s.G,s.B,x,K,U,λv H1 q P L G=>?_⟩;rw[V,DenW] at G;obtain⟨a,O,rfl⟩:=G;have u:=K.next P L;obtain⟨_,Z,_,Y,_⟩:=L.loc O;refine⟨.inl ⟨rfl,_,SqL.of Y⟩,i++M++q,s.G,x.2,r,u,R,λy v l N B W=>?_⟩;have z:=u.next N B;have g:=zCT (M:=l) O;obtain⟨w,I,F⟩:=B.loc' g J;refine⟨a,w,y,rfl,rfl,I,by rw[<- F.length];exact Nat.lt_of_le_of_lt hl (by decide),?_⟩;have C:n < r.2.length:=(zzg J).1;have E:Kp v (upd v a (.lst (w++[y]))):=by show Same _ _;rw[zOO I];exact Same.refl _
   have T:=B.change C g (F.append (.cons W .nil));have D:MS X.K (upd v a (.lst (w++[y]))) (i++(M++q++l)) (r.2.set n (Q++[r.1])) σ s.G:=by
    have m:=z.next (M:=[]) E (by rw[append_nil];exact T);rw[append_nil] at m;rw[show i++(M++q++l)=i++M++q++l by simp];exact m
   exact p (M++q++l) σ _ D (k.trans (P.trans (N.trans E)))
  .rw [if_neg hl] at e;cases e
 .cases e
end
section
variable {X:Cx}{K:W.Frag}{H:Hp}{O:List CA}{B:Mem}{σ:St}{G:List (Option W)}
def MS.chg (b:MS K H O B σ G){n:Nat}{a:Addr}{us vs:List V}{d:List W}(c:O[n]?=some (a,.lst))(e:H a=some (.lst us))(t:DenWL K H O d vs):MS K (upd H a (.lst vs)) O (B.set n d) σ G/\Kp H (upd H a (.lst vs)):=by
 have f:Kp H (upd H a (.lst vs)):=by show Same _ _;rw[zOO e];exact Same.refl _
 have m:=b.next f (by rw[append_nil];exact b.cells.change (by rw[<- b.cells.len];exact(zzg c).1) c t)
 simp_all
def DenWL.dropLast:∀ {a:List W} {vs:List V},DenWL K H O a vs->DenWL K H O a.dropLast vs.dropLast
 | [],_,h=>by rw[DenWL] at h;subst h;exact .nil
 | [w],_,h=>by
  rw[DenWL] at h;obtain⟨v,us,rfl,h2,h3⟩:=h;rw[DenWL] at h3;subst h3;exact .nil
 | w::w2::a,_,h=>by
  rw[DenWL] at h;obtain⟨v,us,rfl,h2,h3⟩:=h;have b:=h3;rw[DenWL] at h3;obtain⟨d,c,rfl,_,_⟩:=h3;exact .cons h2 (DenWL.dropLast b)
inductive Src where
 | items (ws:List W) | live (n:Nat)
noncomputable def itm (B:Mem):Src->Option (List W)
 | .items ws=>some ws
 | .live n=>B[n]?
def JOk (K:W.Frag)(J:It)(src:Src)(H1:Hp)(Y3:List CA):Prop :=
 ∀ (i:Nat) (H2:Hp) (γ:List CA) (μ2:Mem) (ws:List W),Kp H1 H2->zAD K H2 (Y3++γ) μ2->itm μ2 src=some ws->(ws[i]?=none->J.stop i H2)/\∀ w,ws[i]?=some w->J.go i H2/\∀ v H3,J.yld i H2 v H3->H3=H2/\DenW K H2 (Y3++γ) w v
def GIM (X:Cx)(tg iter:Expr)(g:Mst->Option (Src×Mem)):Prop:=∃ wi,PI X tg iter wi/\∀ (σ:St) (H:Hp) (O:List CA) (G:List (Option W)) (B:Mem) (r:Src×Mem) (Rr:It->Hp->Prop),MS X.K H O B σ G->g ⟨G,B⟩=some r ->
 (∀ J H1 M,Kp H H1->zAD X.K H1 (O++M) r.2->JOk X.K J r.1 H1 (O++M)->Rr J H1)->wi σ H Rr
def GGM (X:Cx)(tg:Expr)(t:W->Mst->Option Mst):Prop:=∃ g,PG X tg g/\∀ (w:W) (v:V) (σ:St) (H:Hp) (O:List CA) (s s':Mst) (Q:St->Hp->Prop),MS X.K H O s.B σ s.G->DenW X.K H O w v->t w s=some s'->(∀ O1,MS X.K H O s'.B O1 s'.G->Q O1 H)->g v σ H Q
noncomputable def tgM (i:Nat):W->Mst->Option Mst:=λw s=>some ⟨s.G.set i (some w),s.B⟩
def zFt (a:X.N.Nodup)(f:X.N[i]?=some x)(d:Loc X.env.scope x)(g:X.fn x=true\/X.env.scope.names.lookup x=some .local):GGM X (.Name x pos) (tgM i) :=
 ⟨_,zFh a f d g,λw v σ H O s h Q c b e q=>by
  cases e;exact q _ (c.set b)⟩
noncomputable def forN (t:W->Mst->Option Mst)(b:Mst->Option OutM)(src:Src):Nat->Nat->Mst->Option OutM
 | 0,_,_=>none
 | f+1,i,s=>(itm s.B src).bind λws=>match ws[i]? with
  | none=>some (.nx s)
  | some w=>(t w s).bind λs1=>(b s1).bind λo=>match o with
   | .nx s'=>forN t b src f (i+1) s'
   | .ct s'=>forN t b src f (i+1) s'
   | .bk s'=>some (.nx s')
   | .rt r=>some (.rt r)
theorem zEY :∀ {f i:Nat} {s:Mst} {o:OutM},forN t b src f i s=some o->forN t b src (f+1) i s=some o
 | 0,_,_,_,h=>by cases h
 | f+1,i,s,o,h=>by
  rw[forN] at h ⊢;obtain⟨ws,e1,h⟩:=bind_some h;rw[e1,qx];cases q:ws[i]? with
  | none=>rw[q] at h;exact h
  | some w =>
   rw[q] at h;dsimp only at h ⊢;obtain⟨s1,e2,h⟩:=bind_some h;obtain⟨o1,e3,h⟩:=bind_some h;rw[e2,qx,e3,qx];cases o1 with
   | nx s'=>exact zEY (f:=f) h
   | ct s'=>exact zEY (f:=f) h
   | bk s'=>exact h
   | rt r=>exact h
def zGc (h:forN t b src f i s=some o)(l:f<=g):forN t b src g i s=some o:=by
 induction g with
 | zero =>
      have:f=0:=by omega
      grind
 | succ g a =>
  by_cases q:f<=g
  .exact zEY (a q)
  .grind
open Classical in
def zFu (t:W->Mst->Option Mst)(b:Mst->Option OutM)(src:Src)(i:Nat)(s:Mst):Option OutM :=
 if h:∃ n o,forN t b src n i s=some o then some (Classical.choose (choose_spec h)) else none
def zM9 (h:forN t b src n i s=some o):zFu t b src i s=some o:=by
 have a:∃ n o,forN t b src n i s=some o:=⟨n,o,h⟩;unfold zFu;rw[dif_pos a];have c:=zGc h (Nat.le_max_right (Classical.choose a) n);rw[zGc (choose_spec (choose_spec a)) (Nat.le_max_left _ n)] at c;omega
def zK5 (h:zFu t b src i s=some o):∃ n,forN t b src n i s=some o:=by
 unfold zFu at h;by_cases ex:∃ n o,forN t b src n i s=some o
 .grind
 .simp_all
def zPt (hp:PassesOwn (model X.prog X.w) X.A X.env X.xe)(hc:X.calm=true)(hi:GIM X tg iter f)(O:GGM X tg t)(hb:GSsM X body b)
  (hs:∀ x,foldedSetIterable iter X.env x=pure x):GSM X (.For tg iter body [] pos) (λs=>(f s).bind λr=>zFu t b r.1 0 ⟨s.G,r.2⟩):=by
 intro H0 A;obtain⟨wi,T,hI⟩:=hi;obtain⟨g,O,hG⟩:=O;intro d s σ H E I ⟨M,P,o,W,K,e,p⟩;obtain⟨r,er,e⟩:=bind_some e;obtain⟨N,eN⟩:=zK5 e;refine(zN4 (tb:=λE σ k=>∃ n Q,gSM X.K n Q b E σ k) hp hc T O ?_ hs) d s σ H E I ?_
 .intro d s σ H E I ⟨n,Q,q⟩;exact hb n Q d s σ H E I q
 refine hI σ H (A++M) P.G P.B r _ W er λJ n D J c1 hJ=>?_
 refine⟨λi m F k=>∃ γ h,MS X.K k (A++M++D++γ) h.B F h.G/\Kp n k/\forN t b r.1 m i h=some o,⟨N,[],⟨P.G,r.2⟩,by rw[append_nil];exact W.next J c1,Kp.refl _,eN⟩,?_⟩;rintro i m F k ⟨γ,h,j,S,a⟩;cases m with
 | zero=>cases a
 | succ m =>
  rw[forN] at a;obtain⟨ws,ew,a⟩:=bind_some a;obtain⟨j1,j2⟩:=hJ i k γ h.B ws S j.cells ew;have c:∀ γ:List CA,A++M++D++γ=A++(M++D++γ):=fun γ=>by simp
  cases q:ws[i]? with
  | none =>
   rw[q] at a;cases a;rw[c] at j;exact .inl ⟨j1 q,p _ F k j (K.trans (J.trans S))⟩
  | some w =>
   rw[q] at a;dsimp only at a;obtain⟨V,e1,a⟩:=bind_some a;obtain⟨o1,e2,a⟩:=bind_some a;obtain⟨go,yl⟩:=j2 w q;refine .inr ⟨go,λO9 B=>∃ γ h,MS X.K B (A++M++D++γ) h.B O9 h.G/\Kp n B/\forN t b r.1 m (i+1) h=some o,λO9 B z=>⟨m,Nat.lt_succ_self m,z⟩,λv B y=>?_⟩;obtain⟨rfl,hv⟩:=yl v B y;refine hG w v F B _ h V _ j hv e1 λZ6 L=>⟨n,A++M++D,γ,V,o1,L,S,e2,?_⟩
   cases o1 with
   | nx G=>exact λO6 U C u l=>⟨O6,G,u,l,a⟩
   | ct G=>exact λO6 U C u l=>⟨O6,G,u,l,a⟩
   | bk G =>
    cases a;intro O6 U C u l;rw[c] at u;exact p _ U C u (K.trans (J.trans l))
   | rt z =>
    cases a;intro O6 v2 C Y Z l;rw[c] at Y Z;exact p _ v2 C Y Z (K.trans (J.trans l))
end
section
variable {X:Cx}
noncomputable def srcM (f:Mst->Option MR):Mst->Option (Src×Mem):=λs=>(f s).bind λr=>match r.1 with
 | .loc n=>some (.live n,r.2)
 | .tup ws=>some (.items ws,r.2)
 | .dat (.tup ds)=>some (.items (ds.map .dat),r.2)
 | .dat (.lst ds)=>some (.items (ds.map .dat),r.2)
 | _=>none
def zP3 (h:GM X iter f):GIM X tg iter (srcM f):=by
 refine⟨_,zN5 h,fun σ H O G B z Rr ms e q=>?_⟩;obtain⟨r,Q,e⟩:=bind_some e;refine⟨O,G,B,r,ms,Q,λv d M C x k=>?_⟩;have j:∀ {a:Addr} {g:List W} {b:List V},SqT X.K (fzH d) a b->DenWL X.K d (O++M) g b->JOk X.K (Itt X.K a) (.items g) d (O++M):=λ{a g b} E p i A γ J D m F s=>by
  cases s;have c:SqT X.K A a b:=Same.tupS zBP (Same.tupS m E);refine⟨λn=>⟨b,c,?_⟩,λw t=>?_⟩
  .rw [<- p.length];exact List.getElem?_eq_none_iff.mp n
  .obtain ⟨u,w,v⟩:=p.get t;refine⟨⟨b,u,c,w⟩,λv K y=>⟨y.1,?_⟩⟩;have:=y.2 b c;rw[w] at this;cases this;exact v.mono m γ
 have o:∀ {a:Addr} {g:List W} {b:List V},SqL X.K (fzH d) a b->DenWL X.K d (O++M) g b->JOk X.K (Itl X.K a) (.items g) d (O++M):=λ{a g b} E p i A γ J D m F s=>by
  cases s;have c:SqL X.K A a b:=zBP.seq (m.seq E);refine⟨λn=>⟨b,c,?_⟩,λw t=>?_⟩
  .rw [<- p.length];exact List.getElem?_eq_none_iff.mp n
  .obtain ⟨u,w,v⟩:=p.get t;refine⟨⟨b,u,c,w⟩,λv K y=>⟨y.1,?_⟩⟩;have:=y.2 b c;rw[w] at this;cases this;exact v.mono m γ
 split at e
 .rename_i n l;cases e;rw[l,DenW] at k;obtain⟨a,L,rfl⟩:=k;obtain⟨S,I,_,T,_⟩:=x.loc L;refine⟨a,rfl,.inl ⟨⟨I,SqL.of T⟩,q _ d M C x λi A γ J g m F s=>?_⟩⟩;obtain⟨b,v,P⟩:=F.loc' (zCT (M:=γ) L) s;have c:SqL X.K A a b:=SqL.of v;refine⟨λn=>⟨b,c,?_⟩,λw t=>?_⟩
  .rw [<- P.length];exact List.getElem?_eq_none_iff.mp n
  .obtain ⟨u,N,U⟩:=P.get t;refine⟨⟨b,u,c,N⟩,λv K y=>⟨y.1,?_⟩⟩;have:=y.2 b c;rw[N] at this;cases this;exact U
 .rename_i g l;cases e;rw[l,DenW] at k;obtain⟨a,b,rfl,h2,h3⟩:=k;exact⟨a,rfl,.inr ⟨⟨b,SqT.of (zBP _ _ h2)⟩,q _ d M C x (j (SqT.of h2) h3)⟩⟩
 .rename_i R l;cases e;rw[l,DenW,Den] at k;obtain⟨a,b,rfl,h2,h3⟩:=k;exact⟨a,rfl,.inr ⟨⟨b,Same.tupS zBP h2⟩,q _ d M C x (j h2 (DenWL.dats h3))⟩⟩
 .rename_i R l;cases e;rw[l,DenW,Den] at k;obtain⟨a,b,rfl,h2,h3⟩:=k;exact⟨a,rfl,.inl ⟨⟨b,zBP.seq h2⟩,q _ d M C x (o h2 (DenWL.dats h3))⟩⟩
 .cases e
noncomputable def zMF (f:Mst->Option MR):Mst->Option (Src×Mem):=λs=>(f s).bind λr=>match r.1 with
 | .dat (.int j)=>if -(2^62)<=j/\j < 2^62 then some (.items ((rngL 0 j.toNat).map .dat),r.2) else none
 | _=>none
def rngJ {K:W.Frag}(a:Int)(n:Nat):JOk K (Itr a n) (.items ((rngL a n).map .dat)) H1 Y3:=λi j γ l f h k e=>by
 cases e;have c:((rngL a n).map W.dat).length=n:=by unfold rngL;simp
 refine⟨λz=>?_,λw b=>?_⟩
 .have:=List.getElem?_eq_none_iff.mp z;rw[c] at this;exact this
 .have d:i < n:=by rw[<- c];exact(zzg b).1
  refine⟨d,λv g y=>⟨y.1,?_⟩⟩;have:((rngL a n).map W.dat)[i]?=some (.dat (.int (a+i))):=by unfold rngL;simp[d]
  rw[this] at b;cases b;exact y.2
def zI4 (m:Gl X "range")(c:X.mg "range"=none)(h:GM X a f)(b:starEach [a] X.env=[(false,eval a X.env)]):GIM X tg (.Call (.Name "range" p) [a] [] pos) (zMF f):=by
 refine⟨_,zGN m c (zAU h zA2 b) b,fun σ H O G B z Rr ms e q=>?_⟩;obtain⟨r,i,e⟩:=bind_some e;split at e
 .rename_i j n;by_cases hj:-(2^62)<=j/\j < 2^62
  .rw [if_pos hj] at e;cases e;refine⟨O,G,B,r,ms,i,λv d M k l g=>⟨j,?_,hj.1,hj.2,q _ d M k l (rngJ 0 _)⟩⟩
   simp_all
   rw[g]
  .simp_all
 .cases e
noncomputable def zT8 (f g:Dst->Option R):Mst->Option (Src×Mem):=λs=>(zMG f g (drS s.B s.G)).map λds=>(.items (ds.map .dat),s.B)
end
noncomputable def zAj (np nN:Nat)(g:Mst->Option OutM):MF:=λws B =>
 if ws.length=np/\np<=nN then (g ⟨ws.map some++List.replicate (nN - np) none,B⟩).bind λo=>match o with
  | .rt r=>some r
  | .nx s=>some (.dat .non,s.B)
  | _=>none
 else none
def zH8 {K:W.Frag}(c:zAD K H O B)(h:DenWL K H O ws vs)(g:ws.length<=N.length):MS K H O B (zBy N vs) (ws.map some++List.replicate (N.length - ws.length) none):=by
 have j:=h.length;refine⟨c,?_,λi w q=>?_⟩
 .unfold L2.zBy;grind
 .have b:i < ws.length:=by
   by_cases z:i < ws.length
   .exact z
   .rw [getElem?_append_right (by simpa using z),getElem?_replicate] at q;split at q<;>cases q
  rw[getElem?_append_left (by simpa using b),getElem?_map] at q;cases e:ws[i]? with
  | none=>rw[e] at q;cases q
  | some f =>
   rw[e] at q;cases q;obtain⟨v,a,d⟩:=h.get e;refine⟨v,?_,d⟩;unfold L2.zBy;rw[getElem?_append_left (by grind),getElem?_map,a]
   rfl
def zQG {K:W.Frag}{st:Stmt}(F:Fun K x qual st f fd)(S:zAV N ps (zAA st))
  (b:∀ (cdv:Value) (A:Around) (outer:List Env) (s:Shared) (H:Hp) (E:XK),Room k (A.deeper (envOfC qual (zAA st) s.heap.objs.size f cdv))->GSsM (cxOf CX0 P w K mg base N qual (zAA st) f cdv A outer s H E).nox (zAE st) g) :
  FnOk P w K mg base CX0 (k+1) f fd ps (spM K (zAj ps.length N.length g)):=by
 refine F.ok S (λvs H Q E h=>?_) λcdv A outer s H C Q E t h=>?_
 .obtain ⟨O,B,i,r,c,d,a,n⟩:=h;unfold zAj at a;by_cases q:i.length=ps.length/\ps.length<=N.length
  .rw [<- d.length];exact q.1
  .simp_all
 obtain⟨O,B,i,r,c,d,a,n⟩:=h;refine⟨_,b cdv A outer s H E t H O,?_⟩;unfold zAj at a;by_cases q:i.length=ps.length/\ps.length<=N.length
 .rw [if_pos q] at a;obtain⟨o,j,a⟩:=bind_some a;rw[<- q.1] at j;refine⟨[],_,o,by rw[append_nil];exact zH8 c d (by rw[q.1];exact q.2),Kp.refl H,j,?_⟩;cases o with
  | nx z =>
   cases a;exact λM y e m k=>n _ e M k m.cells (by rw[DenW,Den])
  | rt u =>
   cases a;exact λM v e l p k=>n v e M k l p
  | bk _=>cases a
  | ct _=>cases a
 .simp_all
def walkM {l:W.OpenLaw}{K:Params->W.Frag}(v:l.most=some 63)(j:d.params.defaults=[])(hq:importsNone q=true)(C:∀ w,(model l.prog w).prog.given.tree=none)(J:Room k callerA)(tl:List (Str×Addr×Addr))(b:∀ (w:World) (h:Heap),YP w h->∀ t∈tl,W.CodeHd h t.2.1 t.2.2/\h.get? t.2.2=some (W.tabObj #[]))(g:∀ w:World,∀ x∈zBs,tabQ (K w.params) x=tl.lookup x)(i:∀ t∈tl,t.1∈zBs/\tl.lookup t.1=some t.2)(m:(tl.map λt=>t.2.2).Nodup)(e:∀ w:World,W.noTabs (K w.params)=true)
  (r:∀ (w:World) (h:Heap),YP w h->(K w.params).In h)
  (A:∀ (w:World) (mg:Str->Option Value) (fa:Addr) (h:Heap),(K w.params).In h->h.Ns mainGlobals mg->mg d.name=some (.ref fa) ->
   ∃ fd:FuncData,(∀ (s:Shared) (u:Value),BindsTo s fd ⟨[u],[]⟩ [("_law_script",u)])/\∀ base:Heap,(K w.params).In base->base.Ns mainGlobals mg->FnOk l.prog w (K w.params) mg base CX0 k fa fd ["_law_script"] (spM (K w.params) F))
  (tr:∀ ns:List Int,ns.length<=63->∃ B,F [.dat (.lst (ns.map D.int))] []=some (.dat (.bl true),B)) :
  W.WalkO q loose XP YP l.row.toRowW d [] (λf vs=>PySem.call f vs) :=
 L2.zOj (n:=63) (k:=k) (CX:=λ_=>CX0) v (by decide) j hq C J tl b g i m e r A (λw H a ns y I p=>by
   obtain⟨B,G⟩:=tr ns y.1;have E:SqL (K w.params) (fzH H) a (ns.map V.int):=by
    rcases p with (h | ⟨o,h⟩) | h
    .exact (I _ h).elim
    .exact .inl (.inr ⟨o,zE8 h⟩)
    .exact .inr h
   refine⟨[],[],[.dat (.lst (ns.map D.int))],_,⟨rfl,by simp,λn L z=>by simp at z⟩,.cons ?_ .nil,G,λv N M k c d=>?_⟩
   .rw [DenW,Den];exact⟨a,_,rfl,E,DenL.ints ns⟩
   .rw [DenW,Den] at d;exact d) λ_ _ _ _ _ z=>z
end DL
end
section
namespace DL
open PySem Spec PyProof.Rows L2
noncomputable def zBj (t:W->Mst->Option Mst)(e:Mst->Option MR)(src:Src):Nat->Nat->Mst->List W->Option MA
 | 0,_,_,_=>none
 | f+1,i,s,done=>(itm s.B src).bind λws=>match ws[i]? with
  | none=>some (done,s.B)
  | some w=>(t w s).bind λs1=>(e s1).bind λr=>if done.length<=10000 then zBj t e src f (i+1) ⟨s1.G,r.2⟩ (done++[r.1]) else none
theorem zFE :∀ {f i:Nat} {s:Mst} {d:List W} {o:MA},zBj t e src f i s d=some o->zBj t e src (f+1) i s d=some o
 | 0,_,_,_,_,h=>by cases h
 | f+1,i,s,d,o,h=>by
  rw[zBj] at h ⊢;obtain⟨ws,e1,h⟩:=bind_some h;rw[e1,qx];cases q:ws[i]? with
  | none=>rw[q] at h;exact h
  | some w =>
   rw[q] at h;dsimp only at h ⊢;obtain⟨s1,e2,h⟩:=bind_some h;obtain⟨r,e3,h⟩:=bind_some h;rw[e2,qx,e3,qx];by_cases l:d.length<=10000
   .rw [if_pos l] at h ⊢;exact zFE (f:=f) h
   .rw [if_neg l] at h;cases h
def zFF (h:zBj t e src f i s d=some o)(l:f<=g):zBj t e src g i s d=some o:=by
 induction g with
 | zero =>
      have:f=0:=by omega
      grind
 | succ g a =>
  by_cases q:f<=g
  .exact zFE (a q)
  .grind
open Classical in
def zGj (t:W->Mst->Option Mst)(e:Mst->Option MR)(src:Src)(s:Mst):Option MA :=
 if h:∃ n o,zBj t e src n 0 s []=some o then some (Classical.choose (choose_spec h)) else none
def zLd (h:zBj t e src n 0 s []=some o):zGj t e src s=some o:=by
 have a:∃ n o,zBj t e src n 0 s []=some o:=⟨n,o,h⟩;unfold zGj;rw[dif_pos a];have b:=zFF h (Nat.le_max_right (Classical.choose a) n);rw[zFF (choose_spec (choose_spec a)) (Nat.le_max_left _ n)] at b;omega
def zJB (h:zGj t e src s=some o):∃ n,zBj t e src n 0 s []=some o:=by
 unfold zGj at h;by_cases ex:∃ n o,zBj t e src n 0 s []=some o
 .grind
 .rw [dif_neg ex] at h;cases h
def zHj (ms:List Nat)(k:Nat)(f:Mst->Option (Src×Mem))(t:W->Mst->Option Mst)(e:Mst->Option MR):Mst->Option MR:=λs =>
 (f s).bind λz=>(zGj t e z.1 ⟨mask none ms s.G++List.replicate k none,z.2⟩).bind λy=>if y.1.length<=10000 then some (.loc y.2.length,y.2++[y.1]) else none
def zGk (h:zHj ms k f t e s=some r):∃ z y N,f s=some z/\zBj t e z.1 N 0 ⟨mask none ms s.G++List.replicate k none,z.2⟩ []=some y/\y.1.length<=10000/\r=(.loc y.2.length,y.2++[y.1]):=by
 obtain⟨z,c,h⟩:=bind_some h;obtain⟨y,a,h⟩:=bind_some h;obtain⟨N,b⟩:=zJB a;by_cases l:y.1.length<=10000
 .rw [if_pos l] at h;cases h;exact⟨z,y,N,c,b,l,rfl⟩
 .simp_all
def MS.ext {K:W.Frag}{σ:St}(h:MS K H O B σ G)(b:List Nat)(k:Nat):MS K H O B (mask none b σ++List.replicate k none) (mask none b G++List.replicate k none):=by
 refine⟨h.cells,by rw[List.length_append,List.length_append,zA7,zA7,h.len,length_replicate,length_replicate],λi w q=>?_⟩;obtain⟨q,a⟩:=zCI q;rcases zBY q with ⟨z,_⟩ | ⟨q,ni⟩
 .cases z
 .obtain ⟨v,c,d⟩:=h.get i w q;exact⟨v,by rw[getElem?_append_left (by rw[zA7] at a ⊢;rw[h.len];exact a),zFm ni];exact c,d⟩
def zNX :∀ {n i:Nat} {s:Mst} {d:List W} {y:MA},zBj t e src n i s d=some y->y.1.length<=10000->d.length<=10000
 | 0,_,_,_,_,h,_=>by cases h
 | n+1,i,s,d,y,h,l=>by
  rw[zBj] at h;obtain⟨ws,_,h⟩:=bind_some h;split at h
  .cases h;exact l
  .obtain ⟨_,_,h⟩:=bind_some h;obtain⟨_,_,h⟩:=bind_some h;split at h
   .assumption
   .cases h
section
variable {X:Cx}
def zFD (q:X.calm=true)(hi:GIM X tg iter f)(cs:zCO X.env.scope scope)
  (hm:∀ (i:Nat) x,X.N[i]?=some x->ownB scope x=true->i∈ms)
  (hg:∀ s H fp,GGM (zAY X (mask (noN X.N) ms X.N++xs) scope s H fp) tg t)
  (he:∀ s H fp,GM (zAY X (mask (noN X.N) ms X.N++xs) scope s H fp) elt e)
    {σ:St}        (I:Inv X pins σ H s) (S:MS X.K H O B σ G) (ez:f ⟨G,B⟩=some z) (a6:y.1.length<=10000) (ey:zBj t e z.1 NN 0 ⟨mask none ms G++List.replicate xs.length none,z.2⟩ []=some y)
  {RR:Value->Addr->Result->Shared->Prop}
  (a5:∀ (D C:Addr) (s1:Shared) (H'':Hp) (m:Str->Option Value),s1.heap.Ns C m->(∀ h',Heap.SameBut C s1.heap h'->Inv X pins σ H'' { s1 with heap:=h' })->H'' C=none->C≠X.env.locals->C∉X.fs->X.s0.heap.objs.size<=C ->
   (∀ x c,X.env.cells.lookup x=some c->c≠C)->(∀ p∈X.pn++pins,p.1≠C)->(∃ M,Kp H H''/\zAD X.K H'' (O++M) (y.2++[y.1])/\DenW X.K H'' (O++M) (.loc y.2.length) (.ref D))->RR (.ref D) C (.ok .next) s1) :
  wpAny (model X.prog X.w) X.A (eval iter X.env) (λx O3=>wpAny (model X.prog X.w) X.A (pyIter x) (λit Y1=>wpAny (model X.prog X.w) X.A (newList []) (λacc Y4 =>
   wpAny (model X.prog X.w) X.A (newFunctionEnv scope X.env.globals (zBt X.env scope.names []) [] X.env.qual none .none (some X.env)) (λcenv Y7 =>
    codeAny (model X.prog X.w) X.A (.compStart (.ListComp elt [⟨tg,iter,[],0⟩] scope pos) 0 it acc { cenv with scope:=relabel scope X.env }) (RR acc cenv.locals) Y7) X.xe Y4) X.xe Y1) X.xe O3) X.xe s:=by
 obtain⟨wi,a8,hI⟩:=hi;refine zIU q a8 cs hm I (L:=λJ H2 n i U j K=>∃ (b γ:List CA) (st':Mst) (a:List W),(Kp H H2/\JOk X.K J z.1 H2 (O++b))/\MS X.K j (O++b++γ) st'.B U st'.G/\Kp H2 j/\DenWL X.K j (O++b++γ) a K/\a.length<=10000/\zBj t e z.1 n i st' a=some y)
  (Z:=λH2 j K=>∃ (b γ:List CA),Kp H H2/\Kp H2 j/\zAD X.K j (O++b++γ) y.2/\DenWL X.K j (O++b++γ) y.1 K)
  (hI σ H O G B z _ S ez λJ H1 M k1 c1 hJ=>⟨NN,M,[],⟨mask none ms G++List.replicate xs.length none,z.2⟩,[],⟨k1,hJ⟩,by rw[append_nil];exact(S.next k1 c1).ext ms xs.length,Kp.refl _,.nil,zero_le _,ey⟩) (λ{J H2 n i U j K} ll=>?_) (λ{J H2 n i U j K} s3 fp ll=>?_) λD C s1 H'' m h1 h2 h3 h4 h5 h6 h7 h8 ll=>?_
 .obtain ⟨_,_,_,_,_,_,_,N,hl,_⟩:=ll;rw[<- N.length];exact hl
 .obtain ⟨b,γ,st0,a,⟨l,hJ⟩,ds',Y,N,hl,d⟩:=ll;cases n with
  | zero=>cases d
  | succ n =>
  rw[zBj] at d;obtain⟨ws,ew,d⟩:=bind_some d;obtain⟨j1,j2⟩:=hJ i j γ st0.B ws Y ds'.cells ew;cases hq:ws[i]? with
  | none =>
   rw[hq] at d;cases d;exact .inl ⟨j1 hq,b,γ,l,Y,ds'.cells,N⟩
  | some w0 =>
   rw[hq] at d;dsimp only at d;obtain⟨go,yl⟩:=j2 w0 hq;refine .inr ⟨n,Nat.lt_succ_self n,go,λx R y5=>?_⟩;obtain⟨rfl,hv⟩:=yl x R y5;refine⟨rfl,λY eY pn s5 u E I5 r5=>?_⟩;subst eY;obtain⟨h,e1,d⟩:=bind_some d;obtain⟨r,er,d⟩:=bind_some d;by_cases hdl:a.length<=10000
   case neg=>rw[if_neg hdl] at d;cases d
   rw[if_pos hdl] at d;have b2:(a++[r.1]).length<=10000:=zNX d a6;obtain⟨g,a7,b3⟩:=hg s3 H2 fp;refine wpAny_mono (a7 pn s5 U R x u _ I5 r5 (b3 w0 x U R (O++b++γ) st0 h (λO4 H6=>H6=R/\MS X.K R (O++b++γ) h.B O4 h.G) ds' hv e1 λO4 d6=>⟨rfl,d6⟩)) (λ_ s6 w=>?_) λ_ _ z=>z.elim
   obtain⟨O4,H6,I6,q6,a0⟩:=w;subst q6;refine wpAny_tests_nil ?_;rw[if_pos rfl];refine wpAny_mono (he s3 H2 fp pn s6 O4 H6 (λv P=>∃ o,Kp H6 P/\zAD X.K P (O++b++γ++o) r.2/\DenW X.K P (O++b++γ++o) r.1 v) I6 ⟨O++b++γ,h.G,h.B,r,a0,er,λv P o Q c8 d8=>⟨o,Q,c8,d8⟩⟩) (λuv s8 F=>?_) λ_ _ z=>z.elim
   obtain⟨v,P,I8,b0,o,Q,c8,d8⟩:=F;have A:O++b++γ++o=O++b++(γ++o):=by simp
   have V:=a0.next Q c8;have T:=N.mono Q o;rw[A] at V d8 T;exact⟨v,O4,P,I8,b0,b,γ++o,⟨h.G,r.2⟩,a++[r.1],⟨l,hJ⟩,V,Y.trans Q,DenWL.append T (.cons d8 .nil),b2,d⟩
 .obtain ⟨H2,j,K,⟨b,γ,l,Y,dc,N⟩,H2D,HD,rfl⟩:=ll;have s9:Same j (upd j D (.lst K)):=zAX HD _;refine a5 D C s1 _ m h1 h2 h3 h4 h5 h6 h7 h8 ⟨b++γ++[(D,CK.lst)],l.trans (Y.trans (zAx s9)),?_⟩;rw[show O++(b++γ++[(D,CK.lst)])=O++b++γ++[(D,CK.lst)] by simp];exact⟨dc.new s9 HD zAW (N.mono (zAx s9) [(D,CK.lst)]),zDX dc⟩
def zKw (a:X.calm=true)(v:GIM X tg iter f)(u:∀ x,foldedSetIterable iter X.env x=pure x)(cs:zCO X.env.scope scope)
  (w:∀ (i:Nat) x,X.N[i]?=some x->ownB scope x=true->i∈ms)
  (n:∀ s H fp,GGM (zAY X (mask (noN X.N) ms X.N++xs) scope s H fp) tg t)
  (E:∀ s H fp,GM (zAY X (mask (noN X.N) ms X.N++xs) scope s H fp) elt e) :
  GM X (.ListComp elt [⟨tg,iter,[],0⟩] scope pos) (zHj ms xs.length f t e):=by
 intro h s σ H Q I ⟨O,G,B,r,g,J,l⟩;obtain⟨z,y,P,K,o,d,rfl⟩:=zGk J;refine wpAny_comprehension_free rfl u (zBZ (zEg I cs)) cs.kind (zCs cs) ?_;refine zFD a v cs w n E I g K d o λD C L b m q F _ _ _ _ _ _ c=>?_
 obtain⟨M,k,A,j⟩:=c;exact⟨m,q,λh' p=>⟨.ref D,b,F h' p,rfl,l _ b M k A j⟩⟩
end
end DL
end
section
namespace DL
open PySem Spec PyProof.Rows L2
section
variable {X:Cx}
def zMz (c:X.calm=true)(hi:GIM X tg iter f)(Z:∀ x,foldedSetIterable iter X.env x=pure x)(cs:zCO X.env.scope scope)
  (V:∀ (i:Nat) x,X.N[i]?=some x->ownB scope x=true->i∈ms)
  (O:∀ s H fp,GGM (zAY X (mask (noN X.N) ms X.N++xs) scope s H fp) tg t)
  (W:∀ s H fp,GM (zAY X (mask (noN X.N) ms X.N++xs) scope s H fp) elt e)
  (hN:X.N.Nodup) (T:X.N[i]?=some y) (Y:Loc X.env.scope y) (S:X.fn y=true\/X.env.scope.names.lookup y=some .local) :
  GSM X (.Assign [.Name y py] (.ListComp elt [⟨tg,iter,[],0⟩] scope pos) spos) (setM i (zHj ms xs.length f t e)):=by
 have B:GM X (.ListComp elt [⟨tg,iter,[],0⟩] scope pos) (zHj ms xs.length f t e):=zKw c hi Z cs V O W;have h:∃ b,swapsWith (.ListComp elt [⟨tg,iter,[],0⟩] scope pos) (some (.Name y py)) spos.line X.env=pure b:=⟨_,rfl⟩;obtain⟨b,h⟩:=h;cases b with
 | false=>exact zKs hN T Y B h S
 | true =>
  intro H0 α0 a s σ H E I ⟨M,st,o,l,kp,L,p⟩;obtain⟨r,er,L⟩:=bind_some L;cases L;obtain⟨z,yy,NN,ez,ey,A,rfl⟩:=zGk er;rw[exec_Assign_Name_used _ _ _ _ h];refine qQ (wpAny_standAt (qQ ?_));show wpAny _ X.A (do let _<-comprehension (.ListComp elt [⟨tg,iter,[],0⟩] scope pos) scope X.env _ (newList []) false (eval iter X.env) (some (assign (.Name y py) X.env))) _ _ s;refine qQ (wpAny_mono (wpAny_comprehension_free (use:=some (assign (.Name y py) X.env)) (Q:=λ_ u=>SP X a E .next u) rfl Z (zBZ (zEg I cs)) cs.kind (zCs cs) ?_) (λ_ u hq=>q8 (q8 hq)) λ_ _ e=>e);refine zFD (RR:=λacc C=>compPost (model X.prog X.w) X.A X.xe (some (assign (.Name y py) X.env)) (λ_ u=>SP X a E .next u) acc C) c hi cs V O W I l ez A ey λD C j d m ns hI k n K J G F w=>?_
  have I1:Inv X a σ d j:=hI j.heap (Heap.SameBut.refl ..);obtain⟨v,es,ep,ho,hd,w3⟩:=id ns;have I2:Inv X (a++[(C,v)]) σ d j:=I1.pins_of λq hq=>(mem_append.mp hq).elim (λz=>I1.pin q (q9 _ z)) λz=>by
   have e:q=(C,v):=by simpa using z
   subst e;exact⟨ho,k,n,K,λv z=>by rw[hd] at z;cases z⟩
  show wpAny (model X.prog X.w) X.A (assign (.Name y py) X.env (.ref D)) _ X.xe j;refine thn (zFh hN T Y S _ j σ d (.ref D) (.ref D) (λO4 N=>N=d/\O4=σ.set i (some (.ref D))) I2 rfl ⟨rfl,rfl⟩) λ_ s6 g=>?_
  obtain⟨O4,N,R,q1,q2⟩:=g;subst q1 q2;have pc:=R.pin (C,v) (q9 _ (q9 _ (by simp)));refine⟨m,⟨v,es,ep,pc.1,hd,w3⟩,λh' sb=>?_⟩;refine⟨_,N,R.unpinned.turned (it:=C) (t':=s6.toks) (λb o h q=>sb.extBut b o h q) k (Ne.symm (Ne.symm n)) (.inr J) G F,?_⟩;obtain⟨M2,U,c2,d2⟩:=w;have P:=(l.next U c2).set (i:=i) d2;rw[qJ] at P;exact p (M++M2) _ _ P (kp.trans U)
end
inductive SK where
 | mth (c m:Str) | mk (c kw:Str)
 deriving DecidableEq
noncomputable def spec:List (Str×SK):=[("Fill.films",.mth "Fill" "films"),("Rub.films",.mth "Rub" "films"),("Masked.films",.mth "Masked" "films"),("Join.films",.mth "Join" "films"),("Group.films",.mth "Group" "films"),("Picture.add",.mth "Picture" "add"),("Picture.drop",.mth "Picture" "drop"),("Picture.change",.mth "Picture" "change"),("Picture.lift",.mth "Picture" "lift"),("Picture.numbers",.mth "Picture" "numbers"),("Picture.layer_by",.mth "Picture" "layer_by"),("Picture.renew",.mth "Picture" "renew"),("Picture.cells",.mth "Picture" "cells"),("Picture.check_lies",.mth "Picture" "check_lies"),("Picture.lay",.mth "Picture" "lay"),("Picture.mark",.mth "Picture" "mark"),("Picture.ground_at",.mth "Picture" "ground_at"),("Fill.touched",.mth "Fill" "touched"),("Rub.touched",.mth "Rub" "touched"),("Masked.touched",.mth "Masked" "touched"),("Join.touched",.mth "Join" "touched"),("Group.touched",.mth "Group" "touched"),("Fill()",.mk "Fill" "strength"),("Rub()",.mk "Rub" "strength"),("Masked()",.mk "Masked" ""),("Join()",.mk "Join" "strength"),("Group()",.mk "Group" "strength"),("Picture()",.mk "Picture" "watcher")]
abbrev Dm:=List (Str×MF)
def spI (K:W.Frag)(C:Addr)(F:MF):Sp:=λvs H Q _=>∃ x dx H1 us O B ws r,vs=.ref x::us/\H1 x=none/\H1 dx=none/\dx≠x/\H=upd (upd H1 dx (.own x)) x (.ins C dx [])/\zAD K H1 O B/\DenWL K H1 O ws us/\F ws B=some r /\
 ∀ H' M,Kp H1 H'->zAD K H' (O++M) r.2->DenW K H' (O++M) r.1 (.ref x)->Q .non H'
def KB (K:W.Frag)(fd:FuncData)(ps:List Str)(kw:Str):Prop:=∀ (s:Shared) (us:List Value) (u:Value),K.In s.heap->(us++[u]).length=ps.length->BindsTo s fd ⟨us,[(kw,u)]⟩ (ps.zip (us++[u]))
def zLy (P:Program)(w:World)(K:W.Frag)(mg:Str->Option Value)(base:Heap)(k:Nat)(x:Str)(F:MF):Option SK->Prop
 | none=>∃ f fd ps,FnOk P w K mg base CX0 k f fd ps (spM K F)/\mg x=some (.ref f)/\W.keepIn K (.ref f)=true/\zBH K fd ps []
 | some (.mth c m)=>∃ C f fd ps,zBT K c C/\Cls K C/\Meth K C m f/\FnOk P w K mg base CX0 k f fd ps (spM K F)/\zBH K fd ps []
 | some (.mk c kw)=>∃ j C f fd ps,j < k/\mg c=some (.ref C)/\Mk K C f/\FnOk P w K mg base CX0 j f fd ps (spI K C F)/\zBH K fd ps []/\(kw ≠ ""->zBH K fd ps [.none]/\KB K fd ps kw)
def zLy.mono {K:W.Frag}(h:zLy P w K mg base j x F o)(e:j<=k):zLy P w K mg base k x F o:=by
 match o,h with
 | none,⟨f,b,a,h1,h2⟩=>exact⟨f,b,a,h1.mono e,h2⟩
 | some (.mth c m),⟨C,f,b,a,h1,h2,h3,h4,h5⟩=>exact⟨C,f,b,a,h1,h2,h3,h4.mono e,h5⟩
 | some (.mk c d),⟨i,C,f,b,a,h1,h2⟩=>exact⟨i,C,f,b,a,xj h1 e,h2⟩
def DmOk (P:Program)(w:World)(K:W.Frag)(mg:Str->Option Value)(base:Heap)(k:Nat)(U:Dm):Prop :=
 ∀ x F,(x,F)∈U->zLy P w K mg base k x F (spec.lookup x)
def zCe {K:W.Frag}(h1:zBT K c A)(h2:zBT K c B):A=B:=by
 rw[zBT] at h1 h2;grind
def zLX (h:zEc gs=true)(n:zFl.contains m=false):gs.lookup m=none:=by
 cases e:gs.lookup m with
 | none=>rfl
 | some v =>
  unfold zEc zLY at h;rw[x8,all_eq_true] at h;have:=h.2 m (mem_map.mpr ⟨_,PySem.mem_of_lookup e,rfl⟩);grind
section
variable {X:Cx}{k:Nat}{U:Dm}
noncomputable def fldM (ob:List (Str×Str×Option Bool))(f:Str)(g:Mst->Option MR):Mst->Option MR:=λs=>(g s).bind λx=>match x.1 with
 | .obj c ns l=>if (c,f,none)∈ob then ((ns.zip l).lookup f).map λw=>(w,x.2) else none
 | .ob c ns n=>if (c,f,none)∈ob then (x.2[n]?).bind λws=>((ns.zip ws).lookup f).map λw=>(w,x.2) else none
 | _=>none
theorem zKM {K:W.Frag}{H:Hp}{O:List CA}{f:Str}{w:W}:∀ {gs:List (Str×V)} {l:List W},DenWL K H O l (gs.map (·.2))->((gs.map (·.1)).zip l).lookup f=some w->∃ v,gs.lookup f=some v/\DenW K H O w v
 | [],_,_,e=>by simp at e
 | (n,u)::gs,[],_,e=>by simp at e
 | (n,u)::gs,x::l,t,e=>by
  rw[map_cons,DenWL] at t;obtain⟨v,us,e1,t1,t2⟩:=t;cases e1;rw[map_cons,List.zip_cons_cons,lookup_cons] at e;rw[lookup_cons];dsimp only at e ⊢;by_cases q:(f==n)=true
  .rw [q] at e ⊢;cases e;exact⟨u,rfl,t1⟩
  .rw [Bool.not_eq_true] at q;rw[q] at e ⊢;exact zKM t2 e
theorem zIF {K:W.Frag}{gs:List (Str×V)}:∀ {ns:List Str} {vs:List V} {l:List W},(ns.map λn=>gs.lookup n)=vs.map some->DenWL K H O l vs->(ns.zip l).lookup f=some d->∃ v,gs.lookup f=some v/\DenW K H O d v
 | [],_,_,_,_,e=>by simp at e
 | n::ns,vs,[],_,_,e=>by simp at e
 | n::ns,vs,x::l,h,t,e=>by
  rw[DenWL] at t;obtain⟨v,us,rfl,t1,t2⟩:=t;simp only[map_cons,List.cons.injEq] at h;rw[List.zip_cons_cons,lookup_cons] at e;by_cases q:(f==n)=true
  .rw [q] at e;cases e;exact⟨v,by rw[eq_of_beq q];exact h.1,t1⟩
  .rw [Bool.not_eq_true] at q;rw[q] at e;exact zIF h.2 t2 e
def zSc (v:GM X e g)(K:attributeBase e fl X.env (eval e X.env)=eval e X.env)(E:∀ c,(c,fl,none)∈ob->∀ C,zBT X.K c C->Cls X.K C/\zBQ X.K C fl):GM X (.Attribute e fl pos) (fldM ob fl g):=by
 refine(zN7 v K).imp fun σ H Q zz103=>?_
 obtain⟨O,G,B,r,F,q,I⟩:=zz103;obtain⟨x,D,q⟩:=bind_some q;split at q
 .rename_i c J l h;by_cases m:(c,fl,none)∈ob
  .rw [if_pos m] at q;obtain⟨w,i,y⟩:=x9.mp q;cases y;refine⟨O,G,B,x,F,D,λv k M A d f=>?_⟩;have b:=f;rw[h,DenW] at b;obtain⟨a,P,rfl,⟨C,p,s,h1,h2,h3,h4⟩,h5⟩:=b;obtain⟨u,t,o⟩:=zIF h4 h5 i;obtain⟨j,z⟩:=E c m C h3;exact⟨a,C,p,s,u,rfl,zBP _ _ h1,j,z,t,I u k M A d o⟩
  .rw [if_neg m] at q;cases q
 .rename_i c J n h;by_cases m:(c,fl,none)∈ob
  .rw [if_pos m] at q;obtain⟨N,L,q⟩:=bind_some q;obtain⟨w,i,y⟩:=x9.mp q;cases y;refine⟨O,G,B,x,F,D,λv k M A d f=>?_⟩;rw[h,DenW] at f;obtain⟨a,v,rfl⟩:=f;obtain⟨C,p,s,h1,h2,h3,h4,h5⟩:=d.cell' v L;subst h4;obtain⟨u,t,o⟩:=zKM h5 i;obtain⟨j,z⟩:=E c m C h3;exact⟨a,C,p,s,u,rfl,h1,j,z,t,I u k M A d o⟩
  .rw [if_neg m] at q;cases q
 .cases q
noncomputable def clsW (m:Str):W->Option Str
 | .obj c _ _=>if zFl.contains m=true then none else some c
 | .ob c ns _=>if ns.contains m=true then none else some c
 | _=>none
def zOe {K:W.Frag}(f:zAD K H O B)(h:clsW m w=some c)(d:DenW K H O w v):∃ a C dx gs,v=.ref a/\H a=some (.ins C dx gs)/\zBT K c C/\gs.lookup m=none:=by
 unfold clsW at h;split at h
 .by_cases q:zFl.contains m=true
  .rw [if_pos q] at h;cases h
  rw[if_neg q] at h;cases h;obtain⟨a,k,rfl,⟨C,dx,gs,h1,h2,h3,h4⟩,h5⟩:=d;exact⟨a,C,dx,gs,rfl,zBP _ _ h1,h3,zLX h2 (by simpa using q)⟩
 .rename_i l g n;by_cases q:g.contains m=true
  .rw [if_pos q] at h;cases h
  rw[if_neg q] at h;cases h;rw[DenW] at d;obtain⟨a,b,rfl⟩:=d;obtain⟨i,j,C,dx,gs,h1,h2,h3,h4,h5⟩:=f.cell b;refine⟨a,C,dx,gs,rfl,h1,h3,?_⟩;cases e:gs.lookup m with
  | none=>rfl
  | some v =>
   refine absurd ?_ q;rw[<- h4,List.contains_iff_mem];exact mem_map.mpr ⟨_,PySem.mem_of_lookup e,rfl⟩
 .cases h
theorem zGT (hbase:attributeBase o m env (eval o env)=eval o env)(hfew:methodCallForm (args.length+([]:List Keyword).length) (backTo pos (starEach args env)) (backToKw pos (keywordEach [] env))=true)(hline:(apos.endLine==pos.line)=true) :
  eval (.Call (.Attribute o m apos) args [] pos) env=(do
   let ov<-eval o env
   standAt apos.atName
   let (f,first)<-holding [ov] (getMethod ov m (do return (<- importBound o env).getD true))
   callWith pos f first (backTo pos (starEach args env)) (backToKw pos (keywordEach [] env))):=by
 rw[arm_eval_Call,hbase];unfold methodCall calleeOf methodCallPos;simp only[hfew,hline,if_true,Bool.not_true,Bool.or_true,pure_bind]
noncomputable def mthM (U:Dm)(ix:List (Str×Nat))(m:Str)(f:Mst->Option MR)(g:Mst->Option MA):Mst->Option MR:=λs=>(f s).bind λx=>(clsW m x.1).bind λc=>(ix.lookup c).bind λn=>(U[n]?).bind λe=>if spec.lookup e.1=some (.mth c m) then (g ⟨s.G,x.2⟩).bind λws=>e.2 (x.1::ws.1) ws.2 else none
def zSZ {m:Str}{o:Expr}{h pos:Pos}{e:Expr}{es:List Expr}{ix:List (Str×Nat)}{f:Mst->Option MR}{g:Mst->Option MA}(he:GM X o f)(T:GAM X (e::es) g)(d:DmOk X.prog X.w X.K X.mg X.base k U)(P:Room k X.A)
  (t:starEach (e::es) X.env=(false,eval e X.env)::starEach es X.env) (w:(backTo pos (starEach es X.env)).any (·.1)=false) (i:attributeBase o m X.env (eval o X.env)=eval o X.env) (l:methodCallForm ((e::es).length+([]:List Keyword).length) (backTo pos (starEach (e::es) X.env)) (backToKw pos (keywordEach [] X.env))=true) (j:(h.endLine==pos.line)=true):GM X (.Call (.Attribute o m h) (e::es) [] pos) (mthM U ix m f g):=by
 intro p s σ H Q I ⟨O,G,B,r,J,q,cc⟩;obtain⟨x,N,q⟩:=bind_some q;obtain⟨c,Y,q⟩:=bind_some q;obtain⟨n,en,q⟩:=bind_some q;obtain⟨b,Z,q⟩:=bind_some q;by_cases hk:spec.lookup b.1=some (.mth c m)
 .rw [if_pos hk] at q;obtain⟨z,ew,q⟩:=bind_some q;have D:=d b.1 b.2 (mem_of_getElem? Z);rw[hk] at D;obtain⟨C,fa,fd,ps,d1,S,A,d4,d5⟩:=D;refine zO4 (C:=C) he S A d4 P d5 .nil zHJ T t w (zGT i l j) p s σ H Q I ?_;refine⟨O,G,B,x,J,N,λv H1 M K F L=>?_⟩;obtain⟨a,C',dx,gs,rfl,h1,h2,h3⟩:=zOe F Y L;obtain rfl:=zCe d1 h2;refine⟨a,dx,gs,rfl,h1,h3,O++M,G,x.2,z,J.next K F,ew,λus H2 y E c2 u=>?_⟩;show spM X.K b.2 (.ref a::(us++[])) H2 Q E0;rw[append_nil];exact⟨O++M++y,z.2,x.1::z.1,r,c2,.cons (L.mono E y) u,q,λv W R V c3 A=>cc v W (M++(y++R)) (K.trans (E.trans V)) (by simp_all) (by simp_all)⟩
 .rw [if_neg hk] at q;cases q
def zP0 (T:GM X o f)(d:DmOk X.prog X.w X.K X.mg X.base k U)(t:Room k X.A)(e:attributeBase o m X.env (eval o X.env)=eval o X.env)(g:(apos.endLine==pos.line)=true):GM X (.Call (.Attribute o m apos) [] [] pos) (mthM U ix m f nilM):=by
 intro h s σ H Q I ⟨O,G,B,r,z,q,S⟩;obtain⟨x,u,q⟩:=bind_some q;obtain⟨c,p,q⟩:=bind_some q;obtain⟨n,Y,q⟩:=bind_some q;obtain⟨b,W,q⟩:=bind_some q;by_cases hk:spec.lookup b.1=some (.mth c m)
 .rw [if_pos hk] at q;obtain⟨ws,L,q⟩:=bind_some q;cases L;have D:=d b.1 b.2 (mem_of_getElem? W);rw[hk] at D;obtain⟨C,fa,Z,ps,E,y,i,K,N⟩:=D;refine zMO (C:=C) T y i K t N .nil zHJ (zGT e rfl g) h s σ H Q I ?_;refine⟨O,G,B,x,z,u,λv H1 M A j l=>?_⟩;obtain⟨a,C',R,J,rfl,h1,h2,h3⟩:=zOe j p l;obtain rfl:=zCe E h2;refine⟨a,R,J,rfl,h1,h3,O++M,x.2,[x.1],r,j,.cons l .nil,q,λv F w V P i=>S v F (M++w) (A.trans V) (by rw[<- qJ];exact P) (by rw[<- qJ];exact i)⟩
 .rw [if_neg hk] at q;cases q
def zRH {σ:St}(M:Mk X.K C f)(F:FnOk X.prog X.w X.K X.mg X.base CX0 k f fd ps sp)(d:Room (k+1) X.A)
  (n:∀ (s':Shared) (x:Addr),X.K.In s'.heap->(Value.ref x::fus).length=ps.length->BindsTo s' fd ⟨.ref x::us,kw⟩ (ps.zip (.ref x::fus))) (I:Inv X pins σ H s) (r:Vals vs fus)
  (h:∀ x dx,H x=none->H dx=none->dx≠x->sp (.ref x::vs) (upd (upd H dx (.own x)) x (.ins C dx [])) (λv H2=>v=.non/\Q (.ref x) H2) E0) :
  wpAny (model X.prog X.w) X.A (call (.ref C) us kw) (EP X pins σ Q) X.xe s:=by
 have hq:=h (s.heap.objs.size+1) s.heap.objs.size (I.hok.fresh (Nat.le_succ _)) (I.hok.fresh (le_refl _)) (ne_of_lt (Nat.lt_succ_self _));have b:=Inv.made (C:=C) I;have r2:Vals (V.ref (s.heap.objs.size+1)::vs) _:=.cons rfl r;have l:(Value.ref (s.heap.objs.size+1)::fus).length=ps.length:=by
  have e:=r2.length;rw[F.len _ _ _ _ hq] at e;exact e.symm
 refine wpAny_call (zMa (f:=f) I.kIn M.makes M.init (beq_iff_eq.mp M.fn) (codeAny_mono (F.run _ X.stack _ _ _ (Value.ref (s.heap.objs.size+1)::fus) _ _ E0 (d.make C us kw)
  (b.env0.make C us kw) (n _ _ b.kIn l) r2 hq) λr s' a=>?_))
 cases r with
 | error e=>exact a.elim
 | ok fl =>
  cases fl with
  | ret u =>
   obtain⟨v,j,i,m,g,c⟩:=b.after a;subst g;exact⟨m,⟨V.ref (s.heap.objs.size+1),j,i,rfl,c⟩⟩
  | next=>exact False.elim a
  | brk=>exact False.elim a
  | cont=>exact False.elim a
noncomputable def zPM (d:Bool):List W:=if d=true then [.dat .non] else []
noncomputable def mkM (U:Dm)(n:Nat)(c kw:Str)(d:Bool)(g:Mst->Option MA):Mst->Option MR:=λs=>(U[n]?).bind λe=>if spec.lookup e.1=some (.mk c kw) then (g s).bind λws=>e.2 (ws.1++zPM d) ws.2 else none
def zUc {n:Nat}{c kw:Str}{b:Bool}{p pos:Pos}{e:Expr}{es:List Expr}{g:Mst->Option MA}(K:GAM X (e::es) g)(d:DmOk X.prog X.w X.K X.mg X.base k U)(hr:Room k X.A)(S:Gl X c)(v:(c==("__debug__":Str))=false)
  (u:starEach (e::es) X.env=(false,eval e X.env)::starEach es X.env) (w:(backTo pos (starEach es X.env)).any (·.1)=false) (o:b=true->kw ≠ ""):GM X (.Call (.Name c p) (e::es) [] pos) (mkM U n c kw b g):=by
 intro h s σ H Q I ⟨O,G,B,r,N,q,cc⟩;obtain⟨a,T,q⟩:=bind_some q;by_cases hk:spec.lookup a.1=some (.mk c kw)
 .rw [if_pos hk] at q;obtain⟨i,ew,q⟩:=bind_some q;have D:=d a.1 a.2 (mem_of_getElem? T);rw[hk] at D;obtain⟨j,C,fa,fd,R,P,d1,J,d3,d4,d5⟩:=D;refine wpAny_Call_Name_kw (zEO I S d1 ?_ v);refine W.callWith_K (h₀:=X.base) I.ok.mod.kin J.kp (thn (K pos h s σ H (λvs f=>∃ M,Kp H f/\zAD X.K f (O++M) i.2/\DenWL X.K f (O++M) i.1 vs) I ⟨O,G,B,i,N,ew,λvs f M l z m=>⟨M,l,z,m⟩⟩) λus s1 ⟨vs,f,A,rv,M,l,z,m⟩=>⟨A.kIn,?_⟩) u w;have rn:Vals (if b=true then [V.non] else []) (if b=true then [Value.none] else []):=by
   cases b with
   | true=>exact .cons rfl .nil
   | false=>exact .nil
  refine zRH (fus:=us++if b=true then [Value.none] else []) J d3 (hr.mono P) (λs' x E F=>?_) A (rv.append rn) λx Z n1 n2 n3=>?_
  .cases b with
   | true=>exact(d5 (o rfl)).1 s' (.ref x::us) E F
   | false =>
    have t:((Value.ref x::us)++[]).length=R.length:=F;exact d4 s' (.ref x::us) E t
  .refine ⟨x,Z,f,_,O++M,i.2,i.1++zPM b,r,rfl,n1,n2,n3,rfl,z,m.append ?_,q,λH' M' k2 Y y=>⟨rfl,cc (.ref x) H' (M++M') (l.trans k2) (by rw[<- qJ];exact Y) (by rw[<- qJ];exact y)⟩⟩;cases b with
   | true=>exact .cons (by rw[DenW,Den]) .nil
   | false=>exact .nil
 .rw [if_neg hk] at q;cases q
end
section
variable {K:W.Frag}{H:Hp}{O:List CA}{B:Mem}{σ:St}{G:List (Option W)}
def MS.chgG (b:MS K H O B σ G){n:Nat}{a:Addr}{k:CK}{o:HO}{e:List W}(f:O[n]?=some (a,k))(h2:fz1 o=none)(t:Kp H (upd H a o)->zBG K (upd H a o) O a e k):MS K (upd H a o) O (B.set n e) σ G/\Kp H (upd H a o):=by
 have g:n < B.length:=by rw[<- b.cells.len];exact(zzg f).1
 obtain⟨c,d⟩:=b.cells.chgG g f h2 t;have m:=b.next (M:=[]) d (by rw[append_nil];exact c);rw[append_nil] at m;exact⟨m,d⟩
def DenWL.take:∀ {a:List W} {vs:List V} (j:Nat),DenWL K H O a vs->DenWL K H O (a.take j) (vs.take j)
 | [],_,_,h=>by rw[DenWL] at h;subst h;rw[List.take_nil,List.take_nil];exact .nil
 | _::_,_,0,h=>.nil
 | _::a,_,j+1,h=>by
  rw[DenWL] at h;obtain⟨v,us,rfl,h2,h3⟩:=h;exact .cons h2 (DenWL.take j h3)
def DenWL.drop:∀ {a:List W} {vs:List V} (j:Nat),DenWL K H O a vs->DenWL K H O (a.drop j) (vs.drop j)
 | [],_,_,h=>by rw[DenWL] at h;subst h;rw[List.drop_nil,List.drop_nil];exact .nil
 | _::_,_,0,h=>h
 | _::a,_,j+1,h=>by
  rw[DenWL] at h;obtain⟨v,us,rfl,h2,h3⟩:=h;exact DenWL.drop j h3
def DenWL.rev:∀ {a:List W} {vs:List V},DenWL K H O a vs->DenWL K H O a.reverse vs.reverse
 | [],_,h=>by rw[DenWL] at h;subst h;exact .nil
 | _::a,_,h=>by
  rw[DenWL] at h;obtain⟨v,us,rfl,h2,h3⟩:=h;rw[reverse_cons,reverse_cons];exact(DenWL.rev h3).append (.cons h2 .nil)
end
section
variable {X:Cx}
noncomputable def lm0M (t:Mst->Option MR)(op:List W->List W):Mst->Option OutM:=λs=>(t s).bind λx=>match x.1 with
 | .loc n=>(x.2[n]?).bind λws=>some (.nx ⟨s.G,x.2.set n (op ws)⟩)
 | _=>none
def zPr (A:GM X b t)(d:attributeBase b "reverse" X.env (eval b X.env)=eval b X.env)(f:(apos.endLine==cpos.line)=true) :
  GSM X (.Expr (.Call (.Attribute b "reverse" apos) [] [] cpos) pos) (lm0M t List.reverse):=λH0 z=>(zFf (zRc PySem.F.plainAttrs_list PySem.F.slot_list_reverse PySem.F.type_list_reverse zIw A d f) rfl).imp λE σ H c=>by
 obtain⟨M,s,o,j,k,e,p⟩:=c;obtain⟨x,u,e⟩:=bind_some e;split at e
 .rename_i n w;obtain⟨E,y,e⟩:=bind_some e;cases e;refine⟨z++M,s.G,s.B,x,j,u,λv D v m q l=>?_⟩;rw[w,DenW] at l;obtain⟨a,i,rfl⟩:=l;obtain⟨r,g,B⟩:=q.loc' i y;refine⟨.inl ⟨rfl,_,SqL.of g⟩,a,r,rfl,rfl,g,?_⟩;obtain⟨h,C⟩:=(j.next m q).chg i g B.rev;rw[qJ] at h;exact p (M++v) σ _ h (k.trans (m.trans C))
 .cases e
end
noncomputable def zTX (k:List Int):List W->Option W
 | []=>none
 | .tup [d,u]::ws=>if kI d=some k then some u else zTX k ws
 | _::_=>none
section
variable {K:W.Frag}{H:Hp}{O:List CA}
noncomputable def lenK (t:Bool):Nat:=if t=true then 2 else 1
end
section
variable {X:Cx}
noncomputable def nidW (x y:W)(B:Mem):Option MR:=match y with
 | .di b n=>(kI x).bind λks=>if ks.length=lenK b then (B[n]?).bind λws=>some (.dat (.bl (!(zTX ks ws).isSome)),B) else none
 | _=>none
noncomputable def lcpM (f:Mst->Option MR):Mst->Option MR:=λs=>(f s).bind λx=>match x.1 with
 | .loc n=>(x.2[n]?).bind λws=>some (.loc x.2.length,x.2++[ws])
 | _=>none
def zSb (C:Gl X "list")(y:X.mg "list"=none)(h:GM X e f)(m:starEach [e] X.env=[(false,eval e X.env)]):GM X (.Call (.Name "list" p) [e] [] pos) (lcpM f):=(zEC zDq C y boot_list (zAU h zA2 m) (by decide) (by decide) m rfl).imp fun σ H Q zz105=>by
 obtain⟨O,G,B,r,t,e,c⟩:=zz105;obtain⟨x,q,e⟩:=bind_some e;split at e
 .rename_i n s;obtain⟨D,w,e⟩:=bind_some e;cases e;refine⟨O,G,B,x,t,q,λv g z u d i=>?_⟩;rw[s,DenW] at i;obtain⟨a,o,rfl⟩:=i;obtain⟨j,A,v⟩:=d.loc' o w;refine⟨a,j,rfl,.inl (SqL.of A),λl k=>?_⟩;have b:Same g (upd g l (.lst j)):=zAX k _;exact c _ _ (z++[(l,.lst)]) (u.trans (zAx b)) (by rw[<- qJ];exact d.new b k zAW (v.mono (zAx b) _)) (by rw[<- qJ];exact zDX d)
 .cases e
noncomputable def cutW (ws:List W)(lo hi:Option Int):List W:=(ws.drop (HT.sIx ws.length 0 lo)).take (HT.sIx ws.length ws.length hi - HT.sIx ws.length 0 lo)
noncomputable def slcM (u:Bool)(f g:Mst->Option MR):Mst->Option MR:=λs=>(f s).bind λx=>(g ⟨s.G,x.2⟩).bind λy=>match x.1,y.1 with
 | .loc n,.dat (.int i)=>(y.2[n]?).bind λws=>some (.loc y.2.length,y.2++[cutW ws (if u then none else some i) (if u then some i else none)])
 | _,_=>none
end
section
variable {prog:Program}{w:World}{A:Around}{E:Value->Shared->Prop}{s:Shared}{K:W.Frag}{x y C D:Addr}{ox oy:Obj}{od oe:Option Obj}
def OCls.sub (h:OCls K C)(b:Value):∃ r,W.mroIn K C b=some r:=by
 have h:=h.hm;unfold W.mroIn at h ⊢;obtain⟨a,e,h⟩:=Option.bind_eq_some_iff.mp h;rw[e,qx];split at h
 .cases h
 .rename_i q;rw[if_neg q];exact⟨_,rfl⟩
def zGE (X:K.In s.heap)(I:W.InstAt s.heap x ox C od)(c:OCls K C)(f:s.heap.get? y=some oy)(n:x≠y)(q:Q none s):wpAny (model prog w) A (tryCompare (.ref x) "__eq__" (.ref y)) Q E s:=by
  unfold tryCompare;simp only[callSpecialIfBound?,bindSpecialIfBound?];refine qQ (wpAny_holding (qQ (qQ (qQ (I.type.here ((W.looks_findIn X c.eq).here ?_))))));refine qQ (wpAny_askSetting (wpAny_ite ?_));have b:ox.cls≠.type "tuple":=by rw[I.cls];intro e;cases e
  have a:wpAny (model prog w) A (call (.builtin "object.__eq__") ([.ref x]++[.ref y])>>=λv=>pure (some v)) (λr d=>wpAny (model prog w) A (match r with
    | some .notImplemented | none=>pure none
    | some v=>pure (some v)) Q E d) E s:=by
    refine qQ (wpAny_call (codeAny_call_builtin PySem.F.cmp_object.eq.plain PySem.F.cmpEntry_eq (W.check_slot PySem.F.cmpKind_eq PySem.F.cmpSplit_eq (I.type.andThen (W.looks_mroIn X c.hm)) (PySem.F.cmpArgs_eq _ _) (objEq_entry_other n I.at_ f b ?_))));exact q8 (q8 q)
  simp only[PySem.F.cmp_object.eq.bind];split
  . exact qQ (q8 (q8 a))
  . exact wpAny_tryCatch (qQ (q8 (q8 a)))
noncomputable def zNN (o:A.units < cLine)(X:K.In s.heap)(I:W.InstAt s.heap x ox C od)(J:W.InstAt s.heap y oy D oe)(c:OCls K C)(d:OCls K D)(n:x≠y):SeqAt.EqAt A s (.ref x) (.ref y) false:=by
 intro a w E Q q;have h:ox.cls≠.type "tuple":=by rw[I.cls];intro e;cases e
 have g:(Value.ref x==Value.ref y)=false:=by simp[n]
 obtain⟨r,l⟩:=d.sub (.ref C);have j:∀ {Q:Option Value->Shared->Prop},Q none s->wpAny (model a w) A (tryCompare (.ref x) "__eq__" (.ref y)) Q E s:=λq=>zGE X I c J.at_ n q
 have k:∀ {Q:Option Value->Shared->Prop},Q none s->wpAny (model a w) A (tryCompare (.ref y) "__eq__" (.ref x)) Q E s:=λq=>zGE X J d I.at_ n.symm q
 have m:∀ {Q:Value->Shared->Prop},Q (.bool false) s->wpAny (model a w) A (richCompare .Eq (.ref x) (.ref y)) Q E s:=λ{Q} q=>by
  have f:wpAny (model a w) A (do return Value.bool (<- isSame (.ref x) (.ref y))) Q E s:=qQ (wpAny_isSame_ref_other n I.at_ J.at_ h (q8 q));unfold richCompare;simp only[oneThing_ref,cmpInfo_Eq];refine wpAny_holding (qQ (wpAny_cRoomFor o ?_));refine qQ (I.type.here (qQ (J.type.here ?_)));have i:∀ b:Bool,wpAny (model a w) A (do
    if b then
     if let some v<-tryCompare (.ref y) "__eq__" (.ref x) then rule "compare.subclass-reflected-first";return v
    if let some v<-tryCompare (.ref x) "__eq__" (.ref y) then return v
    if !b then
     if let some v<-tryCompare (.ref y) "__eq__" (.ref x) then return v
    rule "compare.eq-identity";return Value.bool (<- isSame (.ref x) (.ref y))) Q E s:=λb=>by
   cases b with
   | true =>
    simp only[if_true,Bool.not_true,Bool.false_eq_true,if_false];refine qQ (k ?_);refine qQ (j ?_)
    repeat (first | exact f | wp_step)
   | false =>
    simp only[if_true,Bool.not_false,Bool.false_eq_true,if_false];refine qQ (j ?_);refine qQ (k ?_)
    repeat (first | exact f | wp_step)
  split
  .refine qQ ((W.looks_mroIn X l).here ?_);exact i r
  .exact qQ (q8 (i false))
 unfold eqBool;refine wpAny_holding ?_;rw[g];simp only[Bool.false_eq_true,if_false];refine qQ (m ?_);exact wpAny_truthy_bool q
end
section
variable {X:Cx}
def InsE (K:W.Frag)(H:Hp)(v:V):Prop:=∃ a C dx gs,v=.ref a/\H a=some (.ins C dx gs)/\OCls K C
def rInO (K:W.Frag):R2:=λx y H Q=>∃ b vs,y=.ref b/\H b=some (.lst vs)/\InsE K H x/\(∀ v∈vs,InsE K H v)/\∀ t,Q (.bl t) H
theorem zHq :∀ {vs:List V} {us:List Value},Vals vs us->z∈us->∃ v,v∈vs/\RelV v z
 | _,_,.nil,m=>absurd m (by simp)
 | _,_,.cons h t,m=>by
  rcases mem_cons.mp m with rfl | m
  .exact ⟨_,q0,h⟩
  .obtain ⟨v,m1,m2⟩:=zHq t m;exact⟨v,qY _ m1,m2⟩
def zRo (A:X.A.units+1 < cLine):OpR X (compareOp .In) (rInO X.K):=by
 intro k s σ H x y v u Q I N o h;obtain⟨b,U,rfl,p,⟨a,C,Y,gs,rfl,G,c⟩,hv,q⟩:=h;cases (show v=Value.ref a from N);cases (show u=Value.ref b from o);obtain⟨d,r,S,Z⟩:=I.list (SqL.of p);obtain⟨W,O,_⟩:=zDZ I.hok G;obtain⟨T,J,_⟩:=O.look;have i:∀ z:Value,∃ t:Bool,z∈d.toArray->SeqAt.EqAt X.A.in1 s z (.ref a) t:=λz=>by
  by_cases m:z∈d.toArray
  .obtain ⟨v,R,K⟩:=zHq r (by simpa using m);obtain⟨f,V,n,F,rfl,g,L⟩:=hv v R;cases (show z=Value.ref f from K);by_cases e:f=a
   .subst e;refine⟨true,λ_ j w E Q q=>?_⟩;unfold eqBool;refine wpAny_holding ?_;rw[show (Value.ref f==Value.ref f)=true by simp];simp only[if_true]
    repeat (first | exact q | wp_step)
   .obtain ⟨M,B,_⟩:=zDZ I.hok g;obtain⟨l,D,_⟩:=B.look;exact⟨false,λ_=>zNN A I.kIn D J L c e⟩
  .exact ⟨false,λz=>absurd z m⟩
 obtain⟨e,P⟩:=Classical.axiomOfChoice i;exact SeqAt.in_listAt e S.isList P ⟨.bl _,H,I,rfl,q _⟩
def zLh:zDh X (.type "int") (λxs H Q=>∃ b,xs=[.bl b]/\Q (.int (if b then 1 else 0)) H):=by
 intro a s σ H xs us Q I r h;obtain⟨b,rfl,q⟩:=h;obtain⟨u,rfl,r1⟩:=zGz r;cases (show u=Value.bool b from r1);exact call_int_bool ⟨.int _,H,I.tok _,⟨_,rfl⟩,q⟩
end
section
variable {K:W.Frag}{H H':Hp}{O M:List CA}
def zHF {n:Nat}(e:O[n]?=some p)(h:(O++M)[n]?=some q):O[n]?=some q:=by
 rw[zCT e] at h;exact e.trans h
mutual
theorem DenW.cut:∀ {w:W} {u v:V},DenW K H O w u->DenW K H' (O++M) w v->DenW K H' O w v
 | .dat _,_,_,_,h=>by rw[DenW] at h ⊢;exact h
 | .loc n,_,_,g,h=>by
  rw[DenW] at g h ⊢;obtain⟨_,g,_⟩:=g;obtain⟨a,h,e⟩:=h;exact⟨a,zHF g h,e⟩
 | .ob c ns n,_,_,g,h=>by
  rw[DenW] at g h ⊢;obtain⟨_,g,_⟩:=g;obtain⟨a,h,e⟩:=h;exact⟨a,zHF g h,e⟩
 | .di t n,_,_,g,h=>by
  rw[DenW] at g h ⊢;obtain⟨_,g,_⟩:=g;obtain⟨a,h,e⟩:=h;exact⟨a,zHF g h,e⟩
 | .tup ws,_,_,g,h=>by
  rw[DenW] at g h ⊢;obtain⟨_,_,_,_,g⟩:=g;obtain⟨a,vs,h1,h2,h⟩:=h;exact⟨a,vs,h1,h2,DenWL.cut g h⟩
 | .obj c ns ws,_,_,g,h=>by
  rw[DenW] at g h ⊢;obtain⟨_,_,_,_,g⟩:=g;obtain⟨a,vs,h1,h2,h⟩:=h;exact⟨a,vs,h1,h2,DenWL.cut g h⟩
theorem DenWL.cut:∀ {ws:List W} {us vs:List V},DenWL K H O ws us->DenWL K H' (O++M) ws vs->DenWL K H' O ws vs
 | [],_,_,_,h=>by rw[DenWL] at h ⊢;exact h
 | w::ws,_,_,g,h=>by
  rw[DenWL] at g h ⊢;obtain⟨_,_,_,g1,g2⟩:=g;obtain⟨v,us,e,h1,h2⟩:=h;exact⟨v,us,e,DenW.cut g1 h1,DenWL.cut g2 h2⟩
end
theorem zC8.cut {a:Type}{enc:List Int->Option a}:∀ {ws:List W} {us vs:List (a×V)},zC8 K H O enc ws us->zC8 K H' (O++M) enc ws vs->zC8 K H' O enc ws vs
 | [],_,_,_,h=>h
 | _::ws,_,_,⟨_,_,_,_,_,_,g1,_,_,_,g5,g6⟩,⟨d,ks,k,u,v,r,h1,h2,h3,h4,h5,h6⟩=>by
  subst g1;cases h1;exact⟨_,ks,k,_,v,r,rfl,h2,h3,h4,g5.cut h5,zC8.cut g6 h6⟩
def zBG.cut (g:zBG K H O a ws k)(h:zBG K H' (O++M) b ws k):zBG K H' O b ws k:=by
 match k,g,h with
 | .lst,⟨_,_,g⟩,⟨vs,h1,h⟩=>exact⟨vs,h1,g.cut h⟩
 | .ins c ns,⟨_,_,_,_,_,_,_,g⟩,⟨C,dx,gs,h1,h2,h3,h4,h⟩=>exact⟨C,dx,gs,h1,h2,h3,h4,g.cut h⟩
 | .dic false,⟨_,_,g⟩,⟨vs,h1,h⟩=>exact⟨vs,h1,g.cut h⟩
 | .dic true,⟨_,_,g⟩,⟨vs,h1,h⟩=>exact⟨vs,h1,g.cut h⟩
def MS.cut {γ:Mem}{σ:St}(g:MS K H O B σ G)(h:MS K H' (O++M) (B++γ) O1 G')(e:G'.set i none=G.set i none):MS K H' O B O1 (G.set i none):=by
 refine⟨⟨g.cells.len,?_,λn c q=>?_⟩,by rw[<- e,length_set];exact h.len,λj w q=>?_⟩
 .have:=h.cells.nd;rw[xY] at this;exact(List.nodup_append.mp this).1
 .obtain ⟨p,f,a⟩:=g.cells.at_ n c q;obtain⟨k,h1,h2⟩:=h.cells.at_ n c (by rw[getElem?_append_left (zzg q).1];exact q);rw[zCT f] at h1;cases h1;exact⟨p,f,a.cut h2⟩
 .have d:=q;rw[<- e] at d;rcases zAS q with ⟨_,z,_⟩ | ⟨ne,z⟩
  .cases z
  rcases zAS d with ⟨_,b,_⟩ | ⟨_,b⟩
  .cases b
  obtain⟨u,_,a⟩:=g.get j w z;obtain⟨v,h1,h2⟩:=h.get j w b;exact⟨v,h1,a.cut h2⟩
end
section
variable {X:Cx}
noncomputable def objB (ob:List (Str×Str×Option Bool)):W->Bool
 | .obj c _ _=>decide ((c,("Layer":Str),some true)∈ob)
 | _=>false
def zKL {K:W.Frag}(h:objB ob w=true)(d:DenW K H O w v)(o:∀ p∈ob,ObOk K mg p):InsE K H v:=by
 unfold objB at h;split at h
 .rename_i c g l;obtain⟨_,_,q⟩:=o _ (of_decide_eq_true h);rw[DenW] at d;obtain⟨a,f,rfl,⟨C,b,e,h1,h2,h3,h4⟩,h5⟩:=d;exact⟨a,C,b,e,rfl,zBP _ _ h1,(q C h3).1⟩
 .cases h
open Classical in
def ambM (ob:List (Str×Str×Option Bool))(i:Nat)(f g:Mst->Option MR)(r:Mst->Option OutM):Mst->Option OutM:=λs=>(f s).bind λx=>(g ⟨s.G,x.2⟩).bind λy=>match y.1 with
 | .loc n=>(y.2[n]?).bind λws=>if objB ob x.1=true/\(∀ w∈ws,objB ob w=true)/\∀ k:Int,k=1\/k=2->∃ G γ,r ⟨s.G.set i (some (.dat (.int k))),y.2⟩=some (.nx ⟨G,y.2++γ⟩)/\G.set i none=s.G.set i none then some (.nx ⟨s.G.set i none,y.2⟩) else none
 | _=>none
def zMx (hu:X.A.units+1 < cLine)(q:∀ p∈ob,ObOk X.K X.mg p)(hN:X.N.Nodup)(hi:X.N[i]?=some x)(hx:Loc X.env.scope x)(hf:X.fn x=true)(hg:Gl X "int")(hm:X.mg "int"=none)(hc:GM X c f0)(e0:∀ s,f0 s=some (.dat (.int 1),s.B))(ha:GM X a f)(hb:GM X b g)(hr:GSsM X rest r)(B:behindInMarks .In b=false) :
  GSsM X (.Assign [.Name x pos'] (.BinOp c .Add (.Call (.Name "int" p) [.Compare a [.In] [b] p1] [] p2) p3) pos::rest) (ambM ob i f g r):=λH0 N=>by
 have A:PSs X rest λE σ H=>∃ z C,gSM X.K z C r E σ H:=λpins s σ H D I d=>by obtain⟨z,C,h⟩:=d;exact hr z C pins s σ H D I h
 have P:=zDz (zJy (pos:=pos) (pos':=pos') hN hi hx (zO3 (pos:=p3) zOA hc (zEC (p:=p) (pos:=p2) zLh hg hm (by decide +kernel) (zAU (zJ5 (pos:=p1) (zRo hu) ha hb B) zA2))) rfl (.inl hf)) A;refine P.imp λE σ H l=>?_
 obtain⟨M,s,o,S,k,e,p⟩:=l;obtain⟨x,ex,e⟩:=bind_some e;obtain⟨y,ey,e⟩:=bind_some e;split at e
 .rename_i n en;obtain⟨O,ew,e⟩:=bind_some e;by_cases h:objB ob x.1=true/\(∀ w∈O,objB ob w=true)/\∀ k:Int,k=1\/k=2->∃ G γ,r ⟨s.G.set i (some (.dat (.int k))),y.2⟩=some (.nx ⟨G,y.2++γ⟩)/\G.set i none=s.G.set i none
  .rw [if_pos h] at e;cases e;obtain⟨h1,h2,h3⟩:=h;refine⟨N++M,s.G,s.B,_,S,e0 _,λv1 z M1 W c1 Q=>?_⟩;have v:=S.next W c1;refine⟨_,s.G,s.B,x,v,ex,λv2 H2 M2 k2 c2 d2=>?_⟩;have u:=v.next k2 c2;refine⟨_,s.G,x.2,y,u,ey,λv3 H3 J F L R=>?_⟩;have m:=u.next F L;rw[en,DenW] at R;obtain⟨a3,e3,rfl⟩:=R;obtain⟨vs,g1,K⟩:=L.loc' e3 ew;refine⟨a3,vs,rfl,g1,zKL h1 (d2.mono F J) q,λv mv=>?_,λt=>⟨t,rfl,?_⟩⟩
   .obtain ⟨j,V⟩:=List.getElem?_of_mem mv;have T:j < O.length:=by rw[K.length];exact(zzg V).1
    obtain⟨v',U,q2⟩:=K.get (getElem?_eq_getElem T);rw[V] at U;cases U;exact zKL (h2 _ (getElem_mem T)) q2 q
   rw[DenW,Den] at Q;subst Q;refine⟨1,if t=true then 1 else 0,rfl,rfl,?_⟩;obtain⟨O5,γ,r1,r2⟩:=h3 (1+if t=true then 1 else 0) (by cases t;exact .inl rfl;exact .inr rfl);refine⟨H3,N++M++M1++M2++J,[],_,_,?_,Kp.refl _,r1,λM4 Z6 H4 m4 k4=>?_⟩
   .rw [append_nil];exact m.set (i:=i) (w:=.dat (.int (1+if t=true then 1 else 0))) (by rw[DenW,Den])
   .have Z:=m.cut m4 r2;rw[qJ,qJ,qJ] at Z;exact p _ Z6 H4 Z (k.trans (W.trans (k2.trans (F.trans k4))))
  .rw [if_neg h] at e;cases e
 .cases e
end
end DL
end
section
namespace DL
open PySem Spec PyProof.Rows L2
set_option genSizeOf false in
set_option genInjectivity false in
inductive ME where
 | pur (e:E) | var (i:Nat) | call (n:Nat) (f:Str) (es:ME) | lst (es:ME) | ix (a b:ME) | cmp (op:CmpOp) (a b:ME) | cat (a b:ME)
 | comp (n:Nat) (ms:List Nat) (x:Str) (src el:ME) | rng (a:ME) | rng2 (a b:E) | it (a:ME) | not (a:ME) | orl (es:ME) | nil | cons (e es:ME) | fld (a:ME) (f:Str) | mth (ix:List (Str×Nat)) (m:Str) (a es:ME) | mk (n:Nat) (c kw:Str) (d:Bool) (es:ME) | lcp (a:ME) | slc (u:Bool) (a b:ME) | nid (a b:ME)
set_option genSizeOf false in
set_option genInjectivity false in
inductive MT where
 | nil | cons (a b:MT) | set (i:Nat) (e:ME) | setC (i:Nat) (e:ME) | app (t e:ME) | ife (c:ME) (a b:MT) | for1 (i:Nat) (src:ME) (b:MT) 
 | ret (e:ME) | never | rev (t:ME) | amb (i:Nat) (a b:ME) (r:MT)
noncomputable def catW (x y:W)(B:Mem):Option MR:=match x,y with
 | .loc n,.loc m=>(B[n]?).bind λws=>(B[m]?).bind λvs=>if ws.length+vs.length<=10000 then some (.loc B.length,B++[ws++vs]) else none
 | _,_=>none
noncomputable def fnM (U:Dm)(n:Nat)(x:Str)(g:Mst->Option MA):Mst->Option MR:=λs=>match U[n]? with
 | some (y,F)=>if y=x then zLj F g s else none
 | none=>none
mutual
def evM (J:Gm)(U:Dm):ME->Mst->Option MR
 | .pur e=>zMi (evE J e)
 | .var i=>varM i
 | .call n f es=>fnM U n f (evMs J U es)
 | .lst es=>lstM (evMs J U es)
 | .ix a b=>twoM (evM J U a) (evM J U b) ixW
 | .cat a b=>twoM (evM J U a) (evM J U b) catW
 | .cmp op a b=>twoM (evM J U a) (evM J U b) (opM (cmpD op))
 | .fld a f=>fldM J.ob f (evM J U a)
 | .mth ix m a es=>mthM U ix m (evM J U a) (evMs J U es)
 | .mk n c kw d es=>mkM U n c kw d (evMs J U es)
 | .lcp a=>lcpM (evM J U a)
 | .slc u a b=>slcM u (evM J U a) (evM J U b)
 | .comp n ms _ src el=>zHj ms 1 (evSrc J U src) (tgM n) (evM J U el)
 | _=>λ_=>none
def evMs (J:Gm)(U:Dm):ME->Mst->Option MA
 | .nil=>nilM
 | .cons e es=>zNV (evM J U e) (evMs J U es)
 | _=>λ_=>none
def evSrc (J:Gm)(U:Dm):ME->Mst->Option (Src×Mem)
 | .rng a=>zMF (evM J U a)
 | .rng2 a b=>zT8 (evE J a) (evE J b)
 | .it a=>srcM (evM J U a)
 | _=>λ_=>none
end
mutual
noncomputable def evT (J:Gm)(U:Dm):ME->Mst->Option MB
 | .pur e=>zMj (asB (evE J e))
 | .cmp op a b=>asBM (evM J U (.cmp op a b))
 | .call n f es=>asBM (evM J U (.call n f es))
 | .nid a b=>asBM (twoM (evM J U a) (evM J U b) nidW)
 | .not a=>notB (evT J U a)
 | .orl es=>evOrT J U es
 | _=>λ_=>none
noncomputable def zGf (J:Gm)(U:Dm):ME->Mst->Option MB
 | .cons e es=>(match es with
  | .nil=>evT J U e
  | es=>andB (evT J U e) (zGf J U es))
 | _=>λ_=>none
noncomputable def evOrT (J:Gm)(U:Dm):ME->Mst->Option MB
 | .cons e es=>(match es with
  | .nil=>evT J U e
  | es=>orB (evT J U e) (evOrT J U es))
 | _=>λ_=>none
end
mutual
def evS' (J:Gm)(U:Dm):MT->Mst->Option OutM
 | .set i e=>setM i (evM J U e)
 | .setC i e=>setM i (evM J U e)
 | .app t e=>appM (evM J U t) (evM J U e)
 | .ife c a b=>ifM (evT J U c) (evSs' J U a) (evSs' J U b)
 | .for1 i src b=>λs=>(evSrc J U src s).bind λr=>zFu (tgM i) (evSs' J U b) r.1 0 ⟨s.G,r.2⟩
 | .ret e=>retM (evM J U e)
 | .rev t=>lm0M (evM J U t) List.reverse
 | .nil=>λ_=>none
 | .cons _ _=>λ_=>none
 | .never=>λ_=>none
 | .amb _ _ _ _=>λ_=>none
def evSs' (J:Gm)(U:Dm):MT->Mst->Option OutM
 | .nil=>λs=>some (.nx s)
 | .cons a b=>seqM (evS' J U a) (evSs' J U b)
 | .amb i a b r=>ambM J.ob i (evM J U a) (evM J U b) (evSs' J U r)
 | _=>λ_=>none
end
noncomputable def zLl:Expr->Bool
 | .Name _ _=>true
 | .Subscript _ _ _=>true
 | .Attribute _ _ _=>true
 | .Call _ (_::_) _ _=>true
 | _=>false
mutual
noncomputable def cM:ME->Scope->List Str->List Str->Expr->Bool
 | .pur e,sc,N,bs=>λx=>cE e sc N bs x
 | .var i,sc,N,bs=>λx=>cE (.var i) sc N bs x
 | .call _ f es,sc,N,bs=>λe=>onC e λy z2=>zH3 z2 λx xs=>(decide (f=y)&&glB sc f&&okN f&&(spec.lookup f).isNone&&cMs es sc N bs (x::xs))
 | .lst es,sc,N,bs=>λe=>zKF e λl _=>cMs es sc N bs l
 | .ix a b,sc,N,bs=>λe=>zBe e λl r _=>zHN r&&cM a sc N bs l&&cM b sc N bs r
 | .cat a b,sc,N,bs=>λe=>zFk e λl op' r _=>opB .Add op'&&cM a sc N bs l&&cM b sc N bs r
 | .cmp op a b,sc,N,bs=>λ_=>false
 | .fld a f,sc,N,bs=>λe=>zAs e λl m _=>decide (m=f)&&zLl l&&cM a sc N bs l
 | .mth _ m a es,sc,N,bs=>λe=>zBn e λz1 z2 z3 cpos=>zAs z1 λl m' apos=>on0 z3<|(decide (m'=m)&&zLl l&&(apos.endLine==cpos.line)&&decide (z2.length < 30)&&cM a sc N bs l&&cMs es sc N bs z2)
 | .mk _ c kw d es,sc,N,bs=>λe=>onC e λy z2=>zH3 z2 λx xs=>(decide (c=y)&&glB sc c&&okN c&&decide (d=true->kw ≠ "")&&cMs es sc N bs (x::xs))
 | .slc u a b,sc,N,bs=>λe=>zBe e λl z1 _=>zHM z1 λx y z2 _=>zE0 z2<|(if u then zE0 x<|zEE y λv=>cM a sc N bs l&&cM b sc N bs v else zE0 y<|zEE x λv=>cM a sc N bs l&&cM b sc N bs v)
 | .lcp a,sc,N,bs=>λe=>onC e λy z2=>on1 z2 λl=>(decide (y = "list")&&bltB sc bs "list"&&zAa l&&cM a sc N bs l)
 | .comp n ms x src el,sc,N,bs=>λe=>zDT e λv z1 scope _=>on1 z1 λz2=>zPI z2 λz3 t z4 a=>zAp z3 λy _=>on0 z4<|(decide (x=y)&&decide (a=0)&&decide (n=N.length)&&cscB sc scope&&zMZ scope N ms&&decide ((mask (noN N) ms N++[x]).Nodup)&&locB (relS sc scope) x&&ownB scope x&&cSrc src sc N bs t&&cM el (relS sc scope) (mask (noN N) ms N++[x]) bs v)
 | _,_,_,_=>λ_=>false
noncomputable def cMs:ME->Scope->List Str->List Str->List Expr->Bool
 | .nil,sc,N,bs=>λl=>l.isEmpty
 | .cons e es,sc,N,bs=>λl=>match l with
  | x::xs=>zAa x&&cM e sc N bs x&&cMs es sc N bs xs
  | []=>false
 | _,_,_,_=>λ_=>false
noncomputable def cSrc:ME->Scope->List Str->List Str->Expr->Bool
 | .rng a,sc,N,bs=>λx=>onC x λy z2=>on1 z2 λl=>(decide (y = "range")&&bltB sc bs "range"&&zAa l&&cM a sc N bs l)
 | .rng2 a b,sc,N,bs=>λ_=>false
 | .it a,sc,N,bs=>λx=>zKO x&&cM a sc N bs x
 | _,_,_,_=>λ_=>false
end
mutual
noncomputable def cT:ME->Scope->List Str->List Str->Expr->Bool
 | .pur e,sc,N,bs=>λx=>cE e sc N bs x
 | .cmp op a b,sc,N,bs=>λx=>cM (.cmp op a b) sc N bs x
 | .call n f es,sc,N,bs=>λx=>cM (.call n f es) sc N bs x
 | .nid a b,sc,N,bs=>λ_=>false
 | .not a,sc,N,bs=>λe=>zDE e λz1 l _=>onEq z1 .Not<|(cT a sc N bs l)
 | .orl es,sc,N,bs=>λe=>zD2 e λz1 l _=>onEq z1 .Or<|(cTs es sc N bs l)
 | _,_,_,_=>λ_=>false
noncomputable def cTs:ME->Scope->List Str->List Str->List Expr->Bool
 | .cons e es,sc,N,bs=>λl=>match es with
  | .nil=>(match l with
   | [x]=>cT e sc N bs x
   | _=>false)
  | es=>(match l with
   | x::y::xs=>cT e sc N bs x&&cTs es sc N bs (y::xs)
   | _=>false)
 | _,_,_,_=>λ_=>false
end
noncomputable def zPf:ME->Bool
 | .comp _ _ _ _ _=>true
 | _=>false
mutual
noncomputable def cS' (sc:Scope)(N bs:List Str):MT->Stmt->Bool
 | .set i e=>λs=>zB8 s λz1 v _=>on1 z1 λz2=>zAp z2 λy _=>varB sc N i y&&zH5 v&&cM e sc N bs v
 | .setC i e=>λs=>zB8 s λz1 v _=>on1 z1 λz2=>zAp z2 λy _=>zPf e&&varB sc N i y&&cM e sc N bs v
 | .app t e=>λs=>zED s λz1 _=>zBn z1 λz2 z3 z4 cpos=>zAs z2 λb m apos=>on1 z3 λv=>on0 z4<|(decide (m = "append")&&zLl b&&(apos.endLine==cpos.line)&&zAa v&&cM t sc N bs b&&cM e sc N bs v)
 | .ife c a b=>λs=>onIf s λt l r _=>cT c sc N bs t&&cSs' sc N bs a l&&cSs' sc N bs b r
 | .for1 i it b=>λs=>zPJ s λz1 t l z2 _=>zAp z1 λy _=>on0 z2<|(varB sc N i y&&cSrc it sc N bs t&&cSs' sc N bs b l)
 | .ret e=>λs=>zD1 s λz1 _=>zEE z1 λv=>cM e sc N bs v
 | .rev t=>λs=>zED s λz1 _=>zBn z1 λz2 z3 z4 cpos=>zAs z2 λb m apos=>on0 z3<|on0 z4<|(decide (m = "reverse")&&zLl b&&(apos.endLine==cpos.line)&&cM t sc N bs b)
 | .never=>λ_=>true
 | .nil=>λ_=>false
 | .cons _ _=>λ_=>false
 | .amb _ _ _ _=>λ_=>false
noncomputable def cSs' (sc:Scope)(N bs:List Str):MT->List Stmt->Bool
 | .nil=>λl=>l.isEmpty
 | .cons a b=>λl=>match l with
  | s::r=>cS' sc N bs a s&&cSs' sc N bs b r
  | []=>false
 | .amb i a b r=>λl=>match l with
  | s::rest=>zB8 s λz1 v _=>on1 z1 λz2=>zAp z2 λy _=>zFk v λc op' z _=>onC z λnm z2=>on1 z2 λcm=>zDG cm λx z1 z2 _=>on1 z1 λop=>on1 z2 λw=>(opB .Add op'&&decide (nm = "int")&&bltB sc bs "int"&&cmB .In op&&!(behindInMarks .In w)&&varB sc N i y&&cE (.int 1) sc N bs c&&cM a sc N bs x&&cM b sc N bs w&&cSs' sc N bs r rest)
  | []=>false
 | _=>λ_=>false
end
end DL
end
section
namespace DL
open PySem Spec PyProof.Rows L2
structure XOkM (X:Cx)(k:Nat)(J:Gm)(U:Dm)(bs:List Str):Prop where
 x:XOk X k J bs
 d:DmOk X.prog X.w X.K X.mg X.base k U
def XOkM.comp (o:XOkM X k J U bs)(a:N.Nodup):XOkM (zAY X N scope s H fp) k J U bs:=⟨o.x.comp a,o.d⟩
section
variable {X:Cx}{k:Nat}{J:Gm}{U:Dm}{bs:List Str}
def zKv (h:∀ s,f s=none):GM X e f:=λpins s σ H Q I a=>by
 obtain⟨O,G,B,r,b,q,c⟩:=a;rw[h] at q;cases q
def zO7:OpW X.K (zOx X.K) catW:=λH O B x y z w v Q c e u i n=>by
 unfold catW at e;split at e
 .rename_i m k;obtain⟨q,o,e⟩:=bind_some e;obtain⟨us,r,e⟩:=bind_some e;by_cases hl:q.length+us.length<=10000
  .rw [if_pos hl] at e;cases e;rw[DenW] at i;obtain⟨a,h1,rfl⟩:=u;obtain⟨b,h2,rfl⟩:=i;obtain⟨g,s,h⟩:=c.loc' h1 o;obtain⟨f,t,l⟩:=c.loc' h2 r;refine⟨_,_,g,f,rfl,rfl,SqL.of s,SqL.of t,by rw[<- h.length,<- l.length];exact zDB hl,λp j=>?_⟩;have d:Same H (upd H p (.lst (g++f))):=zAX j _;exact n _ _ [(p,.lst)] (zAx d) (c.new d j zAW ((h.append l).mono (zAx d) _)) (zDX c)
  .rw [if_neg hl] at e;cases e
 .cases e
def zUe (o:XOkM X k J U bs)(i:Gl X f)(h:(f==("__debug__":Str))=false)(j:GAM X (x::xs) g)(b:∀ e∈x::xs,zAa e=true)(c:spec.lookup f=none):GM X (.Call (.Name f p) (x::xs) [] pos) (fnM U n f g):=by
 cases q:U[n]? with
 | none=>exact zKv λs=>by unfold fnM;rw[q]
 | some l =>
  obtain⟨y,F⟩:=l;by_cases e:y=f
  .subst e;have d:fnM U n y g=zLj F g:=by
    funext s;unfold fnM
    simp_all
   rw[d];have D:=o.d y F (mem_of_getElem? q);rw[c] at D;obtain⟨a,m,r,h1,h2,h3,h4⟩:=D;exact zP2 h1 o.x.room i h2 h3 h4 j h (zAC (b x q0)) (zBJ λe z=>b e (qY _ z))
  .exact zKv λs=>by
    unfold fnM;rw[q];exact if_neg e
def zDN {c}(h:zLl b=true):attributeBase b m env c=c:=by
 cases b with
 | Call f a _ _=>cases a<;>first | (cases f<;>rfl) | cases h
 | _=>first | rfl | cases h
def zEj :∀ {es:List Expr},cMs a sc N bs es=true->∀ e∈es,zAa e=true:=by
 induction a with
 | nil =>
  intro es h;cases es with
  | nil=>intro e z;exact absurd z (by simp)
  | cons x c=>exact nomatch show false=true from h
 | cons a b _ d =>
  intro es h;cases es with
  | nil=>intro e z;exact absurd z (by simp)
  | cons x c =>
   simp only[cMs,x8] at h;intro e z;rcases mem_cons.mp z with rfl | z
   .simp_all
   .exact d h.2 e z
 | _=>intro es h;exact zzf h
def zS7 (h:∀ e∈es,zAa e=true)(a:es.length < 30)(pos:Pos):methodCallForm (es.length+([]:List Keyword).length) (backTo pos (starEach es X.env)) (backToKw pos (keywordEach [] X.env))=true:=by
 unfold methodCallForm;have q:=zBJ (X:=X) h pos;rw[x8,x8];refine⟨⟨?_,rfl⟩,decide_eq_true (by assumption)⟩
 simp_all
structure zUy (X:Cx)(J:Gm)(U:Dm)(bs:List Str)(a:ME):Prop where
 e:∀ e,cM a X.env.scope X.N bs e=true->GM X e (evM J U a):=by exact nh
 es:∀ es,cMs a X.env.scope X.N bs es=true->GAM X es (evMs J U a):=by exact nh
 s:∀ it,cSrc a X.env.scope X.N bs it=true->(∀ tg,GIM X tg it (evSrc J U a))/\∀ x,foldedSetIterable it X.env x=pure x:=by exact nh
 t:∀ e,cT a X.env.scope X.N bs e=true->GTM X e (evT J U a):=by exact nh
 ts:∀ l,cTs a X.env.scope X.N bs l=true->∀ pos,GWM X (.BoolOp .And l pos) (zGf J U a)/\GWM X (.BoolOp .Or l pos) (evOrT J U a):=by exact nh
def zBb (o:XOkM X k J U bs)(a:ME):zUy X J U bs a:=by
 induction a generalizing X with
 | pur e =>
  refine { e:=λx h=>zP1 (((zDA o.x e).e _ h).1),t:=λx h=>zMv (((zDA o.x e).e _ h).2) }
 | var i =>
  refine { e:=λx h=>?_ };replace h:cE (.var i) X.env.scope X.N bs x=true:=h;obtain⟨_,_,rfl,g⟩:=zAI h;replace h:=g;simp only[x8,qj] at h;obtain⟨⟨h2,h3⟩,h4⟩:=h;obtain⟨n1,n2⟩:=zB1 h4;exact zSY h2 (zD8 h3) n1 n2
 | call n f es ih =>
  have a7:∀ e,cM (.call n f es) X.env.scope X.N bs e=true->GM X e (evM J U (.call n f es))/\GTM X e (asBM (evM J U (.call n f es))):=λe h=>by
   obtain⟨_,_,_,_,rfl,g⟩:=zBW h;obtain⟨_,_,rfl,w⟩:=zEF g;replace h:=w;simp only[x8,qj,Option.isNone_iff_eq_none] at h;obtain⟨⟨⟨⟨rfl,h2⟩,h3⟩,h5⟩,h4⟩:=h;have k:=λp pos=>zUe (n:=n) (p:=p) (pos:=pos) o (zEV h2) (zB1 h3).1 ((ih o).es _ h4) (zEj h4) h5
   exact⟨k _ _,zPn (k _ _) λ_=>rfl⟩
  exact { e:=λe h=>(a7 e h).1,t:=λe h=>(a7 e h).2 }
 | lst es ih =>
  refine { e:=λx h=>?_ };obtain⟨_,_,rfl,g⟩:=zGP h;replace h:=g;have h:=(ih o).es _ h;refine(zN6 h).imp fun σ H Q zz89=>?_
  obtain⟨O,G,B,r,S,q,c⟩:=zz89;obtain⟨ws,e1,q⟩:=bind_some q;by_cases hl:ws.1.length<=10000
  .rw [if_pos hl] at q;cases q;refine⟨O,G,B,ws,S,e1,λvs H1 M k1 c1 V=>⟨by rw[<- V.length];exact zDB hl,λp n=>?_⟩⟩;have N:Same H1 (upd H1 p (.lst vs)):=zAX n _;refine c _ _ (M++[(p,.lst)]) (k1.trans (zAx N)) ?_ ?_
   .rw [<- qJ];exact c1.new N n zAW (V.mono (zAx N) [(p,.lst)])
   .rw [<- qJ];exact zDX c1
  .rw [if_neg hl] at q;cases q
 | ix a b j E =>
  refine { e:=λx h=>?_ };obtain⟨_,_,_,rfl,g⟩:=zBL h;replace h:=g;simp only[x8] at h;obtain⟨⟨h0,h1⟩,h2⟩:=h;exact ((zRa (zKk.or zOI) ((j o).e _ h1) ((E o).e _ h2) (zE1 h0)).imp λ_ _ _ q=>zKB zRf q)
 | cat a b j E =>
  refine { e:=λx h=>?_ };obtain⟨_,_,_,_,rfl,g⟩:=zDU h;replace h:=g;simp only[x8,opB,qj] at h;obtain⟨⟨rfl,h1⟩,h2⟩:=h;exact ((zO3 zKC ((j o).e _ h1) ((E o).e _ h2)).imp λ_ _ _ q=>zKB zO7 q)
 | cmp op a b j E =>
  exact {}
 | fld a f j =>
  refine { e:=λx h=>?_ };obtain⟨_,_,_,rfl,g⟩:=zAe h;replace h:=g;simp only[x8,qj] at h;obtain⟨⟨rfl,h2⟩,h3⟩:=h;exact zSc ((j o).e _ h3) (zDN h2) λc m C q=>o.x.g.ob _ m C q
 | mth ix m a es j A =>
  refine { e:=λx h=>?_ };obtain⟨z1,z2,z3,_,rfl,g⟩:=zAu h;obtain⟨_,_,_,rfl,w⟩:=zAe g;obtain⟨rfl,K⟩:=zBI w;replace h:=K;simp only[x8,qj] at h;obtain⟨⟨⟨⟨⟨rfl,h2⟩,h3⟩,h4⟩,h5⟩,h6⟩:=h;cases z2 with
  | nil =>
   cases es with
   | nil=>exact zP0 ((j o).e _ h5) o.d o.x.room (zDN h2) h3
   | _=>exact(zzf h6)
  | cons x xs =>
  have st:=zEj h6;exact zSZ ((j o).e _ h5) ((A o).es _ h6) o.d o.x.room (zAC (st _ q0)) (zBJ (λe z=>st e (qY _ z)) _) (zDN h2) (zS7 st h4 _) h3
 | mk n c kw d es A =>
  refine { e:=λx h=>?_ };obtain⟨_,_,_,_,rfl,g⟩:=zBW h;obtain⟨_,_,rfl,w⟩:=zEF g;replace h:=w;simp only[x8,qj] at h;obtain⟨⟨⟨⟨rfl,h2⟩,h3⟩,h6⟩,h4⟩:=h;have st:=zEj h4;exact zUc ((A o).es _ h4) o.d o.x.room (zEV h2) (zB1 h3).1 (zAC (st _ q0)) (zBJ (λe z=>st e (qY _ z)) _) h6
 | slc u a b j E =>
  refine { e:=λx h=>?_ };obtain⟨_,z1,_,rfl,g⟩:=zBL h;obtain⟨_,_,z2,_,rfl,w⟩:=zEz g;obtain⟨rfl,L⟩:=zDF w;cases u with
  | true =>
   rw[if_pos rfl] at L;obtain⟨rfl,K⟩:=zDF L;obtain⟨_,rfl,D⟩:=zCV K;rw[x8] at D;have T:=(j o).e _ D.1;have hb:=(E o).e _ D.2;refine(zFi zG4 T zHH (zHG hb)).imp fun σ H Q zz106=>?_
   obtain⟨O,G,B,r,S,q,c⟩:=zz106;obtain⟨x,ex,q⟩:=bind_some q;obtain⟨y,ey,q⟩:=bind_some q;split at q
   .rename_i n i en ei;obtain⟨ws,ew,q⟩:=bind_some q;cases q;refine⟨O,G,B,x,S,ex,λv H1 M1 k1 c1 V=>⟨O++M1,G,x.2,y,S.next k1 c1,ey,λv2 H2 M2 k2 Z d2=>?_⟩⟩;rw[ei,DenW,Den] at d2;rw[en,DenW] at V;obtain⟨a,T,rfl⟩:=V;obtain⟨vs,Y,g3⟩:=Z.loc' (getElem?_append_left (zzg T).1 |>.trans T) ew;refine⟨i,d2,a,vs,rfl,SqL.of Y,λl nl=>?_⟩;have N:Same H2 (upd H2 l (.lst (cutV vs none (some i)))):=zAX nl _;have g4:DenWL X.K H2 (O++M1++M2) (cutW ws none (some i)) (cutV vs none (some i)):=by unfold cutW cutV;rw[<- g3.length];exact(g3.drop _).take _
    exact c _ _ (M1++M2++[(l,.lst)]) ((k1.trans k2).trans (zAx N)) (by rw[<- qJ,<- qJ];exact Z.new N nl zAW (g4.mono (zAx N) _)) (by rw[<- qJ,<- qJ];exact zDX Z)
   .cases q
  | false =>
   rw[if_neg qX] at L;obtain⟨rfl,K⟩:=zDF L;obtain⟨_,rfl,D⟩:=zCV K;rw[x8] at D;have T:=(j o).e _ D.1;have hb:=(E o).e _ D.2;refine(zFi zG4 T (zHG hb) zHH).imp fun σ H Q zz107=>?_
   obtain⟨O,G,B,r,S,q,c⟩:=zz107;obtain⟨x,ex,q⟩:=bind_some q;obtain⟨y,ey,q⟩:=bind_some q;split at q
   .rename_i n i en ei;obtain⟨ws,ew,q⟩:=bind_some q;cases q;refine⟨O,G,B,x,S,ex,λv H1 M1 k1 c1 V=>⟨O++M1,G,x.2,y,S.next k1 c1,ey,λv2 H2 M2 k2 Z d2=>?_⟩⟩;rw[ei,DenW,Den] at d2;rw[en,DenW] at V;obtain⟨a,T,rfl⟩:=V;obtain⟨vs,Y,g3⟩:=Z.loc' (getElem?_append_left (zzg T).1 |>.trans T) ew;refine⟨i,d2,a,vs,rfl,SqL.of Y,λl nl=>?_⟩;have N:Same H2 (upd H2 l (.lst (cutV vs (some i) none))):=zAX nl _;have g4:DenWL X.K H2 (O++M1++M2) (cutW ws (some i) none) (cutV vs (some i) none):=by unfold cutW cutV;rw[<- g3.length];exact(g3.drop _).take _
    exact c _ _ (M1++M2++[(l,.lst)]) ((k1.trans k2).trans (zAx N)) (by rw[<- qJ,<- qJ];exact Z.new N nl zAW (g4.mono (zAx N) _)) (by rw[<- qJ,<- qJ];exact zDX Z)
   .cases q
 | lcp a j =>
  refine { e:=λx h=>?_ };obtain⟨_,_,_,_,rfl,g⟩:=zBW h;obtain⟨_,rfl,w⟩:=zAm g;replace h:=w;simp only[x8,qj] at h;obtain⟨⟨⟨rfl,h2⟩,h3⟩,h4⟩:=h;obtain⟨g1,Y⟩:=zAy o.x h2;exact zSb g1 Y ((j o).e _ h4) (zAC h3)
 | nid a b j E =>
  exact {}
 | comp n S x d0 el A F =>
  refine { e:=λe h=>?_ };obtain⟨v,z1,R,pos,rfl,g⟩:=zB7 h;obtain⟨z2,rfl,w⟩:=zAm g;obtain⟨z3,t,z4,a,rfl,L⟩:=zFj w;obtain⟨y,py,rfl,K⟩:=zAI L;obtain⟨rfl,D⟩:=zBI K;replace h:=D;simp only[x8,qj] at h;obtain⟨⟨⟨⟨⟨⟨⟨⟨⟨rfl,rfl⟩,rfl⟩,h4⟩,h5⟩,h6⟩,h7⟩,h8⟩,h9⟩,h11⟩:=h;have cx:∀ s H fp,XOkM (zAY X (mask (noN X.N) S X.N++[x]) R s H fp) k J U bs:=λs H fp=>o.comp h6
  exact zKw o.x.calm (((A o).s _ h9).1 _) ((A o).s _ h9).2 (zHi h4) (zFn h5) (λs H fp=>zFt (X:=zAY X (mask (noN X.N) S X.N++[x]) R s H fp) h6 (zLB (k:=0) rfl) (zEM h7) (.inl h8)) λs H fp=>(F (cx s H fp)).e _ h11
 | rng a j =>
  refine { s:=λx h=>?_ };obtain⟨_,_,_,_,rfl,g⟩:=zBW h;obtain⟨_,rfl,w⟩:=zAm g;replace h:=w;simp only[x8,qj] at h;obtain⟨⟨⟨rfl,h2⟩,h3⟩,h4⟩:=h;obtain⟨g1,Y⟩:=zAy o.x h2;exact⟨λtg=>zI4 g1 Y ((j o).e _ h4) (zAC h3),λ_=>rfl⟩
 | rng2 a b =>
  exact {}
 | it a j =>
  refine { s:=λx h=>?_ };replace h:(zKO x&&cM a X.env.scope X.N bs x)=true:=h;simp only[x8] at h;exact⟨λtg=>zP3 ((j o).e _ h.2),zE2 h.1⟩
 | not a j =>
  refine { t:=λe h=>?_ };obtain⟨z1,_,_,rfl,g⟩:=zCU h;obtain⟨rfl,w⟩:=zC1 g;replace h:=w;exact zPo ((j o).t _ h)
 | orl es ih =>
  refine { t:=λe h=>?_ };obtain⟨z1,_,_,rfl,g⟩:=zC2 h;obtain⟨rfl,w⟩:=zC1 g;replace h:=w;exact (λpins s σ H Q I q=>(((ih o).ts _ h _).2) _ pins s σ H Q I q)
 | nil =>
  refine { es:=λes h=>?_ };cases es with
  | nil=>exact zQC
  | cons x xs=>exact nof h
 | cons e es F A =>
  refine { es:=λl h=>?_,ts:=λl h pos=>?_ }
  .cases l with
   | nil=>exact nof h
   | cons x xs =>
    replace h:(zAa x&&cM e X.env.scope X.N bs x&&cMs es X.env.scope X.N bs xs)=true:=h;simp only[x8] at h;exact zM7 ((F o).e _ h.1.2) ((A o).es _ h.2) (zAC h.1.1)
  .simp only [cTs] at h;split at h
   .split at h
    .exact ⟨(zJx ((F o).t _ h)),(zN0 ((F o).t _ h))⟩
    .cases h
   .rename_i hn;split at h
    .rw [x8] at h;have q:=(A o).ts _ h.2 pos;have ea:zGf J U (.cons e es)=andB (evT J U e) (zGf J U es):=by
      rw[zGf];exact hn
     have eo:evOrT J U (.cons e es)=orB (evT J U e) (evOrT J U es):=by
      rw[evOrT];exact hn
     rw[ea,eo];exact⟨zPm ((F o).t _ h.1) q.1,zSL ((F o).t _ h.1) q.2⟩
    .cases h
end
section
variable {X:Cx}{k:Nat}{J:Gm}{U:Dm}{bs:List Str}
def zJe (o:XOkM X k J U bs)(w:∀ x,X.fn x=true)(a:MT):(∀ st,cS' X.env.scope X.N bs a st=true->GSM X st (evS' J U a))/\∀ sts,cSs' X.env.scope X.N bs a sts=true->GSsM X sts (evSs' J U a):=by
 have I:=o.x.nd
 induction a with
 | nil =>
  refine⟨nh,λl h=>?_⟩;cases l with
  | nil=>exact zMw
  | cons x xs=>exact nof h
 | cons a b B q =>
  refine⟨nh,λl h=>?_⟩;cases l with
  | nil=>exact nof h
  | cons x xs =>
   replace h:(cS' X.env.scope X.N bs a x&&cSs' X.env.scope X.N bs b xs)=true:=h;simp only[x8] at h;exact zKr (B.1 _ h.1) (q.2 _ h.2)
 | amb i a b r Q =>
  refine⟨nh,λl h=>?_⟩;cases l with
  | nil=>exact nof h
  | cons x xs =>
   obtain⟨z,_,_,rfl,d⟩:=zBK h;obtain⟨D,rfl,f⟩:=zAm d;obtain⟨_,_,rfl,g⟩:=zAI f;obtain⟨_,_,_,_,rfl,u⟩:=zDU g;obtain⟨_,_,_,_,rfl,m⟩:=zBW u;obtain⟨_,rfl,R⟩:=zAm m;obtain⟨_,P,N,_,rfl,S⟩:=zCW R;obtain⟨_,rfl,V⟩:=zAm S;obtain⟨_,rfl,Y⟩:=zAm V;replace h:=Y;simp only[x8,opB,cmB,qj,Bool.not_eq_true'] at h;obtain⟨⟨⟨⟨⟨⟨⟨⟨⟨rfl,rfl⟩,h1⟩,rfl⟩,h2⟩,h3⟩,h4⟩,h5⟩,h6⟩,h7⟩:=h;obtain⟨g1,g2⟩:=zAy o.x h1;obtain⟨G,E,_⟩:=zBa h3;exact zMx (Nat.lt_of_le_of_lt (by omega) (zDx o.x)) o.x.g.ob I G E (w _) g1 g2 ((zBb o (.pur (.int 1))).e _ h4) (λs=>rfl) ((zBb o a).e _ h5) ((zBb o b).e _ h6) (Q.2 _ h7) h2
 | set i e =>
  refine⟨λst h=>?_,nh⟩;obtain⟨z,_,_,rfl,d⟩:=zBK h;obtain⟨D,rfl,f⟩:=zAm d;obtain⟨_,_,rfl,g⟩:=zAI f;replace h:=g;simp only[x8] at h;obtain⟨⟨h2,h3⟩,h4⟩:=h;obtain⟨G,E,_⟩:=zBa h2;exact zKs I G E ((zBb o e).e _ h4) (zEI h3) (.inl (w _))
 | setC i e =>
  refine⟨λst h=>?_,nh⟩;obtain⟨z,_,_,rfl,d⟩:=zBK h;obtain⟨D,rfl,f⟩:=zAm d;obtain⟨_,_,rfl,g⟩:=zAI f;replace h:=g;simp only[x8] at h;obtain⟨⟨h2,h3⟩,h4⟩:=h;obtain⟨w1,w2,_⟩:=zBa h3;cases e with
  | comp n Z x F el =>
   obtain⟨v,z,j,a7,rfl,K⟩:=zB7 h4;obtain⟨D,rfl,L⟩:=zAm K;obtain⟨P,t,N,a,rfl,W⟩:=zFj L;obtain⟨y,py,rfl,O⟩:=zAI W;obtain⟨rfl,T⟩:=zBI O;replace h4:=T
   .simp only [x8,qj] at h4;obtain⟨⟨⟨⟨⟨⟨⟨⟨⟨rfl,rfl⟩,rfl⟩,h4⟩,h5⟩,h6⟩,h7⟩,h8⟩,h9⟩,h11⟩:=h4;have cx:∀ s H C,XOkM (zAY X (mask (noN X.N) Z X.N++[x]) j s H C) k J U bs:=λs H C=>o.comp h6
    exact zMz o.x.calm (((zBb o F).s _ h9).1 _) ((zBb o F).s _ h9).2 (zHi h4) (zFn h5) (λs H C=>zFt (X:=zAY X (mask (noN X.N) Z X.N++[x]) j s H C) h6 (zLB (k:=0) rfl) (zEM h7) (.inl h8)) (λs H C=>(zBb (cx s H C) el).e _ h11) I w1 w2 (.inl (w _))
  | _=>cases h2
 | app t e =>
  refine⟨λst h=>?_,nh⟩;obtain⟨z,_,rfl,d⟩:=zCm h;obtain⟨D,P,N,_,rfl,f⟩:=zAu d;obtain⟨_,_,_,rfl,g⟩:=zAe f;obtain⟨_,rfl,u⟩:=zAm g;obtain⟨rfl,m⟩:=zBI u;replace h:=m;simp only[x8,qj] at h;obtain⟨⟨⟨⟨⟨rfl,h2⟩,h3⟩,h4⟩,h5⟩,h6⟩:=h;exact zPu ((zBb o t).e _ h5) ((zBb o e).e _ h6) (zAC h4) (zDN h2) h3
 | ife c a b B q =>
  refine⟨λst h=>?_,nh⟩;obtain⟨_,_,_,_,rfl,d⟩:=zKG h;replace h:=d;simp only[x8] at h;obtain⟨⟨h1,h2⟩,h3⟩:=h;exact zSS ((zBb o c).t _ h1) (B.2 _ h2) (q.2 _ h3)
 | for1 i it b q =>
  refine⟨λst h=>?_,nh⟩;obtain⟨z,_,_,D,_,rfl,d⟩:=zH2 h;obtain⟨_,_,rfl,f⟩:=zAI d;obtain⟨rfl,g⟩:=zBI f;replace h:=g;simp only[x8] at h;obtain⟨⟨h2,h3⟩,h4⟩:=h;obtain⟨G,E,_⟩:=zBa h2;obtain⟨s1,s2⟩:=(zBb o it).s _ h3;exact zPt o.x.own o.x.calm (s1 _) (zFt I G E (.inl (w _))) (q.2 _ h4) s2
 | ret e =>
  refine⟨λst h=>?_,nh⟩;obtain⟨z,_,rfl,d⟩:=zC0 h;obtain⟨_,rfl,f⟩:=zCV d;replace h:=f;exact zPs ((zBb o e).e _ h)
 | rev t =>
  refine⟨λst h=>?_,nh⟩;obtain⟨z,_,rfl,d⟩:=zCm h;obtain⟨D,P,N,_,rfl,f⟩:=zAu d;obtain⟨_,_,_,rfl,g⟩:=zAe f;obtain⟨rfl,u⟩:=zBI g;obtain⟨rfl,m⟩:=zBI u;replace h:=m;simp only[x8,qj] at h;obtain⟨⟨⟨rfl,h2⟩,h3⟩,h5⟩:=h;exact zPr ((zBb o t).e _ h5) (zDN h2) h3
 | never=>exact⟨λst h=>(λH0 α0=>(zFe (X:=X) (st:=st)).imp λE σ H A=>by obtain⟨M,s,o,Z,k,e,p⟩:=A;cases e),nh⟩
end
section
variable {P:Program}{w:World}{K:W.Frag}{mg:Str->Option Value}{base:Heap}{k:Nat}{J:Gm}{U:Dm}{bs:List Str}
def zHh {st:Stmt}(F:Fun K x qual st f fd)(sc:zAV N ps (zAA st))(c:cSs' (zAA st) N bs b (zAE st)=true)(g:GOk P w K mg base k J bs)(d:DmOk P w K mg base k U) :
  FnOk P w K mg base CX0 (k+1) f fd ps (spM K (zAj ps.length N.length (evSs' J U b))) :=
 zQG F sc λcdv A a s H E e =>
  (zJe ⟨⟨g,e,rfl,sc.nd,PassesOwn.never⟩,d⟩ (λ_=>rfl) b).2 _ c
def DmOk.mono (d:DmOk P w K mg base k U)(h:k<=j):DmOk P w K mg base j U:=λx F m=>(d x F m).mono h
noncomputable def Dm.add (U:Dm)(x:Str)(F:MF):Dm:=U++[(x,F)]
def DmOk.one (d:DmOk P w K mg base k U)(h:k<=j)(e:zLy P w K mg base j x F (spec.lookup x)):DmOk P w K mg base j (U.add x F):=λy G z=>by
 rcases mem_append.mp z with z | z
 .exact (d y G z).mono h
 .grind
def DmOk.add {st:Stmt}(d:DmOk P w K mg base k U)(g:GOk P w K mg base k J bs)(F:Fun K x x st f fd)(sc:zAV N ps (zAA st))(e:cSs' (zAA st) N bs b (zAE st)=true)(m:mg x=some (.ref f))(c:zBH K fd ps [])(a:spec.lookup x=none:=by decide +kernel) :
  DmOk P w K mg base (k+1) (U.add x (zAj ps.length N.length (evSs' J U b))):=d.one (Nat.le_succ k) (by rw[a];exact⟨f,fd,ps,zHh F sc e g d,m,F.kp,c⟩)
def DmOk.addM {st:Stmt}(d:DmOk P w K mg base k U)(g:GOk P w K mg base k J bs)(F:Fun K nm qual st f fd)(sc:zAV N ps (zAA st))(a:cSs' (zAA st) N bs b (zAE st)=true)(h:zBH K fd ps [])(e:zBT K c C)(l:Cls K C)(i:Meth K C m f)(j:spec.lookup x=some (.mth c m)) :
  DmOk P w K mg base (k+1) (U.add x (zAj ps.length N.length (evSs' J U b))):=d.one (Nat.le_succ k) (by rw[j];exact⟨C,f,fd,ps,e,l,i,zHh F sc a g d,h⟩)
def GOk.mono (g:GOk P w K mg base k J bs)(h:k<=j):GOk P w K mg base j J bs :=
 ⟨λx F m=>let ⟨f,fd,ps,h1,h2⟩:=g.fn x F m;⟨f,fd,ps,h1.mono h,h2⟩,g.cs,g.bt,trivial,trivial,trivial,λj L F e=>(g.lm j L F e).mono h,g.ob⟩
end
def zQy (f:H x=some (.ins C dx fs))(d:zEc fs=false):zCf (fzH H) (fzH (upd H x o)):=λb u q n=>by
 obtain⟨a,c⟩:=zCa.mp q;by_cases e:b=x
 .grind
 .exact zCa.mpr ⟨by rw[zAQ e];exact a,c⟩
def zAD.updI {K:W.Frag}(c:zAD K H O B)(f:H x=some (.ins C dx fs))(g:zEc fs=false)(nm:mutF fs=false):zAD K (upd H x o) O B :=
 ⟨c.len,c.nd,λn b q=>let ⟨p,h1,h2⟩:=c.at_ n b q;⟨p,h1,by
  have d:p.1≠x:=λz=>by
   obtain⟨u,e,a⟩:=h2.some
   simp_all
   cases e;rw[show fz1 _=if mutF fs=true then none else some _ from rfl] at a;grind
  have:=h2.monoF (zQy (o:=o) f g) (zAQ d) [];rwa [append_nil] at this⟩⟩
noncomputable def zDa:List (Str×(Mst->Option MR))->Mst->Option (List W×Mem)
 | [],s=>some ([],s.B)
 | p::r,s=>(p.2 s).bind λw=>(zDa r ⟨s.G,w.2⟩).map λz=>(w.1::z.1,z.2)
noncomputable def mkR (c:Str)(ns:List Str)(z:List W×Mem):MR:=if mutK ns=true then (.ob c ns z.2.length,z.2++[z.1]) else (.obj c ns z.1,z.2)
noncomputable def zEr (c:Str)(n:Nat)(L:List (Str×(Mst->Option MR))):MF:=λws B=>if ws.length=n then (zDa L ⟨none::ws.map some,B⟩).map (mkR c (L.map (·.1))) else none
def iT (K:W.Frag)(C dx x:Addr)(H1:Hp)(α0:List CA)(σ0:St)(G:List (Option W))(full:List Str)(L:List (Str×(Mst->Option MR))):TS:=λE σ H =>
 ∃ M B fs vs acc z,σ=σ0/\H x=some (.ins C dx fs)/\x∉(α0++M).map (·.1)/\Kp H1 H/\zAD K H (α0++M) B/\fs.map (·.1)++L.map (·.1)=full/\((fs.map (·.1)).map λn=>fs.lookup n)=vs.map some/\DenWL K H (α0++M) acc vs/\zDa L ⟨G,B⟩=some z /\
  ∀ M' H' fs' vs',x∉(α0++M').map (·.1)->Kp H1 H'->zAD K H' (α0++M') z.2->H' x=some (.ins C dx fs')->fs'.map (·.1)=full->(full.map λn=>fs'.lookup n)=vs'.map some->DenWL K H' (α0++M') (acc++z.1) vs'->E.nx σ0 H'
noncomputable def zO0 (full:List Str):Bool:=(List.range full.length).all λi=>!(zLY (full.take i))&&!(mutK (full.take i))
inductive zEl (X:Cx) (y:Str):List Stmt->List (Str×(Mst->Option MR))->Prop where
 | nil:zEl X y [] []
 | cons {f:Str} {e:Expr} {g:Mst->Option MR} {p p2 pos:Pos} {rest:List Stmt} {L:List (Str×(Mst->Option MR))} (h:GM X e g) (t:zEl X y rest L):zEl X y (.Assign [.Attribute (.Name y p) f p2] e pos::rest) ((f,g)::L)
theorem zFd {f:Str}{v:V}:∀ {fs:List (Str×V)},f∉fs.map (·.1)->putF f v fs=fs++[(f,v)]
 | [],_=>rfl
 | (g,u)::r,h=>by
  rw[map_cons,mem_cons,not_or] at h;unfold putF;rw[if_neg (λz=>h.1 z.symm),zFd h.2]
  rfl
def zMp {α0:List CA}{σ0:St}(cl:Cls X.K C)(na:∀ n∈full,zBQ X.K C n)(nd:full.Nodup)(hp:zO0 full=true)(hl:full.length<=100)(n1:H1 x=none)
  (hy:X.N[0]?=some y) (vy:Vis X.env.scope y) (oy:okN y=true) (Z7:σ0[0]?=some (some (.ref x))) (F:σ0.length=G.length) (E:∀ (i:Nat) w,G[i]?=some (some w)->∃ v,σ0[i]?=some (some v)/\DenW X.K H1 α0 w v) :
  ∀ {l:List Stmt} {L:List (Str×(Mst->Option MR))},zEl X y l L->PSs X l (iT X.K C dx x H1 α0 σ0 G full L):=by
 intro l L h
 induction h with
 | nil =>
  refine zHE.imp λE σ H j=>?_
  obtain⟨M,B,fs,N,A,z,r,S,nx,J,c1,c,O,R,s,k⟩:=j;cases s;subst r;simp only[map_nil,append_nil] at c;exact k M H fs N nx J c1 S c (by rw[<- c];exact O) (by rw[append_nil];exact R)
 | @cons f e g p p2 pos rest L hg t ih =>
  refine(zDz (zRT (zDD hy vy (zB1 oy).1 (zB1 oy).2) hg (by cases e<;>rfl)) ih).imp λE σ H d=>?_
  obtain⟨M,B,fs,N,A,z,r,S,nx,J,c1,c,O,R,s,k⟩:=d;subst r;obtain⟨w,ew,s⟩:=bind_some s;obtain⟨z',ez,e3⟩:=x9.mp s;cases e3;have ms:MS X.K H (α0++M) B σ G:=⟨c1,F,λi w q=>let ⟨v,q1,q2⟩:=E i w q;⟨v,q1,q2.mono J M⟩⟩;refine⟨α0++M,G,B,w,ms,ew,λv u D P c2 dv=>⟨.ref x,Z7,x,C,dx,fs,rfl,?_⟩⟩;have mf:f∈full:=by rw[<- c];simp
  have lf:fs.length < full.length:=by
   have:=congrArg List.length c;simp only[List.length_append,qy,xX] at this;omega
  have tk:full.take fs.length=fs.map (·.1):=by
   rw[<- c,List.take_append_of_le_length (by rw[qy];exact le_refl _),take_of_length_le (by rw[qy];exact le_refl _)]
  have K:zEc fs=false/\mutF fs=false:=by
   unfold zO0 at hp;have:=all_eq_true.mp hp fs.length (mem_range.mpr lf);rw[tk,x8,Bool.not_eq_true',Bool.not_eq_true'] at this;exact this
  have I:=K.1;have a:u x=some (.ins C dx fs):=zBP _ _ (P _ _ (zIE S K.2));have U:x∉(α0++(M++D)).map (·.1):=by
   rw[<- qJ];exact c2.out a (zCa.mp (zIE a K.2)).2
  have Z:f∉fs.map (·.1):=by
   rw[<- c] at nd;have:=(List.nodup_append.mp nd).2.2;exact λm=>this f m f (by simp) rfl
  refine⟨a,cl,na f mf,by omega,?_⟩;have up:zCf (fzH u) (fzH (upd u x (.ins C dx (putF f v fs)))):=zQy a I;have tr:∀ {T:List W} {us:List V},DenWL X.K u (α0++M++D) T us->DenWL X.K (upd u x (.ins C dx (putF f v fs))) (α0++(M++D)) T us:=λ{T us} q=>by
   have:=q.monoF up [];rw[append_nil,qJ] at this;exact this
  refine⟨M++D,w.2,putF f v fs,N++[v],A++[w.1],z',rfl,zAW,U,λb o q=>?_,?_,?_,?_,?_,ez,λM' H' Y Q a0 a1 a2 a3 a4 a5 a6=>k M' H' Y Q a0 a1 a2 a3 a4 a5 (by simpa using a6)⟩
  .have q2:=P _ _ (J _ _ q);have ne:b≠x:=λz=>by
    rw[z] at q;have:=zBP _ _ q;rw[n1] at this;cases this
   obtain⟨g1,g2⟩:=zCa.mp q2;exact zCa.mpr ⟨by rw[zAQ ne];exact g1,g2⟩
  .rw [<- qJ];exact c2.updI a I K.2
  .rw [zFd Z,xY,qJ];exact c
  .have r:(putF f v fs).map (·.1)=fs.map (·.1)++[f]:=by rw[zFd Z,xY];rfl
   rw[r,xY,xY,<- O];congr 1
   .refine map_congr_left λn hn=>?_
    rw[zCA,if_neg (λz=>Z (by rw[<- z];exact hn))]
   .show [(putF f v fs).lookup f]=[some v];rw[zCA,if_pos rfl]
  .exact tr ((R.mono P D).append (.cons dv .nil))
noncomputable def zF4 (sc:Scope)(N bs:List Str)(y:Str):List (Str×ME)->List Stmt->Bool
 | [],[]=>true
 | (f,m)::L,s::r=>(zB8 s λz1 v _=>on1 z1 λz2=>zAs z2 λo f' _=>zAp o λy' _=>decide (y'=y)&&decide (f'=f)&&cM m sc N bs v)&&zF4 sc N bs y L r
 | _,_=>false
section
variable {P:Program}{w:World}{K:W.Frag}{mg:Str->Option Value}{base:Heap}{k:Nat}{J:Gm}{U:Dm}{bs:List Str}
theorem zIa (o:XOkM X k J U bs):∀ {L:List (Str×ME)} {sts:List Stmt},zF4 X.env.scope X.N bs y L sts=true->zEl X y sts (L.map λp=>(p.1,evM J U p.2))
 | [],[],_=>.nil
 | [],_::_,h=>(zzf h)
 | _::_,[],h=>(zzf h)
 | (f,m)::L,s::r,h=>by
  unfold zF4 at h;rw[x8] at h;obtain⟨h,h2⟩:=h;obtain⟨z1,_,_,rfl,hq1⟩:=zBK h;obtain⟨z2,rfl,hq2⟩:=zAm hq1;obtain⟨_,_,_,rfl,hq3⟩:=zAe hq2;obtain⟨_,_,rfl,hq4⟩:=zAI hq3;simp only[x8,qj] at hq4;obtain⟨⟨rfl,rfl⟩,h4⟩:=hq4;exact .cons ((zBb o m).e _ h4) (zIa o h2)
def zJM:∀ {fs:List (Str×V)},(fs.map (·.1)).Nodup->((fs.map (·.1)).map λn=>fs.lookup n)=(fs.map (·.2)).map some
 | [],_=>rfl
 | (n,v)::r,h=>by
  rw[map_cons,nodup_cons] at h;rw[map_cons,map_cons,map_cons,map_cons,<- zJM h.2];congr 1
  .show (match n==n with | true=>some v | false=>r.lookup n)=_;rw[beq_self_eq_true]
  .refine map_congr_left λm hm=>?_
   rw[lookup_cons];have:(m==n)=false:=beq_eq_false_iff_ne.mpr λz=>h.1 (z▸hm)
   rw[this]
def zES {f C:Addr}{a c y:Str}{st:Stmt}{dV kV M pm t ct oc:Value}{an od:Option Addr}{b2:Array (Option Value)}{ys:List Str}{L:List (Str×ME)}(lk:K.lookup f=some ⟨oc,od,.func (W.fnOf "__init__" a (zAZ st) (zAE st) (zAA st) dV kV M pm an t ct),b2⟩)
  (a8:W.codeIn K t a=true) (S:zAV (y::ys) (y::ys) (zAA st)) (vy:visB (zAA st) y=true) (oy:okN y=true) (ck:zF4 (zAA st) (y::ys) bs y L (zAE st)=true) (g:GOk P w K mg base k J bs) (d:DmOk P w K mg base k U)
  (cn:zBT K c C) (cl:Cls K C) (na:∀ n∈L.map (·.1),zBQ K C n) (nd:(L.map (·.1)).Nodup) (hp:zO0 (L.map (·.1))=true) (F:zLY (L.map (·.1))=true\/mutK (L.map (·.1))=true) (hl:(L.map (·.1)).length<=100) :
  FnOk P w K mg base CX0 (k+1) f (W.fnOf "__init__" a (zAZ st) (zAE st) (zAA st) dV kV M pm an t ct) (y::ys) (spI K C (zEr c ys.length (L.map λp=>(p.1,evM J U p.2)))):=by
 have j:(L.map λp=>(p.1,evM J U p.2)).map (·.1)=L.map (·.1):=by rw[map_map];rfl
 refine zS5 lk a8 S (λvs H Q E h=>?_) λA D s H vs Q E hr h=>?_
 .obtain ⟨x,dx,H1,us,O,B,X,r,rfl,_,_,_,_,_,T,u,_⟩:=h;unfold zEr at u;by_cases q:X.length=ys.length
  .rw [xX,<- T.length,q];rfl
  .rw [if_neg q] at u;cases u
 obtain⟨x,dx,H1,us,O,B,X,r,rfl,n1,n2,n3,rfl,cc,T,u,l⟩:=h;unfold zEr at u;have q:X.length=ys.length:=Classical.byContradiction λz=>by rw[if_neg z] at u;cases u
 rw[if_pos q] at u;obtain⟨z,ez,e3⟩:=x9.mp u;subst e3;have o:XOkM (cxOf CX0 P w K mg base (y::ys) a (zAA st) f t A D s (upd (upd H1 dx (.own x)) x (.ins C dx [])) E).nox k J U bs:=⟨⟨g,hr,rfl,S.nd,PassesOwn.never⟩,d⟩;have st0:L2.zBy (y::ys) (.ref x::us)=some (.ref x)::us.map some:=by
  unfold L2.zBy;have:(y::ys).length - (V.ref x::us).length=0:=by rw[xX,xX,<- T.length,q];omega
  rw[this];simp
 refine⟨_,PSs.nox (zMp (σ0:=L2.zBy (y::ys) (.ref x::us)) (G:=none::X.map some) (α0:=O) (H1:=H1) (x:=x) (dx:=dx) cl na nd hp hl n1 rfl (zD8 vy) oy (by rw[st0];rfl) (by rw[st0,xX,xX,qy,qy,T.length]) (λi w e=>?_) (zIa o ck)),?_⟩
 .cases i with
  | zero=>cases e
  | succ i =>
   have e':(X.map some)[i]?=some (some w):=e;rw[getElem?_map] at e';obtain⟨w',e1,e2⟩:=x9.mp e';cases e2;obtain⟨v,q1,q2⟩:=T.get e1;refine⟨v,?_,q2⟩;rw[st0];show (us.map some)[i]?=_;rw[getElem?_map,q1];rfl
 .have sm:Same H1 (upd (upd H1 dx (.own x)) x (.ins C dx [])):=(zAX n2 _).trans (zAX (by rw[zAQ (Ne.symm n3)];exact n1) _);refine⟨[],B,[],[],[],z,rfl,zAW,by rw[append_nil];exact cc.outN n1,zAx sm,by rw[append_nil];exact cc.same sm,j,rfl,.nil,ez,λM' Z b R a0 a1 Y a3 N a5 a6=>?_⟩;rw[j] at l;by_cases mu:mutK (L.map (·.1))=true
  .have er:mkR c (L.map (·.1)) z=(.ob c (L.map (·.1)) z.2.length,z.2++[z.1]):=if_pos mu;rw[er] at l;have ev:R=b.map (·.2):=by
    rw[<- N,zJM (by rw[N];exact nd)] at a5;exact(List.map_inj_right (λ_ _ z=>xy z)).mp a5.symm
   rw[ev] at a6;have em:mutF b=true:=by unfold mutF;rw[N];exact mu
   have a7:DenWL K Z (O++M'++[(x,.ins c (L.map (·.1)))]) z.1 (b.map (·.2)):=a6.mono (Kp.refl Z) _;refine l Z (M'++[(x,.ins c (L.map (·.1)))]) a1 ?_ ?_
   .rw [<- qJ];exact Y.more a0 ⟨C,dx,b,a3,em,cn,N,a7⟩
   .rw [DenW,<- qJ];exact⟨x,by rw[getElem?_append_right (by rw[Y.len];omega),Y.len,sub_self];rfl,rfl⟩
  .have er:mkR c (L.map (·.1)) z=(.obj c (L.map (·.1)) z.1,z.2):=if_neg mu;rw[er] at l;have F:=F.resolve_right mu;have hd:zEc b=true:=by unfold zEc;rw[N];exact F
   refine l Z M' a1 Y ?_;rw[DenW];exact⟨x,R,rfl,⟨C,dx,b,zIE a3 (zIP hd),hd,cn,a5⟩,a6⟩
def zDL (a:fd.defaults=.ref T)(d:K.lookup T=some ⟨oc,od,.seq #[.none] n,sl⟩)(c:K.In s.heap)
  (b:bindArgs fd args=seqItems? fd.defaults>>=kk) (e:kk (some #[.none])=pure binds):BindsTo s fd args binds:=.of_defaults a (c _ _ d) rfl b e
def DmOk.addC (d:DmOk P w K mg base k U)(a:j < k)(e:spec.lookup x=some (.mk c kw))(m:mg c=some (.ref C))(M:Mk K C f)(b:FnOk P w K mg base CX0 j f fd ps (spI K C F))(b1:zBH K fd ps [])(b2:kw ≠ ""->zBH K fd ps [.none]/\KB K fd ps kw) :
  DmOk P w K mg base k (U.add x F):=d.one (le_refl k) (by rw[e];exact⟨j,C,f,fd,ps,a,m,M,b,b1,b2⟩)
end
theorem zEf :∀ (names:List (Str×NameKind)) (acc:List (Str×Addr)),(∀ p∈names,p.2=.free->∃ c,cs.lookup p.1=some c) ->
  ∃ cl,clos names cs acc=some cl/\cl.map (·.1)=((names.filter λp=>p.2==.free).map (·.1)).reverse++acc.map (·.1)/\∀ p∈cl,p∈acc\/cs.lookup p.1=some p.2
 | [],acc,_=>⟨acc,rfl,by simp,λp hp=>.inl hp⟩
 | (x,k)::names,acc,h=>by
  unfold clos;by_cases e:(k==NameKind.free)=true
  .obtain ⟨c,ec⟩:=h (x,k) q0 (eq_of_beq e);obtain⟨cl,h1,h2,h3⟩:=zEf names ((x,c)::acc) λp hp=>h p (qY _ hp)
   dsimp only at ec;rw[if_pos e,ec];refine⟨cl,h1,?_,λp hp=>?_⟩
   .rw [h2,filter_cons];simp[e]
   .rcases h3 p hp with z | z
    .rcases mem_cons.mp z with z | z
     .right;rw[z];exact ec
     .exact .inl z
    .exact .inr z
  .obtain ⟨cl,h1,h2,h3⟩:=zEf names acc λp hp=>h p (qY _ hp)
   rw[if_neg e];refine⟨cl,h1,?_,h3⟩;rw[h2,filter_cons];simp[e]
def zGG {cs:List (Str×Addr)}(inj:∀ x y c,cs.lookup x=some c->cs.lookup y=some c->x=y):∀ {cl:List (Str×Addr)},(∀ p∈cl,cs.lookup p.1=some p.2)->(cl.map (·.1)).Nodup->(cl.map (·.2)).Nodup
 | [],_,_=>by simp
 | p::cl,h,nd=>by
  rw[map_cons,nodup_cons] at nd ⊢;refine⟨λz=>?_,zGG inj (λq hq=>h q (qY _ hq)) nd.2⟩;obtain⟨q,hq,e⟩:=mem_map.mp z;have h1:=h p q0;have h2:=h q (qY _ hq);rw[e] at h2;exact nd.1 (mem_map.mpr ⟨q,hq,inj _ _ _ h2 h1⟩)
noncomputable def capD:List Nat->List (Option W)->Option (List D)
 | [],_=>some []
 | i::ix,G=>(match G[i]? with
  | some (some (.dat d))=>some d
  | some (some (.obj c ns l))=>some (dobj c ns l)
  | _=>none).bind λd=>(capD ix G).bind λds=>some (d::ds)
noncomputable def lamE (Fg:MF)(j:Nat)(L:LamI)(ix:List Nat)(ge:Mst->Option MR):Mst->Option MR:=λs=>(ge s).bind λw=>(capD ix s.G).bind λds=>if noLs ds=true then Fg [w.1,.dat (.lam j L ds)] w.2 else none
noncomputable def lamM (Fg:MF)(j:Nat)(L:LamI)(ix:List Nat)(np nN:Nat)(gp:Mst->Option OutM)(ge:Mst->Option MR):MF:=zAj np nN λs=>(gp s).bind λo=>match o with
 | .nx s'=>retM (lamE Fg j L ix ge) s'
 | _=>none
theorem zOf {K:W.Frag}{σ:St}(ms:MS K H O B σ G):∀ {ix:List Nat} {ds:List D},capD ix G=some ds->∃ us,DenL K (fzH H) ds us/\us.length=ix.length/\∀ (k i:Nat),ix[k]?=some i->∃ v,us[k]?=some v/\σ[i]?=some (some v)
 | [],ds,e=>by
  cases e;exact⟨[],.nil,rfl,λk i z=>by simp at z⟩
 | i::ix,ds,e=>by
  unfold capD at e;obtain⟨d,e0,e⟩:=bind_some e;obtain⟨ds',e1,e⟩:=bind_some e;cases e;obtain⟨us,h1,h2,h3⟩:=zOf ms e1;have hv:∃ v,σ[i]?=some (some v)/\Den K (fzH H) d v:=by
   split at e0
   .rename_i d' q;cases e0;obtain⟨v,g1,g2⟩:=ms.get i _ q;rw[DenW] at g2;exact⟨v,g1,g2⟩
   .rename_i c ns l q;cases e0;obtain⟨v,g1,g2⟩:=ms.get i _ q;exact⟨v,g1,zIR g2⟩
   .cases e0
  obtain⟨v,g1,g2⟩:=hv;refine⟨v::us,.cons g2 h1,by rw[xX,xX,h2],λk i' z=>?_⟩;cases k with
  | zero =>
   have:i=i':=by simpa using z
   subst this;exact⟨v,rfl,g1⟩
  | succ k=>exact h3 k i' (by simpa using z)
theorem zGO {O M:Type}{R:O->M->Prop}:∀ {l:List O} {m:List M},l.length=m.length->(∀ (k:Nat) a b,l[k]?=some a->m[k]?=some b->R a b)->Paired R l m
 | [],[],_,_=>.nil
 | [],_::_,e,_=>by simp at e
 | _::_,[],e,_=>by simp at e
 | a::l,b::m,e,h=>.cons (h 0 a b (by simp) (by simp)) (zGO (by simpa using e) λk a' b' q1 q2=>h (k+1) a' b' (by simpa using q1) (by simpa using q2))
noncomputable def zFg (H:Hp)(h:Heap)(S:List Addr):Hp:=λb=>if b∈S then (h.get? b).map (λo=>.frz o anyU) else H b
section
variable {X:Cx}{pins:List (Addr×Obj)}{σ:St}{H:Hp}{s:Shared}
def zNO (I:Inv X pins σ H s){S:List Addr}(g:∀ b∈S,∃ y,X.env.cells.lookup y=some b)(i:∀ y,X.fn y=true) :
  Same H (zFg H s.heap S)/\(∀ b∈S,∃ o v,zFg H s.heap S b=some (.frz o anyU)/\s.heap.get? b=some o/\o.data=.cell v)/\(∀ b,b∉S->zFg H s.heap S b=H b)/\(∀ b∈S,X.s0.heap.objs.size<=b)/\Env0 X.prog X.w X.K X.mg X.base X.A X.stack s (zFg H s.heap S):=by
 have out:∀ {b:Addr},b∉S->zFg H s.heap S b=H b:=λz=>if_neg z
 have free:=λ{b} z=>let ⟨y,e⟩:=g b z;I.freeC y b e
 have l:∀ {b:Addr} {u:HO},H b=some u->b∉S:=λ{b u} e z=>by rw[free z] at e;cases e
 have f:Same H (zFg H s.heap S):=λb u e=>by rw[out (l e)];exact e
 have d:∀ b∈S,∃ o v,zFg H s.heap S b=some (.frz o anyU)/\s.heap.get? b=some o/\o.data=.cell v:=λb z=>by
  obtain⟨y,e⟩:=g b z;obtain⟨v,o,h,n⟩:=I.cell y b e;refine⟨o,v,?_,h,n⟩;unfold zFg
  simp_all
 have big:=λb z=>let ⟨y,e⟩:=g b z;I.ok.cab y b (i y) e
 have a:=I.env0;refine⟨f,d,λb z=>out z,big,⟨a.frames,a.mod,λb o e=>⟨(a.bs b o e).1,?_⟩,a.bsz,a.funs,λb z=>?_,λb u e=>?_,a.bare,a.tree,λx m c P e=>f _ _ (a.tabs x m c P e)⟩⟩
 .have j:b∉S:=λz=>absurd (lt_size e) (Nat.not_lt.mpr (le_trans I.ok.bsz (big b z)))
  rw[out j];exact(a.bs b o e).2
 .have j:b∉S:=λz2=>by
   rcases mem_cons.mp (I.stkSub b z) with q | q
   .obtain ⟨y,e⟩:=g b z2;exact I.cne y b e q
   .obtain ⟨_,o,h,_⟩:=I.ok.funs.mem q;exact absurd (lt_size h) (Nat.not_lt.mpr (big b z2))
  rw[out j];exact a.frf b z
 .by_cases z:b∈S
  .obtain ⟨o,v,r,k,_⟩:=d b z;rw[r] at e;cases e;exact zEW k
  .rw [out z] at e;exact(I.hok b u e).stay (λ_ _ _ q=>q) (λ_ q=>f _ _ q) (λ_ _ q=>f _ _ q) λ_ _ _ q _=>f _ _ q
end
def zOk {S:List Addr}(c:Un fs [] H H1 h h1)(big:∀ b∈S,h.objs.size<=b)(t:h.objs.size<=L)(k:Same H1 H2)(out:∀ b,b∉S->H2 b=H1 b)(d:Un (L::fs) [] H2 H' h1 h'):Un fs [] H H' h h':=by
 have r:∀ {b:Addr} {o:Obj},h.get? b=some o->b∉S:=λ{b o} e z=>absurd (lt_size e) (Nat.not_lt.mpr (big b z))
 have s:∀ {b:Addr} {o:Obj},h.get? b=some o->b≠L:=λ{b o} e z=>absurd (lt_size e) (Nat.not_lt.mpr (by simp_all))
 have l:∀ {b:Addr} {o:Obj},h.get? b=some o->H b=none->H2 b=none:=λ{b o} e n=>by rw[out b (r e)];exact c.free b o e n (by simp)
 refine⟨λb o e n f a=>d.keep b o (c.keep b o e n f a) (l e n) (λz=>(mem_cons.mp z).elim (s e) f) a,λb o e n f a=>?_,λb o e n a=>?_,λb o e a=>?_,λb m e=>d.tups b m (k _ _ (c.tups b m e)),λb o u e=>d.frzs b o u (k _ _ (c.frzs b o u e)),λb q e=>d.tbls b q (k _ _ (c.tbls b q e))⟩
 .obtain ⟨sl,g⟩:=c.slot b o e n f a;obtain⟨j,p⟩:=d.slot b _ g (l e n) (qY _ f) a;exact⟨j,p⟩
 .obtain ⟨i,g⟩:=c.there b o e a;exact d.free b i g (l e n) a
 .obtain ⟨i,g⟩:=c.there b o e a;exact d.there b i g a
structure zDs (K:W.Frag)(x:Str)(st:Stmt)(f:Addr)(N:List Str)(pre:List Stmt)(e:Expr)(g:Str)(L:LamI)(ix:List Nat):Prop where
 body:∃ q1 lp cp rp,zAE st=pre++[.Return (some (.Call (.Name g q1) [e,.Lambda L.params L.body L.scope lp] [] cp)) rp]
 star:zAa e=true
 qual:L.qual=x ++ ".<locals>." ++ "<lambda>"
 lam:x∈zBs
 fnq:zEZ K x=some f
 tab:∃ c P,tabQ K x=some (c,P)
 gl:glB (zAA st) g=true
 okg:okN g=true
 dflt:∀ env,defaultsOf L.params env=([],[])
 nd:(frN L).Nodup
 len:ix.length=(frN L).length
 cap:∀ (k:Nat) y,(frN L)[k]?=some y->∃ i,ix[k]?=some i/\N[i]?=some y/\(zAA st).names.lookup y=some .cell
 free:∀ p∈L.scope.names,p.2=.free->p.1∈frN L
def PS.nox {st:Stmt}(h:PS X.nox st t):PS X st t:=λpins s σ H D I b =>
 wpAny_mono (h pins s σ H D (I.wish _) b) (λ_ _ q=>q.unwish) λ_ _ z=>False.elim z
def zPb {K:W.Frag}{st:Stmt}(F:Fun K nm x st f fd)(sc:zAV N ps (zAA st))(C:zDs K x st f N pre e g L ix)
  (b7:(pre=[]/\gp=λs=>some (.nx s))\/∃ s1,pre=[s1]/\∀ cdv A outer s H E,Room k (A.deeper (envOfC x (zAA st) s.heap.objs.size f cdv))->GSM (cxOf CX0 P w K mg base N x (zAA st) f cdv A outer s H E).nox s1 gp)
  (he:∀ cdv A outer s H E,Room k (A.deeper (envOfC x (zAA st) s.heap.objs.size f cdv))->GM (cxOf CX0 P w K mg base N x (zAA st) f cdv A outer s H E).nox e ge)
  (gg:FnOk P w K mg base CX0 k fg fdg psg (spM K Fg)) (f7:mg g=some (.ref fg)) (kg:W.keepIn K (.ref fg)=true) (bg:zBH K fdg psg []):FnOk P w K mg base CX0 (k+1) f fd ps (spM K (lamM Fg j L ix ps.length N.length gp ge)):=by
 obtain⟨oc,od,kV,m0,pm,an,cdv,ct,n8,rfl,lk,g7⟩:=F.ex;have a3:∀ vs H Q E,spM K (lamM Fg j L ix ps.length N.length gp ge) vs H Q E->vs.length=ps.length:=λvs H Q E h=>by
  obtain⟨O,B,ws,r,c,d,R,n⟩:=h;unfold lamM zAj at R;by_cases q:ws.length=ps.length/\ps.length<=N.length
  .rw [<- d.length];exact q.1
  .rw [if_neg q] at R;cases R
 refine⟨a3,λA outer s H i6 us vs Q E hr e0 hb r d8=>?_⟩;have hl:=a3 _ _ _ _ d8;have KX:K.In s.heap:=e0.mod.kin.keeps λb o e=>(e0.bs b o e).1
 have f9:s.heap.NoLimit:=e0.mod.nolimit.keeps λb o e=>(e0.bs b o e).1
 have b0:∀ y∈ps.zip us,(zAA st).names.lookup y.1=some .local\/((zAA st).names.lookup y.1=some .cell/\((cellsFrom (s.heap.objs.size+1) (zAA st).names []).lookup y.1).isSome=true):=λzz112 hy=>by
  obtain⟨n,v⟩:=zz112;rcases sc.par n (of_mem_zip hy).1 with q | q
  .exact .inl q
  .exact .inr ⟨q,W.cellsFrom_some _ _ _ (.inl q)⟩
 refine codeAny_call_function hr.depth (KX _ _ lk) rfl sc.co sc.gen rfl (W.codeRec_of KX g7) (hb _ _ _ _ ?_);refine wpAny_newFunctionEnv_cells sc.kind b0 λenv h9 s1 xx=>?_
 subst h9;refine⟨f9.keeps xx.toInCall.keep,codeAny_func ?_⟩;have I:Inv (cxOf CX0 P w K mg base N x (zAA st) f cdv A outer s H E) [] (zBy N vs) H s1:=zGY sc hr.hd (by have:=hr.dp;show A.depth+1+100 < _;omega) e0 hl r xx;have b1:Room k (cxOf CX0 P w K mg base N x (zAA st) f cdv A outer s H E).A:=hr.deeper _;obtain⟨q1,lp,cp,rp,eb⟩:=C.body;obtain⟨O,B,ws,rr,cc,dw,R,g4⟩:=d8;unfold lamM zAj at R;have hq:ws.length=ps.length/\ps.length<=N.length:=Classical.byContradiction λz=>by rw[if_neg z] at R;cases R
 rw[if_pos hq] at R;obtain⟨o,eo,R⟩:=bind_some R;obtain⟨o1,d7,S⟩:=bind_some (show ((gp _).bind _)=some o from eo);have d6:MS K H O B (zBy N vs) (ws.map some++List.replicate (N.length - ps.length) none):=by
  have:=zH8 (N:=N) cc dw (by rw[hq.1];exact hq.2);rwa [hq.1] at this
 obtain⟨c0,P0,T⟩:=C.tab;have a7:cdv=.ref c0:=zJX T C.fnq lk;have f2:∀ (a:Mst) (s1:Shared) (O7:St) (l:Hp) (M1:List CA),Inv (cxOf CX0 P w K mg base N x (zAA st) f cdv A outer s H E) [] O7 l s1->MS K l (O++M1) a.B O7 a.G->Kp H l->lamE Fg j L ix ge a=some rr ->
   wpAny (model P w) (cxOf CX0 P w K mg base N x (zAA st) f cdv A outer s H E).A (eval (.Call (.Name g q1) [e,.Lambda L.params L.body L.scope lp] [] cp) (cxOf CX0 P w K mg base N x (zAA st) f cdv A outer s H E).env) (λu s'=>CE outer P w H s Q u s') (cxOf CX0 P w K mg base N x (zAA st) f cdv A outer s H E).xe s1:=by
  intro a s1 O7 l M1 I ms a6 J;obtain⟨wv,ew,J⟩:=bind_some J;obtain⟨ds,c4,J⟩:=bind_some J;have e3:noLs ds=true:=Classical.byContradiction λz=>by rw[if_neg z] at J;cases J
  rw[if_pos e3] at J;obtain⟨a1,d0,e4,d4⟩:=zOf ms c4;refine wpAny_Call_Name_kw (zEO I (zEV C.gl) f7 ?_ (zB1 C.okg).1);refine W.callWith_K (h₀:=base) I.ok.mod.kin kg ?_ (zAC C.star) rfl;rw[zAC C.star];show wpAny _ _ (spliced ((false,eval e _)::backTo cp (starEach [.Lambda L.params L.body L.scope lp] _))) _ _ s1;refine Calls.spliced_cons (thn (PE.nox (he cdv A outer s H E b1) [] s1 O7 l (λy H2=>∃ Y,Kp l H2/\zAD K H2 (O++M1++Y) wv.2/\DenW K H2 (O++M1++Y) wv.1 y) I ⟨O++M1,a.G,a.B,wv,ms,ew,λv H2 Y k2 c2 d2=>⟨Y,k2,c2,d2⟩⟩) λu0 s2 a5=>?_);obtain⟨y,H2,I1,r1,Y,c1,c2,dy⟩:=a5;have kc:∀ {y:Str},y∈frN L->(zAA st).names.lookup y=some .cell:=λ{y} my=>by
   obtain⟨kk,hk,e⟩:=List.getElem_of_mem my;obtain⟨_,_,_,q⟩:=C.cap kk y (by rw[getElem?_eq_getElem hk,e]);exact q
  obtain⟨cl,i2,g3,i0⟩:=zEf (cs:=(cxOf CX0 P w K mg base N x (zAA st) f cdv A outer s H E).env.cells) L.scope.names [] λp hp hf=>I1.ok.has p.1 (.inl (kc (C.free p hp hf)))
  have D:cl.map (·.1)=frN L:=by rw[g3];unfold frN;simp
  have U:∀ p∈cl,(cxOf CX0 P w K mg base N x (zAA st) f cdv A outer s H E).env.cells.lookup p.1=some p.2:=λp hp=>(i0 p hp).elim (λz=>absurd z (by simp)) id
  have c6:(cl.map (·.2)).Nodup:=zGG I1.ok.inj U (by rw[D];exact C.nd);show wpAny _ _ (spliced ((false,eval (.Lambda L.params L.body L.scope lp) _)::backTo cp (starEach [] _))) _ _ s2;refine Calls.spliced_cons (zMl I1 (C.dflt _) i2 a7 (e0.mod.codes x C.lam c0 P0 T) (I1.tabs x C.lam c0 P0 T) λf' c' g6 f5 h5 u1 H3 s3 sm nf hf h4 co I2=>?_);refine Calls.spliced_nil ⟨I2.kIn,?_⟩;have hS:∀ b∈cl.map (·.2),∃ y,(cxOf CX0 P w K mg base N x (zAA st) f cdv A outer s H E).env.cells.lookup y=some b:=λb z=>by
   obtain⟨p,hp,rfl⟩:=mem_map.mp z;exact⟨p.1,U p hp⟩
  obtain⟨V,b8,out,big,e2⟩:=zNO I2 hS λ_=>rfl
  obtain⟨X,h2⟩:∃ X:Hp,X=zFg H3 s3.heap (cl.map (·.2)):=⟨_,rfl⟩;rw[<- h2] at V b8 out e2;have Z:Same H2 X:=sm.trans V;have a9:zBU X cl a1:=by
   have lc:cl.length=a1.length:=by
    have:=congrArg List.length D;rw[qy] at this;rw[e4,C.len,this]
   refine zGO lc λkk p v' g1 g2=>?_
   have gy:(frN L)[kk]?=some p.1:=by rw[<- D,getElem?_map,g1];rfl
   obtain⟨i,ei,f3,b9⟩:=C.cap kk p.1 gy;obtain⟨v2,gv,h8⟩:=d4 kk i ei;rw[g2] at gv;cases gv;obtain⟨mm,hn,c8⟩:=I2.loc;obtain⟨uu,ru,lo⟩:=c8 i p.1 v' f3 h8 (.inr (.inl b9));obtain⟨o,o3,k1,k2,k3⟩:=b8 p.2 (mem_map.mpr ⟨p,mem_of_getElem? g1,rfl⟩);rcases lo with ⟨q,_⟩ | ⟨_,c2,e1,o2,ho2,hd2⟩
   .have q':(zAA st).names.lookup p.1=some .local:=q;rw[b9] at q';cases q'
   .rw [U p (mem_of_getElem? g1)] at e1;cases e1;rw[k2] at ho2;cases ho2;exact⟨o,uu,k1,hd2,ru⟩
  have la:zDv X L f' a1:=⟨cl,f5,c',g6,h5,u1,by rw[C.qual];exact V _ _ hf,V _ _ h4,by rw[C.qual];exact co,D,c6,a9⟩;have dl:DenW K X (O++M1++Y) (.dat (.lam j L ds)) (.ref f'):=by
   rw[DenW];refine Den.fz (by rw[noL];exact e3) ?_;rw[Den];exact⟨f',a1,rfl,la,d0.mono (Same.trans c1 (zBP.trans Z))⟩
  have d1:Vals [y,.ref f'] [u0,.ref f']:=.cons r1 (.cons rfl .nil);have i1:DenWL K X (O++M1++Y) [wv.1,.dat (.lam j L ds)] [y,.ref f']:=.cons (dy.keep (zAx Z)) (.cons dl .nil);have d9:spM K Fg [y,.ref f'] X Q E:=⟨O++M1++Y,wv.2,_,rr,c2.same Z,i1,J,λv H' M k3 c3 d3=>g4 v H' (M1++(Y++M)) (Same.trans a6 (Same.trans c1 (Same.trans (zAx Z) k3))) (by rw[<- qJ,<- qJ];exact c3) (by rw[<- qJ,<- qJ];exact d3)⟩;have f6:([u0,.ref f']:List Value).length=psg.length:=by rw[<- d1.length];exact gg.len _ _ _ _ d9
  have bt:=bg s3 [u0,.ref f'] I2.kIn (by simpa using f6);refine wpAny_call (codeAny_mono (gg.run _ _ s3 X _ _ _ Q E b1 e2 bt (by simpa using d1) d9) λr' s' hq=>?_);cases r' with
  | error e=>exact hq.elim
  | ok fl =>
   cases fl with
   | ret u =>
    obtain⟨v,H',os,c7,un,c9,rv,q⟩:=hq;exact⟨v,H',os.trans I2.os,c7,zOk I2.base big (le_refl _) V out un,c9,rv,q⟩
   | next=>exact False.elim hq
   | brk=>exact False.elim hq
   | cont=>exact False.elim hq
 have a2:∀ (a:Mst) (s1:Shared) (O7:St) (l:Hp) (M1:List CA),Inv (cxOf CX0 P w K mg base N x (zAA st) f cdv A outer s H E) [] O7 l s1->MS K l (O++M1) a.B O7 a.G->Kp H l->retM (lamE Fg j L ix ge) a=some o ->
   wpAny (model P w) (cxOf CX0 P w K mg base N x (zAA st) f cdv A outer s H E).A (execs [.Return (some (.Call (.Name g q1) [e,.Lambda L.params L.body L.scope lp] [] cp)) rp] (cxOf CX0 P w K mg base N x (zAA st) f cdv A outer s H E).env) (λfl s'=>∃ u,fl=.ret u/\CE outer P w H s Q u s') (cxOf CX0 P w K mg base N x (zAA st) f cdv A outer s H E).xe s1:=by
  intro a s1 O7 l M1 I ms a6 J;obtain⟨r1,er,J⟩:=bind_some J;cases J;cases R;refine wpAny_execs_cons (wpAny_Return_some (thn (f2 a s1 O7 l M1 I ms a6 er) λu s' h=>?_));exact⟨u,rfl,h⟩
 have h7:wpAny (model P w) (cxOf CX0 P w K mg base N x (zAA st) f cdv A outer s H E).A (execs (zAE st) (cxOf CX0 P w K mg base N x (zAA st) f cdv A outer s H E).env) (λfl s'=>∃ u,fl=.ret u/\CE outer P w H s Q u s') (cxOf CX0 P w K mg base N x (zAA st) f cdv A outer s H E).xe s1:=by
  rw[eb];rcases b7 with ⟨rfl,rfl⟩ | ⟨st1,rfl,hs1⟩
  .cases d7;exact a2 _ s1 _ H [] I (by rw[append_nil];exact d6) (Kp.refl H) S
  .show wpAny _ _ (execs (st1::[_]) _) _ _ s1;have h6:=PS.nox (hs1 cdv A outer s H E b1 H O) [] s1 (zBy N vs) H { nx:=λO7 l=>∃ a M1,MS K l (O++M1) a.B O7 a.G/\Kp H l/\retM (lamE Fg j L ix ge) a=some o,rt:=λ_ _=>False } I ⟨[],⟨_,B⟩,o1,by rw[append_nil];exact d6,Kp.refl H,d7,by
    cases o1 with
    | nx a=>exact λM1 O7 l m k=>⟨a,M1,m,k,S⟩
    | rt r1=>cases S
    | bk _=>cases S
    | ct _=>cases S⟩
   refine wpAny_execs_cons (thn h6 λfl s2 q=>?_);cases fl with
   | next =>
    obtain⟨O7,l,I1,a,M1,m,k,e⟩:=q;exact a2 a s2 O7 l M1 I1 m k e
   | brk=>obtain⟨_,_,_,q⟩:=q;exact q.elim
   | cont=>obtain⟨_,_,_,q⟩:=q;exact q.elim
   | ret u=>obtain⟨_,_,_,_,_,q⟩:=q;exact q.elim
 refine wpAny_mono h7 (λfl s' a8=>?_) λe s' hs=>hs
 obtain⟨u,e,h⟩:=a8;subst e;exact h
noncomputable def zUN (x:Str)(s:Stmt):LamI:=match s with
 | .Return (some (.Call _ [_,.Lambda a b c _] _ _)) _=>⟨x ++ ".<locals>." ++ "<lambda>",a,b,c⟩
 | s=>⟨x,zAZ s,.Name x ⟨0,0,0,0⟩,zAA s⟩
noncomputable def zMn (x:Str)(st:Stmt):LamI:=zUN x ((zAE st).getLast?.getD (.Pass ⟨0,0,0,0⟩))
noncomputable def zDn (st:Stmt):Expr:=match (zAE st).getLast?.getD (.Pass ⟨0,0,0,0⟩) with
 | .Return (some (.Call _ [e,_] _ _)) _=>e
 | _=>.Name "" ⟨0,0,0,0⟩
noncomputable def lamB (x:Str)(ys:List Str)(L:LamI):Bool:=(L.scope.kind==.function)&&!L.scope.isCoroutine&&!L.scope.isGenerator&&decide (x::ys).Nodup&&(L.scope.names.lookup x==some .local)&&ys.all (λy=>L.scope.names.lookup y==some .free)&&L.scope.names.all (λp=>!(p.2==.free)||ys.contains p.1)&&L.scope.names.all (λp=>!(p.2==.cell))&&decide (frN L=ys)
def zD3 (h:lamB x ys L=true)(a:∀ cl pm c ctv u,bindArgs (W.kla_fn "<lambda>" L.qual L.params L.body L.scope cl pm c ctv) ⟨[u],[]⟩=pure [(x,u)]):zGA x ys L/\frN L=ys:=by
 unfold lamB at h;simp only[x8,Bool.not_eq_true',qj,all_eq_true,Bool.or_eq_true,beq_iff_eq,List.contains_iff_mem,beq_eq_false_iff_ne] at h;obtain⟨⟨⟨⟨⟨⟨⟨⟨h1,h2⟩,h3⟩,h4⟩,h5⟩,h6⟩,h7⟩,h8⟩,h9⟩:=h;refine⟨⟨h1,h2,h3,h4,h5,h6,λy e=>?_,h8,a⟩,h9⟩;rcases h7 _ (PySem.mem_of_lookup e) with z | z
 .simp_all
 .omega
def zD6 (L:LamI):∀ p∈L.scope.names,p.2=.free->p.1∈frN L:=λp a b=>by
 unfold frN;rw[List.mem_reverse];exact mem_map.mpr ⟨p,mem_filter.mpr ⟨a,by rw[b];rfl⟩,rfl⟩
noncomputable def capB (sc:Scope)(ps ys:List Str)(ix:List Nat):Bool:=decide (ix.length=ys.length)&&(List.range ys.length).all λk=>match ys[k]?,ix[k]? with
 | some y,some i=>decide (ps[i]?=some y)&&(sc.names.lookup y==some .cell)
 | _,_=>false
def zIY (h:capB sc ps ys ix=true):ix.length=ys.length/\∀ (k:Nat) y,ys[k]?=some y->∃ i,ix[k]?=some i/\ps[i]?=some y/\sc.names.lookup y=some .cell:=by
 unfold capB at h;rw[x8,qj,all_eq_true] at h;refine⟨h.1,λk y e=>?_⟩;have a:=(zzg e).1;have z:=h.2 k (mem_range.mpr a);have c:k < ix.length:=by rw[h.1];exact a
 have b:=getElem?_eq_getElem c;rw[e,b] at z;rw[x8,qj,beq_iff_eq] at z;exact⟨_,b,z.1,z.2⟩
noncomputable def cPre (sc:Scope)(N bs:List Str):MT->List Stmt->Bool
 | .nil,[]=>true
 | .cons a .nil,[s]=>cS' sc N bs a s
 | _,_=>false
def zGe (J:Gm)(U:Dm):MT->Mst->Option OutM
 | .cons a _=>evS' J U a
 | _=>λs=>some (.nx s)
section
variable {P:Program}{w:World}{K:W.Frag}{mg:Str->Option Value}{base:Heap}{k:Nat}{J:Gm}{U:Dm}{bs:List Str}
def zOH {st:Stmt}(d:DmOk P w K mg base k U)(m:GOk P w K mg base k J bs)(F:Fun K nm x st f fd)(sc:zAV N ps (zAA st))(r:zDs K x st f N pre e g L ix)
  (h:cPre (zAA st) N bs mp pre=true) (p:cM me (zAA st) N bs e=true) (mem:(g,Fg)∈U) (q:spec.lookup g=none):FnOk P w K mg base CX0 (k+1) f fd ps (spM K (lamM Fg j L ix ps.length N.length (zGe J U mp) (evM J U me))):=by
 have D:=d g Fg mem;rw[q] at D;obtain⟨y,l,t,v,n,u,i⟩:=D;have o:∀ cdv A a s H E,Room k _->XOkM (cxOf CX0 P w K mg base N x (zAA st) f cdv A a s H E).nox k J U bs:=λcdv A a s H E c=>⟨⟨m,c,rfl,sc.nd,PassesOwn.never⟩,d⟩
 refine zPb F sc r ?_ (λcdv A a s H E c=>(zBb (o cdv A a s H E c) me).e _ p) v n u i;unfold cPre at h;split at h
 .exact .inl ⟨rfl,rfl⟩
 .exact .inr ⟨_,rfl,λcdv A a s H E c=>(zJe (o cdv A a s H E c) (λ_=>rfl) _).1 _ h⟩
 .cases h
def DmOk.addF {st:Stmt}(d:DmOk P w K mg base k U)(b:GOk P w K mg base k J bs)(F:Fun K x x st f fd)(sc:zAV N ps (zAA st))(a:zDs K x st f N pre e g L ix)
  (i:cPre (zAA st) N bs mp pre=true) (h:cM me (zAA st) N bs e=true) (m:mg x=some (.ref f)) (n:zBH K fd ps []) (mem:(g,Fg)∈U) (l:spec.lookup g=none:=by decide +kernel) (c:spec.lookup x=none:=by decide +kernel) :
  DmOk P w K mg base (k+1) (U.add x (lamM Fg j L ix ps.length N.length (zGe J U mp) (evM J U me))):=d.one (Nat.le_succ k) (by rw[c];exact⟨f,fd,ps,zOH d b F sc a i h mem l,m,F.kp,n⟩)
def DmOk.addFM {st:Stmt}(d:DmOk P w K mg base k U)(p:GOk P w K mg base k J bs)(F:Fun K nm x st f fd)(sc:zAV N ps (zAA st))(r:zDs K x st f N pre e g L ix)
  (a:cPre (zAA st) N bs mp pre=true) (o:cM me (zAA st) N bs e=true) (h:zBH K fd ps []) (mem:(g,Fg)∈U) (b:zBT K c C) (q:Cls K C) (i:Meth K C m f) (l:spec.lookup x=some (.mth c m)) (n:spec.lookup g=none:=by decide +kernel) :
  DmOk P w K mg base (k+1) (U.add x (lamM Fg j L ix ps.length N.length (zGe J U mp) (evM J U me))):=d.one (Nat.le_succ k) (by rw[l];exact⟨C,f,fd,ps,b,q,i,zOH d p F sc r a o mem n,h⟩)
end
def tabs_of {K:W.Frag}{tl:List (Str×Addr×Addr)}(h1:tabQ K "thinned_covers"=tl.lookup ("thinned_covers":Str))(h2:tabQ K "Fill.films"=tl.lookup ("Fill.films":Str))(h3:tabQ K "Join.films"=tl.lookup ("Join.films":Str))(h4:tabQ K "Group.films"=tl.lookup ("Group.films":Str)):∀ x∈zBs,tabQ K x=tl.lookup x:=by
 intro x a;simp only[zBs,mem_cons,not_mem_nil,or_false] at a;rcases a with rfl | rfl | rfl | rfl
 .omega
 .omega
 .omega
 .omega
def zIB (h1:ds.length=n+1)(h2:noFs ds=true)(h:EvP (G (ds.map λd=>some (d,false))) Q):EvP (lamD n G ds) Q:=by
 obtain⟨r,e,q⟩:=h;exact⟨r,by unfold lamD;rw[if_pos ⟨h1,h2⟩];exact e,q⟩
noncomputable def scB (N P:List Str)(sc:Scope):Bool:=(sc.kind==.function)&&!sc.isCoroutine&&!sc.isGenerator&&decide N.Nodup&&decide (N.take P.length=P)&&P.all (λx=>sc.names.lookup x==some .local||sc.names.lookup x==some .cell)&&sc.names.all λy=>!(y.2==.free)
def zHv (h:scB N P sc=true):zAV N P sc:=by
 unfold scB at h;simp only[x8,Bool.not_eq_true',qj,all_eq_true,Bool.or_eq_true,beq_iff_eq,beq_eq_false_iff_ne] at h;obtain⟨⟨⟨⟨⟨⟨h1,h2⟩,h3⟩,h4⟩,h5⟩,h6⟩,h7⟩:=h;exact⟨h1,h2,h3,h4,h5,h6,h7⟩
noncomputable def dB (st:Stmt)(n:Nat)(N bs:List Str)(b:S):Bool:=scB N (N.take n) (zAA st)&&cSs (zAA st) N bs b (zAE st)
noncomputable def dM (st:Stmt)(n:Nat)(N bs:List Str)(b:MT):Bool:=scB N (N.take n) (zAA st)&&cSs' (zAA st) N bs b (zAE st)
structure FT (K:W.Frag)(x:Str)(st:Stmt)(f:Addr):Prop where
 a:W.nsIn K mainGlobals x=some (some (.ref f))
 F:∃ fd,Fun K x x st f fd
def ft {K:W.Frag}{st:Stmt}{kV:Value}(a:W.nsIn K mainGlobals x=some (some (.ref f)))(l:K.lookup f=some ⟨oc,od,.func (W.fnOf x x (zAZ st) (zAE st) (zAA st) .none kV dc pm an cd ct),sl⟩)(c:W.codeIn K cd x=true)(k:W.keepIn K (.ref f)=true):FT K x st f:=⟨a,_,zK4 l c k⟩
def bO (x q:Str)(st:Stmt)(ps:List Str):Prop:=∀ (kV doc pm:Value) (an:Option Addr) (cdv ct:Value) (us:List Value),us.length=ps.length->bindArgs (W.fnOf x q (zAZ st) (zAE st) (zAA st) .none kV doc pm an cdv ct) ⟨us,[]⟩=pure (ps.zip us)
def bz0 {st:Stmt}(b:ps.length=0)(h:∀ {kV doc pm:Value} {an:Option Addr} {cdv ct:Value},bindArgs (W.fnOf x q (zAZ st) (zAE st) (zAA st) .none kV doc pm an cdv ct) ⟨[],[]⟩=pure (ps.zip [])):bO x q st ps:=λ_ _ _ _ _ _ us a=>by cases List.eq_nil_of_length_eq_zero (a.trans b);exact h
def bz1 {st:Stmt}(c:ps.length=1)(h:∀ {kV doc pm:Value} {an:Option Addr} {cdv ct a:Value},bindArgs (W.fnOf x q (zAZ st) (zAE st) (zAA st) .none kV doc pm an cdv ct) ⟨[a],[]⟩=pure (ps.zip [a])):bO x q st ps:=λ_ _ _ _ _ _ us b=>by replace b:=b.trans c;(iterate 1 rcases us with _|⟨_,us⟩;cases b;replace b:=Nat.succ.inj b);cases List.eq_nil_of_length_eq_zero b;exact h
def bz2 {st:Stmt}(d:ps.length=2)(h:∀ {kV doc pm:Value} {an:Option Addr} {cdv ct a b:Value},bindArgs (W.fnOf x q (zAZ st) (zAE st) (zAA st) .none kV doc pm an cdv ct) ⟨[a,b],[]⟩=pure (ps.zip [a,b])):bO x q st ps:=λ_ _ _ _ _ _ us c=>by replace c:=c.trans d;(iterate 2 rcases us with _|⟨_,us⟩;cases c;replace c:=Nat.succ.inj c);cases List.eq_nil_of_length_eq_zero c;exact h
def bz3 {st:Stmt}(e:ps.length=3)(h:∀ {kV doc pm:Value} {an:Option Addr} {cdv ct a b c:Value},bindArgs (W.fnOf x q (zAZ st) (zAE st) (zAA st) .none kV doc pm an cdv ct) ⟨[a,b,c],[]⟩=pure (ps.zip [a,b,c])):bO x q st ps:=λ_ _ _ _ _ _ us d=>by replace d:=d.trans e;(iterate 3 rcases us with _|⟨_,us⟩;cases d;replace d:=Nat.succ.inj d);cases List.eq_nil_of_length_eq_zero d;exact h
def bz4 {st:Stmt}(f:ps.length=4)(h:∀ {kV doc pm:Value} {an:Option Addr} {cdv ct a b c d:Value},bindArgs (W.fnOf x q (zAZ st) (zAE st) (zAA st) .none kV doc pm an cdv ct) ⟨[a,b,c,d],[]⟩=pure (ps.zip [a,b,c,d])):bO x q st ps:=λ_ _ _ _ _ _ us e=>by replace e:=e.trans f;(iterate 4 rcases us with _|⟨_,us⟩;cases e;replace e:=Nat.succ.inj e);cases List.eq_nil_of_length_eq_zero e;exact h
def bz5 {st:Stmt}(f:ps.length=5)(h:∀ {kV doc pm:Value} {an:Option Addr} {cdv ct a b c d e:Value},bindArgs (W.fnOf x q (zAZ st) (zAE st) (zAA st) .none kV doc pm an cdv ct) ⟨[a,b,c,d,e],[]⟩=pure (ps.zip [a,b,c,d,e])):bO x q st ps:=λ_ _ _ _ _ _ us g=>by replace g:=g.trans f;(iterate 5 rcases us with _|⟨_,us⟩;cases g;replace g:=Nat.succ.inj g);cases List.eq_nil_of_length_eq_zero g;exact h
section
variable {P:Program}{w:World}{K:W.Frag}{mg:Str->Option Value}{base h:Heap}{k:Nat}{J:Gm}{U:Dm}{bs:List Str}{x:Str}{st:Stmt}{f:Addr}{N ps:List Str}{n:Nat}
def GOk.addT (g:GOk P w K mg base k J bs)(X:K.In h)(G:h.Ns mainGlobals mg)(t:FT K x st f)(a:dB st n N bs b=true)(c:bO x x st (N.take n)):GOk P w K mg base (k+1) (J.add x (dFun (N.take n).length N.length (evSs J b))) bs :=
 let ⟨_,E⟩:=t.F;g.add E (zHv (Bool.and_eq_true_iff.mp a).1) (Bool.and_eq_true_iff.mp a).2 (W.mg_of X G t.a) (E.binds c)
def DmOk.addT (d:DmOk P w K mg base k U)(g:GOk P w K mg base k J bs)(X:K.In h)(G:h.Ns mainGlobals mg)(t:FT K x st f)(a:dM st n N bs b=true)(e:bO x x st (N.take n))(c:spec.lookup x=none:=by decide +kernel):DmOk P w K mg base (k+1) (U.add x (zAj (N.take n).length N.length (evSs' J U b))) :=
 let ⟨_,E⟩:=t.F;d.add g E (zHv (Bool.and_eq_true_iff.mp a).1) (Bool.and_eq_true_iff.mp a).2 (W.mg_of X G t.a) (E.binds e) c
def GOk.aT (n:Nat)(N:List Str)(g:GOk P w K mg base k J bs)(X:K.In h)(G:h.Ns mainGlobals mg)(t:FT K x st f)(a:dB st n N bs b=true:=by decide +kernel)(c:bO x x st (N.take n):=by walk_at "b"):GOk P w K mg base (k+1) (J.add x (dFun (N.take n).length N.length (evSs J b))) bs:=g.addT X G t a c
def GOk.aU (N:List Str)(g:GOk P w K mg base k J bs)(X:K.In h)(G:h.Ns mainGlobals mg)(t:FT K x st f)(a:bO x x st N:=by walk_at "b"):GOk P w K mg base k (J.add x (λ_=>none)) bs :=
 let ⟨_,E⟩:=t.F;g.addN E (W.mg_of X G t.a) (E.binds a)
def DmOk.aT {b:MT}{j:Nat}(n:Nat)(N:List Str)(d:DmOk P w K mg base k U)(g:GOk P w K mg base j J bs)(X:K.In h)(G:h.Ns mainGlobals mg)(t:FT K x st f)(i:j<=k:=by decide)(e:dM st n N bs b=true:=by decide +kernel)(c:bO x x st (N.take n):=by walk_at "b")(a:spec.lookup x=none:=by decide +kernel):DmOk P w K mg base (k+1) (U.add x (zAj (N.take n).length N.length (evSs' J U b))):=d.addT (g.mono i) X G t e c a
end
section
variable {P:Program}{w:World}{K:W.Frag}{mg:Str->Option Value}{base:Heap}{k:Nat}{J:Gm}{U:Dm}{bs:List Str}{m q c:Str}{st:Stmt}{C f:Addr}{N:List Str}{n:Nat}
structure FQ (K:W.Frag)(C f:Addr)(m q:Str)(st:Stmt):Prop where
 M:Meth K C m f
 F:∃ fd,Fun K m q st f fd
def fq {kV:Value}(a:W.findIn K (.ref C) m=some (some (.ref f)))(i:W.isFn K (.ref f)=true)(l:K.lookup f=some ⟨oc,od,.func (W.fnOf m q (zAZ st) (zAE st) (zAA st) .none kV dc pm an cd ct),sl⟩)(c:W.codeIn K cd q=true)(k:W.keepIn K (.ref f)=true):FQ K C f m q st:=⟨⟨a,i,k⟩,_,zK4 l c k⟩
def DmOk.addQ (d:DmOk P w K mg base k U)(g:GOk P w K mg base k J bs)(t:FQ K C f m q st)(i:zBT K c C)(j:Cls K C)(a:dM st n N bs b=true)(e:bO m q st (N.take n))(h:spec.lookup q=some (.mth c m)):DmOk P w K mg base (k+1) (U.add q (zAj (N.take n).length N.length (evSs' J U b))) :=
 let ⟨_,E⟩:=t.F;d.addM g E (zHv (Bool.and_eq_true_iff.mp a).1) (Bool.and_eq_true_iff.mp a).2 (E.binds e) i j t.M h
def DmOk.aQ {b:MT}{j:Nat}(n:Nat)(N:List Str)(d:DmOk P w K mg base k U)(g:GOk P w K mg base j J bs)(t:FQ K C f m q st)(e:zBT K c C)(h:Cls K C)(l:j<=k:=by decide)(i:dM st n N bs b=true:=by decide +kernel)(a:bO m q st (N.take n):=by walk_at "b")(o:spec.lookup q=some (.mth c m):=by decide +kernel):DmOk P w K mg base (k+1) (U.add q (zAj (N.take n).length N.length (evSs' J U b))):=d.addQ (g.mono l) t e h i a o
def DmOk.aR {b:MT}{j:Nat}(x:Str)(n:Nat)(N:List Str)(d:DmOk P w K mg base k U)(g:GOk P w K mg base j J bs)(t:FQ K C f m q st)(e:zBT K c C)(i:Cls K C)(l:j<=k:=by decide)(a:dM st n N bs b=true:=by decide +kernel)(h:bO m q st (N.take n):=by exact bz3 rfl rfl)(o:spec.lookup x=some (.mth c m):=by decide +kernel):DmOk P w K mg base (k+1) (U.add x (zAj (N.take n).length N.length (evSs' J U b))) :=
 let ⟨_,E⟩:=t.F;d.addM (g.mono l) E (zHv (Bool.and_eq_true_iff.mp a).1) (Bool.and_eq_true_iff.mp a).2 (E.binds h) e i t.M o
structure UC (K:W.Frag)(c:Str)(C:Addr)(ns:List Str):Prop where
 a:zBT K c C
 c:Cls K C
 k:W.makesIn K C=true
 kc:W.keepIn K (.ref C)=true
 n:∀ n∈ns,zBQ K C n
def nf0:∀ n∈([]:List Str),zBQ K C n:=by simp
def nfc (h:W.findIn K (.ref C) x=some none)(t:∀ n∈ns,zBQ K C n):∀ n∈x::ns,zBQ K C n:=λn a=>by
 cases a with
 | head=>exact h
 | tail _ a=>exact t n a
def uc (a:W.nsIn K mainGlobals c=some (some (.ref C)))(f:W.plainGet K C Str.empty=true)(e:W.hasDictIn K C=true)(b:W.plainOver K C=true)(d:W.findIn K (.ref C) "__setattr__"=some (some (.builtin "object.__setattr__")))(mk:W.makesIn K C=true)(kc:W.keepIn K (.ref C)=true)(n:∀ n∈ns,zBQ K C n):UC K c C ns:=⟨a,⟨f,e,b,d⟩,mk,kc,n⟩
def UC.o (u:UC K c C ns)(h:x∈ns):∀ C',zBT K c C'->Cls K C'/\zBQ K C' x:=λ_ q=>by
 obtain rfl:=zCe u.a q;exact⟨u.c,u.n x h⟩
end
def zQX :evM J U (.pur e)=zMi (evE J e):=rfl
def zQW :evM J U (.var i)=varM i:=rfl
def zNK :evM J U (.call n f es)=fnM U n f (evMs J U es):=rfl
def zNI  :evMs J U .nil=nilM:=rfl
def zLM :evMs J U (.cons e es)=zNV (evM J U e) (evMs J U es):=rfl
def zQY :evM J U (.lst es)=lstM (evMs J U es):=rfl
def zTM :evM J U (.ix a b)=twoM (evM J U a) (evM J U b) ixW:=rfl
def zQQ :evT J U (.pur e)=zMj (asB (evE J e)):=rfl
def zLI  :evSs' J U .nil=(λs=>some (.nx s)):=rfl
def zCr :evSs' J U (.cons a b)=seqM (evS' J U a) (evSs' J U b):=rfl
def zND :evS' J U (.set i e)=setM i (evM J U e):=rfl
def zLK :evS' J U (.setC i e)=setM i (evM J U e):=rfl
def zNE :evS' J U (.ret e)=retM (evM J U e):=rfl
def zIJ :evS' J U (.ife c a b)=ifM (evT J U c) (evSs' J U a) (evSs' J U b):=rfl
def zNF :evS' J U (.app t e)=appM (evM J U t) (evM J U e):=rfl
def zNJ :evM J U (.comp n ms u2 src el)=zHj ms 1 (evSrc J U src) (tgM n) (evM J U el):=rfl
def zNC :evSrc J U (.it a)=srcM (evM J U a):=rfl
section
variable {J:Gm}{U:Dm}{G:List (Option W)}{B:Mem}{s:Mst}
def zBB (c:drS B G=G')(h:EvP (evE J e G') λr=>EvP (zF7 r B) Q):EvP (evM J U (.pur e) ⟨G,B⟩) Q:=by
 obtain⟨r,b,z,a,q⟩:=h;exact⟨z,by rw[zQX];unfold zMi;rw[c,b,qx,a],q⟩
def zBS (n:noL d=true)(h:Q (.dat d,B)):EvP (zF7 (d,.cl) B) Q:=⟨_,by cases d<;>exact if_pos (e:=none) n,h⟩
def zJH (n:noLs ds=true)(h:Q (.loc B.length,B++[ds.map .dat])):EvP (zF7 (.lst ds,.fr) B) Q:=⟨_,if_pos n,h⟩
def zAR (e:G[i]?=some (some w))(h:Q (w,B)):EvP (evM J U (.var i) ⟨G,B⟩) Q:=by
 refine⟨_,?_,h⟩;rw[zQW];unfold varM;rw[e]
def zBN (e:U[n]?=some (f,F))(h:EvP (evMs J U es s) λws=>EvP (F ws.1 ws.2) Q):EvP (evM J U (.call n f es) s) Q:=by
 obtain⟨ws,b,r,a,q⟩:=h;refine⟨r,?_,q⟩;rw[zNK];unfold fnM;unfold zLj
 simp_all
def zAz (h:Q ([],B)):EvP (evMs J U .nil ⟨G,B⟩) Q:=⟨_,by rw[zNI];rfl,h⟩
def zAF (h:EvP (evM J U e s) λw=>EvP (evMs J U es ⟨s.G,w.2⟩) λws=>Q (w.1::ws.1,ws.2)):EvP (evMs J U (.cons e es) s) Q:=by
 obtain⟨w,b,ws,a,q⟩:=h;exact⟨_,by rw[zLM];unfold zNV;rw[b,qx,a,qx],q⟩
def zKb (h:EvP (evMs J U es s) λr=>r.1.length<=10000/\Q (.loc r.2.length,r.2++[r.1])):EvP (evM J U (.lst es) s) Q:=by
 obtain⟨r,a,l,q⟩:=h;exact⟨_,by rw[zQY];unfold lstM;rw[a,qx,if_pos l],q⟩
def m_ix (h:EvP (evM J U a s) λx=>EvP (evM J U b ⟨s.G,x.2⟩) λy=>EvP (ixW x.1 y.1 y.2) Q):EvP (evM J U (.ix a b) s) Q:=by
 obtain⟨x,e,y,c,r,d,q⟩:=h;exact⟨_,by rw[zTM];unfold twoM;rw[e,qx,c,qx,d],q⟩
def zQZ :evM J U (.cat a b)=twoM (evM J U a) (evM J U b) catW:=rfl
def zR4 (h:EvP (evM J U a s) λx=>EvP (evM J U b ⟨s.G,x.2⟩) λy=>∃ n m ws vs,x.1=.loc n/\y.1=.loc m/\y.2[n]?=some ws/\y.2[m]?=some vs/\ws.length+vs.length<=10000/\Q (.loc y.2.length,y.2++[ws++vs])):EvP (evM J U (.cat a b) s) Q:=by
 obtain⟨⟨x,c⟩,e1,⟨y,m2⟩,e2,n,m,ws,vs,rfl,rfl,e3,e4,l,q⟩:=h;refine⟨_,?_,q⟩;rw[zQZ];unfold twoM
 simp_all
 show (m2[n]?.bind λws=>m2[m]?.bind λvs=>if ws.length+vs.length<=10000 then some _ else none)=_
 simp_all
def zCx (e:B[n]?=some ws)(a:atI ws i=some w)(h:Q (w,B)):EvP (ixW (.loc n) (.dat (.int i)) B) Q:=by
 refine⟨_,?_,h⟩;show (B[n]?.bind λws=>(atI ws i).map λw=>_)=_
 simp_all
def zQ2 (f:drS B G=G')(h:EvP (evE J e G') λr=>∃ b,r.1=.bl b/\Q (b,B)):EvP (evT J U (.pur e) ⟨G,B⟩) Q:=by
 obtain⟨r,c,b,a,q⟩:=h;refine⟨_,?_,q⟩;rw[zQQ];unfold zMj;have:asB (evE J e) G'=some b:=by
  unfold asB;obtain⟨d,k⟩:=r
  simp_all
 simp_all
def KM (J:Gm)(U:Dm)(b:MT)(Q:OutM->Prop):OutM->Prop
 | .nx s=>EvP (evSs' J U b s) Q
 | o=>Q o
def zBw (h:Q (.nx s)):EvP (evSs' J U .nil s) Q:=⟨_,by rw[zLI],h⟩
def zAK (h:EvP (evS' J U a s) (KM J U b Q)):EvP (evSs' J U (.cons a b) s) Q:=by
 obtain⟨o,c,q⟩:=h;cases o with
 | nx e =>
  obtain⟨r,d,q⟩:=q;exact⟨r,by rw[zCr];unfold seqM;rw[c];exact d,q⟩
 | rt r=>exact⟨_,by rw[zCr];unfold seqM;rw[c,qx],q⟩
 | bk r=>exact⟨_,by rw[zCr];unfold seqM;rw[c,qx],q⟩
 | ct r=>exact⟨_,by rw[zCr];unfold seqM;rw[c,qx],q⟩
def zA4 (h:EvP (evSs' J U b s) Q):KM J U b Q (.nx s):=h
def zEP (h:Q (.rt r)):KM J U b Q (.rt r):=h
def zCu (h:EvP (evM J U e s) λr=>Q (.nx ⟨s.G.set i (some r.1),r.2⟩)):EvP (evS' J U (.set i e) s) Q:=by
 obtain⟨r,a,q⟩:=h;exact⟨_,by rw[zND];unfold setM;rw[a];rfl,q⟩
def zG3 (h:EvP (evM J U e s) λr=>Q (.nx ⟨s.G.set i (some r.1),r.2⟩)):EvP (evS' J U (.setC i e) s) Q:=by
 obtain⟨r,a,q⟩:=h;exact⟨_,by rw[zLK];unfold setM;rw[a];rfl,q⟩
def zBz (h:EvP (evM J U e s) λr=>Q (.rt r)):EvP (evS' J U (.ret e) s) Q:=by
 obtain⟨r,a,q⟩:=h;exact⟨_,by rw[zNE];unfold retM;rw[a];rfl,q⟩
def zHu (h:EvP (evT J U c s) λr=>(r.1=true->EvP (evSs' J U a ⟨s.G,r.2⟩) Q)/\(r.1=false->EvP (evSs' J U b ⟨s.G,r.2⟩) Q)):EvP (evS' J U (.ife c a b) s) Q:=by
 obtain⟨⟨r,m⟩,e1,q1,q2⟩:=h;cases r with
 | true =>
  obtain⟨o,d,q⟩:=q1 rfl;exact⟨o,by rw[zIJ];unfold ifM;rw[e1,qx];exact(if_pos rfl).trans d,q⟩
 | false =>
  obtain⟨o,d,q⟩:=q2 rfl;exact⟨o,by rw[zIJ];unfold ifM;rw[e1,qx];exact(if_neg qX).trans d,q⟩
def zDj (h:EvP (evM J U t s) λx=>EvP (evM J U e ⟨s.G,x.2⟩) λr=>∃ n ws,x.1=.loc n/\r.2[n]?=some ws/\ws.length<=10000/\Q (.nx ⟨s.G,r.2.set n (ws++[r.1])⟩)):EvP (evS' J U (.app t e) s) Q:=by
 obtain⟨_,a,r,d,n,ws,b,c,l,q⟩:=h;refine⟨_,?_,q⟩;rw[zNF];unfold appM;rw[a,qx]
 simp_all
def KFM (Q:MR->Prop):OutM->Prop
 | .rt r=>Q r
 | .nx s=>Q (.dat .non,s.B)
 | _=>False
def zCb (h1:ws.length=np)(h2:np<=nN)(h:EvP (g ⟨ws.map some++List.replicate (nN - np) none,B⟩) (KFM Q)):EvP (zAj np nN g ws B) Q:=by
 obtain⟨o,a,q⟩:=h;cases o with
 | rt r=>exact⟨_,by unfold zAj;rw[if_pos ⟨h1,h2⟩,a];rfl,q⟩
 | nx s=>exact⟨_,by unfold zAj;rw[if_pos ⟨h1,h2⟩,a];rfl,q⟩
 | bk _=>exact q.elim
 | ct _=>exact q.elim
theorem zG8 :∀ ds:List D,sbL f (ds.map .dat)=some ds
 | []=>by rw[map_nil,sbL]
 | d::ds=>by rw[map_cons,sbL,sbW,qx,zG8 ds];rfl
def zGg (e:B[n]?=some ws)(h:sbL (drN B k) ws=some ds):drN B (k+1) n=some (.lst ds):=by
 rw[drN,e,qx,h];rfl
def zLT (e:B[n]?=some (ds.map .dat)):drN B (k+1) n=some (.lst ds):=zGg e (zG8 ds)
def zLV :drS B (some (.dat d)::G)=some (d,false)::drS B G:=rfl
def zLU (h:drN B 6 n=some d):drS B (some (.loc n)::G)=some (d,false)::drS B G:=by
 show ((drW B _).map λd=>_)::drS B G=_;unfold drW;rw[sbW,h]
 rfl
def zCd (h:drS B G=G'):drS B (some (.dat d)::G)=some (d,false)::G':=by rw[<- h];exact zLV
def zAg (h:drS B G=G'):drS B (o::G)=(o.bind λw=>(drW B w).map λd=>(d,false))::G':=by rw[<- h];rfl
def zE3 (h:EvP (evSrc J U src s) λz=>∃ y N,zBj (tgM n) (evM J U el) z.1 N 0 ⟨mask none ms s.G++[none],z.2⟩ []=some y/\y.1.length<=10000/\Q (.loc y.2.length,y.2++[y.1])):EvP (evM J U (.comp n ms x src el) s) Q:=by
 obtain⟨z,b,y,N,a,l,q⟩:=h;refine⟨_,?_,q⟩;rw[zNJ];unfold zHj;rw[b];simp;rw[zLd a,qx,if_pos l]
def zRA (e:evM J U a s=some (.loc n,m))(h:Q (.live n,m)):EvP (evSrc J U (.it a) s) Q:=by
 refine⟨_,?_,h⟩;rw[zNC];unfold srcM;rw[e]
 rfl
end
end DL
end
local macro_rules | `(tactic| walk_at "b")=>`(tactic| first | exact DL.bz2 rfl rfl | exact DL.bz1 rfl rfl | exact DL.bz3 rfl rfl | exact DL.bz4 rfl rfl | exact DL.bz0 rfl rfl | exact DL.bz5 rfl rfl)
section
namespace DL
open PySem L2
end DL
end
section
namespace DL
open PySem Spec PyProof.Rows L2
def zLL :evS' J U (.for1 i src b)=(λs=>(evSrc J U src s).bind λr=>zFu (tgM i) (evSs' J U b) r.1 0 ⟨s.G,r.2⟩):=rfl
def zLJ :evSrc J U (.rng a)=zMF (evM J U a):=rfl
section
variable {J:Gm}{U:Dm}{G:List (Option W)}{B:Mem}{s:Mst}
def KLM (P:Mst->Prop)(Q:OutM->Prop):OutM->Prop
 | .nx s=>P s
 | .ct s=>P s
 | .bk s=>Q (.nx s)
 | .rt r=>Q (.rt r)
def zBg (a:List W)(P:Nat->Mst->Prop)(it:∀ j s,P j s->itm s.B src=some a)
  (step:∀ j w s,a[j]?=some w->P j s->∃ s1,t w s=some s1/\EvP (b s1) (KLM (P (j+1)) Q)) (i:∀ s,P a.length s->Q (.nx s)) (h:P 0 s):EvP (zFu t b src 0 s) Q:=by
 have n:∀ (k j:Nat) (s:Mst),j+k=a.length->P j s->∃ o,forN t b src (k+1) j s=some o/\Q o:=by
  intro k
  induction k with
  | zero =>
   intro j s e p;have x:j=a.length:=by omega
   subst x;refine⟨_,?_,i s p⟩;rw[forN,it _ s p,qx,getElem?_eq_none (le_refl _)]
  | succ k v =>
   intro j s e p;have c:a[j]?=some a[j]:=getElem?_eq_getElem (by omega);obtain⟨s1,f,o,d,q⟩:=step j _ s c p;cases o with
   | nx g =>
    obtain⟨u,l,m⟩:=v (j+1) g (by omega) q;exact⟨u,by rw[forN,it j s p,qx,c];dsimp only;rw[f,qx,d,qx];exact l,m⟩
   | ct g =>
    obtain⟨u,l,m⟩:=v (j+1) g (by omega) q;exact⟨u,by rw[forN,it j s p,qx,c];dsimp only;rw[f,qx,d,qx];exact l,m⟩
   | bk g=>exact⟨_,by rw[forN,it j s p,qx,c];dsimp only;rw[f,qx,d,qx],q⟩
   | rt r=>exact⟨_,by rw[forN,it j s p,qx,c];dsimp only;rw[f,qx,d,qx],q⟩
 obtain⟨o,e,q⟩:=n a.length 0 s (by omega) h;exact⟨o,zM9 e,q⟩
def zDS (h:EvP (evSrc J U src s) λr=>EvP (zFu (tgM i) (evSs' J U b) r.1 0 ⟨s.G,r.2⟩) Q):EvP (evS' J U (.for1 i src b) s) Q:=by
 obtain⟨r,c,o,a,q⟩:=h;exact⟨o,by rw[zLL];dsimp only;rw[c];exact a,q⟩
def zDR (h:EvP (evM J U a s) λx=>∃ n,x.1=.loc n/\Q (.live n,x.2)):EvP (evSrc J U (.it a) s) Q:=by
 obtain⟨⟨x,m⟩,e,n,e2,q⟩:=h;cases e2;exact zRA e q
def zCR (h:EvP (evM J U a s) λx=>∃ j,x.1=.dat (.int j)/\(-(2^62)<=j/\j < 2^62)/\Q (.items ((rngL 0 j.toNat).map .dat),x.2)):EvP (evSrc J U (.rng a) s) Q:=by
 obtain⟨⟨x,m⟩,e,j,e2,l,q⟩:=h;cases e2;refine⟨_,?_,q⟩;rw[zLJ];unfold zMF;rw[e];exact if_pos l
end
end DL
namespace DL
open PySem L2
end DL
end
section
namespace DL
open PySem L2
noncomputable def news (m k:Nat):List W:=(List.range k).map λj=>.loc (m+j)
def zDI (m i:Nat):news m (i+1)=news m i++[.loc (m+i)]:=by unfold news;rw[range_succ,xY];rfl
def zB9 (m i:Nat):(news m i).length=i:=by unfold news;rw[qy,length_range]
def zPN (h:i < k):(news m k)[i]?=some (.loc (m+i)):=by unfold news;rw[getElem?_map,getElem?_range h];rfl
def zFG (a:List W)(P:Nat->Mst->List W->Prop)(it:∀ j s d,P j s d->itm s.B src=some a)
  (step:∀ j w s d,a[j]?=some w->P j s d->d.length<=10000/\∃ s1 r,t w s=some s1/\e s1=some r/\P (j+1) ⟨s1.G,r.2⟩ (d++[r.1])) (h:P 0 s []):∃ y s' N,zBj t e src N 0 s []=some y/\P a.length s' y.1/\s'.B=y.2:=by
 have b:∀ (k j:Nat) (s:Mst) (d:List W),j+k=a.length->P j s d->∃ y s',zBj t e src (k+1) j s d=some y/\P a.length s' y.1/\s'.B=y.2:=by
  intro k
  induction k with
  | zero =>
   intro j s d c p;have c:j=a.length:=by omega
   subst c;refine⟨(d,s.B),s,?_,p,rfl⟩;rw[zBj,it _ s d p,qx,getElem?_eq_none (le_refl _)]
  | succ k m =>
   intro j s d c p;have i:j < a.length:=by omega
   have f:a[j]?=some a[j]:=getElem?_eq_getElem i;obtain⟨l,s1,r,n,o,q⟩:=step j _ s d f p;obtain⟨y,s',u,g⟩:=m (j+1) ⟨s1.G,r.2⟩ _ (by omega) q;refine⟨y,s',?_,g⟩;rw[zBj,it j s d p,qx,f]
   simp_all
 obtain⟨y,s',e,q⟩:=b a.length 0 s [] (by omega) h;exact⟨y,s',_,e,q⟩
mutual
theorem zHw {f g:Nat->Option D}(hf:∀ n d,f n=some d->g n=some d):∀ {w:W} {d:D},sbW f w=some d->sbW g w=some d
 | .dat x,d,e=>by rw[sbW] at e ⊢;exact e
 | .loc n,d,e=>by rw[sbW] at e ⊢;exact hf n d e
 | .tup ws,d,e=>by
  rw[sbW] at e ⊢;obtain⟨ds,e1,rfl⟩:=x9.mp e;rw[sbL_mono hf e1]
  rfl
 | .obj c ns ws,d,e=>by rw[sbW] at e ⊢;exact e
theorem sbL_mono {f g:Nat->Option D}(hf:∀ n d,f n=some d->g n=some d):∀ {ws:List W} {ds:List D},sbL f ws=some ds->sbL g ws=some ds
 | [],ds,e=>by rw[sbL] at e ⊢;exact e
 | w::ws,ds,e=>by
  rw[sbL] at e ⊢;obtain⟨d,e1,e⟩:=bind_some e;obtain⟨ds',e2,rfl⟩:=x9.mp e;rw[zHw hf e1,qx,sbL_mono hf e2]
  rfl
end
theorem zIO (hm:∀ (n:Nat) (ws:List W),B[n]?=some ws->B'[n]?=some ws):∀ (k n:Nat) (d:D),drN B k n=some d->drN B' k n=some d
 | 0,_,_,e=>by cases e
 | k+1,n,d,e=>by
  rw[drN] at e ⊢;obtain⟨ws,e1,e⟩:=bind_some e;obtain⟨ds,e2,rfl⟩:=x9.mp e;rw[hm n ws e1,qx,sbL_mono (λn d q=>zIO hm k n d q) e2]
  rfl
def zAJ {γ:Mem}{n:Nat}(h:B[n]?=some ws):(B++γ)[n]?=some ws:=by
 rw[getElem?_append_left (zzg h).1];exact h
theorem zFb {g:Nat->Option D}{O:Type}(ad:O->Nat)(d:O->D):∀ l:List O,(∀ i∈l,g (ad i)=some (d i))->sbL g (l.map λi=>.loc (ad i))=some (l.map d)
 | [],_=>by rw[map_nil,sbL];rfl
 | i::l,h=>by
  rw[map_cons,sbL,sbW,h i q0,qx,zFb ad d l λj hj=>h j (qY _ hj)]
  rfl
noncomputable def zLS:MT:=.cons (.ret (.comp 1 [] "k" (.rng (.var 0)) (.lst .nil))) .nil
def zIe (F:MF):Prop:=∀ (k:Nat) (B:Mem) (Q:MR->Prop),k<=100->Q (.loc (B.length+k),B++List.replicate k []++[news B.length k])->EvP (F [.dat (.int k)] B) Q
def zNP :zIe (zAj 1 1 (evSs' J U zLS)):=λk B Q n h=>by
 refine zCb rfl (by decide) ?_;unfold zLS;refine zAK (zBz (zE3 (zCR (zAR (w:=.dat (.int k)) rfl ⟨(k:Int),rfl,by omega,?_⟩))));rw[toNat_natCast];obtain⟨y,p,N,e,⟨o,c,b,f⟩,p4⟩:=zFG (t:=tgM 1) (e:=evM J U (.lst .nil)) (src:=.items ((rngL 0 k).map .dat)) (s:=⟨mask none [] [some (.dat (.int k))]++[none],B⟩) ((rngL 0 k).map .dat)
  (λj s d=>∃ o:Option W,s=⟨[some (.dat (.int k)),o],B++List.replicate j []⟩/\d=news B.length j/\j<=k) (λj s d _=>rfl) (λj w s d g a=>by
   obtain⟨o,c,b,f⟩:=a;subst c b;have m:j < k:=by
    have:=(zzg g).1;rw[qy,zAd] at this;exact this
   refine⟨by rw[zB9];omega,⟨[some (.dat (.int k)),some w],B++List.replicate j []⟩,(.loc (B++List.replicate j []).length,B++List.replicate j []++[[]]),rfl,?_,some w,?_,?_,by omega⟩
   .exact (zKb (Q:=λr=>r=(W.loc (B++List.replicate j []).length,B++List.replicate j []++[[]])) (zAz ⟨zero_le _,rfl⟩)).eq
   .rw [List.replicate_succ',qJ]
   .rw [zDI,List.length_append,length_replicate]) ⟨none,by rw[List.replicate_zero,append_nil];rfl,rfl,zero_le _⟩
 have i:((rngL 0 k).map W.dat).length=k:=by rw[qy,zAd]
 rw[i] at c b;subst c;have l:y=(news B.length k,B++List.replicate k []):=Prod.ext b p4.symm;refine⟨y,N,e,by rw[b,zB9];omega,?_⟩;rw[l];show KFM Q (.rt (.loc (B++List.replicate k []).length,_));rw[List.length_append,length_replicate];exact h
structure zBk (B:Mem)(a w h:Nat)(f:Nat->Nat->List D):Prop where
 cell:∀ r c,r < h->c<=w->B[a+r*(w+2)+c]?=some ((f r c).map .dat)
 row:∀ r,r < h->B[a+r*(w+2)+(w+1)]?=some (news (a+r*(w+2)) (w+1))
 top:B[a+h*(w+2)]?=some ((List.range h).map λr=>.loc (a+r*(w+2)+(w+1)))
def zBk.keep (t:zBk B a w h f)(k:∀ (n:Nat) (ws:List W),a<=n->n<=a+h*(w+2)->B[n]?=some ws->B'[n]?=some ws):zBk B' a w h f:=by
 have lt:∀ r c,r < h->c<=w+1->r*(w+2)+c < h*(w+2):=λr c b d=>by
  have:=mul_le_mul_right (w+2) b;grind
 exact⟨λr c b d=>k _ _ (by omega) (by have:=lt r c b (by omega);omega) (t.cell r c b d),λr b=>k _ _ (by omega) (by have:=lt r (w+1) b (by omega);omega) (t.row r b),k _ _ (by omega) (le_refl _) t.top⟩
def zBk.app (t:zBk B a w h f)(γ:Mem):zBk (B++γ) a w h f:=t.keep λ_ _ _ _ e=>zAJ e
def zOJ (b:c<=w+1)(a:c'<=w+1)(e:r*(w+2)+c=r'*(w+2)+c'):r=r'/\c=c':=by
 have lt:∀ {r r' c c':Nat},c<=w+1->r < r'->r*(w+2)+c < r'*(w+2)+c':=λ{r r' c c'} b d=>by
  have:=mul_le_mul_right (w+2) d;grind
 rcases Nat.lt_trichotomy r r' with q | q | q
 .have:=lt (c':=c') b q;omega
 .grind
 .have:=lt (c':=c) a q;omega
noncomputable def more (f:Nat->Nat->List D)(r c:Nat)(q:D):Nat->Nat->List D:=λr' c'=>if r'=r/\c'=c then f r c++[q] else f r' c'
theorem zBk.more (t:zBk B a w h f)(hr:r < h)(hc:c<=w):zBk (B.set (a+r*(w+2)+c) (((f r c).map .dat)++[.dat q])) a w h (more f r c q):=by
 have hl:=(zzg (t.cell r c hr hc)).1;have hn:r*(w+2)+c < h*(w+2):=by
  have:=mul_le_mul_right (w+2) (show r+1<=h from hr);rw[Nat.succ_mul] at this;omega
 refine⟨λr' c' hr' hc'=>?_,λr' hr'=>?_,?_⟩
 .by_cases e:r'=r/\c'=c
  .obtain ⟨rfl,rfl⟩:=e;rw[getElem?_set_self hl];unfold DL.more;rw[if_pos ⟨rfl,rfl⟩,xY]
   rfl
  .unfold DL.more;rw[if_neg e,getElem?_set_ne]
   .exact t.cell r' c' hr' hc'
   .intro z;have:=zOJ (w:=w) (r:=r) (c:=c) (r':=r') (c':=c') (by omega) (by omega) (by omega);exact e ⟨this.1.symm,this.2.symm⟩
 .rw [getElem?_set_ne]
  .exact t.row r' hr'
  .intro z;have:=zOJ (w:=w) (r:=r) (c:=c) (r':=r') (c':=w+1) (by omega) (by omega) (by omega);omega
 .rw [getElem?_set_ne (by omega)];exact t.top
def zBk.other (t:zBk B a w h f)(c:n < a\/a+h*(w+2) < n):zBk (B.set n x) a w h f:=t.keep λm b h1 h2 e=>by
 rw[getElem?_set_ne (by omega)];exact e
def zNu (t:zBk B a w h f):drN B 6 (a+h*(w+2))=some (.lst ((List.range h).map λr=>D.lst ((List.range (w+1)).map λc=>.lst (f r c)))):=by
 refine zGg t.top (zFb _ _ _ λr b=>?_)
 simp_all
 have q:drN B 5 (a+r*(w+2)+w+1)=some (.lst ((List.range (w+1)).map λc=>.lst (f r c))):=by
  refine zGg (t.row r b) (zFb _ _ _ λc d=>?_)
  simp_all
  exact zGg (t.cell r c b (by omega)) (zG8 _)
 omega
noncomputable def tabE (ne:Nat):ME:=.comp 7 [] "row" (.rng (.var 1)) (.call ne "empty_lists" (.cons (.pur (.bin .Add (.var 0) (.int 1))) .nil))
def zNt (z:U[ne]?=some (("empty_lists":Str),Fe))(A:zIe Fe)(F:w<=12)(E:h<=12)
  (v:∀ γ:Mem,γ.length=h*(w+2)+1->zBk (B++γ) B.length w h (λ_ _=>[])->Q (.loc (B.length+h*(w+2)),B++γ)) :
  EvP (evM J U (tabE ne) ⟨[some (.dat (.int w)),some (.dat (.int h)),x2,x3,x4,x5,x6],B⟩) Q:=by
 unfold tabE;refine zE3 (zCR (zAR (w:=.dat (.int h)) rfl ⟨(h:Int),rfl,by omega,?_⟩));rw[toNat_natCast];obtain⟨y,H,N,e,⟨o,γ,n,i,g,u,l,k⟩,p7⟩:=zFG (t:=tgM 7) (e:=evM J U (.call ne "empty_lists" (.cons (.pur (.bin .Add (.var 0) (.int 1))) .nil))) (src:=.items ((rngL 0 h).map .dat)) (s:=⟨mask none [] [some (.dat (.int w)),some (.dat (.int h)),x2,x3,x4,x5,x6]++[none],B⟩) ((rngL 0 h).map .dat)
  (λj s d=>∃ (o:Option W) (γ:Mem),s=⟨[some (.dat (.int w)),some (.dat (.int h)),x2,x3,x4,x5,x6,o],B++γ⟩/\d=(List.range j).map (λr=>W.loc (B.length+r*(w+2)+(w+1)))/\γ.length=j*(w+2)/\j<=h /\
   (∀ r c,r < j->c<=w->(B++γ)[B.length+r*(w+2)+c]?=some [])/\∀ r,r < j->(B++γ)[B.length+r*(w+2)+(w+1)]?=some (news (B.length+r*(w+2)) (w+1))) (λj s d _=>rfl) (λj x s d D f=>by
   obtain⟨o,γ,n,i,g,u,l,k⟩:=f;subst n i;have G:j < h:=by
    have:=(zzg D).1;rw[qy,zAd] at this;exact this
   have a:(B++γ).length=B.length+j*(w+2):=by rw[List.length_append,g]
   refine⟨by rw[qy,length_range];omega,⟨[some (.dat (.int w)),some (.dat (.int h)),x2,x3,x4,x5,x6,some x],B++γ⟩,(.loc ((B++γ).length+(w+1)),(B++γ)++List.replicate (w+1) []++[news (B++γ).length (w+1)]),rfl,?_,some x,γ++List.replicate (w+1) []++[news (B++γ).length (w+1)],?_,?_,?_,by omega,?_,?_⟩
   .refine (zBN (Q:=λr=>r=(W.loc ((B++γ).length+(w+1)),(B++γ)++List.replicate (w+1) []++[news (B++γ).length (w+1)])) z (zAF (zBB zLV (zAi (zAN rfl (zAh (zJE (zBS rfl (zAz ?_))))))))).eq;exact A (w+1) (B++γ) _ (by omega) rfl
   .simp only [qJ]
   .rw [range_succ,xY,a];rfl
   .simp only [List.length_append,length_replicate,length_singleton,g];rw[Nat.succ_mul];omega
   .intro r c b m;by_cases q:r < j
    .rw [<- qJ,<- qJ];exact zAJ (zAJ (l r c q m))
    .have:r=j:=by omega
     subst this;rw[<- qJ,<- qJ,getElem?_append_left (by rw[List.length_append,length_replicate,a];omega),getElem?_append_right (by rw[a];omega),a,getElem?_replicate];rw[if_pos (by omega)]
   .intro r b;by_cases q:r < j
    .rw [<- qJ,<- qJ];exact zAJ (zAJ (k r q))
    .have:r=j:=by omega
     subst this;have ll:(B++γ++List.replicate (w+1) []).length=B.length+r*(w+2)+(w+1):=by rw[List.length_append,length_replicate,a]
     rw[<- qJ,<- qJ,getElem?_append_right (by rw[ll];exact le_refl _),ll,sub_self];show some (news (B++γ).length (w+1))=_;rw[a]) ⟨none,[],by rw[append_nil];rfl,rfl,by simp,zero_le _,λr c b=>absurd b (by omega),λr b=>absurd b (by omega)⟩
 have p:((rngL 0 h).map W.dat).length=h:=by rw[qy,zAd]
 rw[p] at i g l k;subst n;have C:y=((List.range h).map (λr=>W.loc (B.length+r*(w+2)+(w+1))),B++γ):=Prod.ext i p7.symm;refine⟨y,N,e,by rw[i,qy,length_range];omega,?_⟩;rw[C];have a:(B++γ).length=B.length+h*(w+2):=by rw[List.length_append,g]
 show Q (.loc (B++γ).length,(B++γ)++[_]);rw[a,qJ];refine v _ (by rw[List.length_append,g];rfl) ⟨λr c b m=>?_,λr b=>?_,?_⟩
 .rw [<- qJ];exact zAJ (l r c b m)
 .rw [<- qJ];exact zAJ (k r b)
 .rw [<- qJ,getElem?_append_right (by rw[a];exact le_refl _),a,sub_self]
  rfl
def zOK (e:atI ds i=some d)(h:Q (.dat d,B)):EvP (ixW (.dat (.tup ds)) (.dat (.int i)) B) Q:=by
 refine⟨_,?_,h⟩;show (atI ds i).map _=_
 simp_all
def zQh (h:drW B x=some d):drS B (some x::G)=some (d,false)::drS B G:=by
 show _::drS B G=_
 simp_all
structure Pz where
 c:Int
 r:Int
 x:D
 y:D
 f:D
 g:D
abbrev Pz.d (z:Pz):D:=.tup [.int z.c,.int z.r,z.x,z.y]
structure PzB (w h:Nat)(z:Pz):Prop where
 r0:0<=z.r
 r1:z.r < h
 c0:-1<=z.c
 c1:z.c < w
 n:noL z.d=true
 f:noL z.f=true
 g:noL z.g=true
noncomputable def fc (p:Pz->D)(zs:List Pz)(r c:Nat):List D:=(zs.filter λz=>decide (z.r=(r:Int))&&decide (z.c+1=(c:Int))).map p
def zLA (hz:PzB w h z):fc p (zs++[z])=more (fc p zs) z.r.toNat (z.c+1).toNat (p z):=by
 have a:=hz.r0;have b:=hz.c0;unfold fc more;grind
noncomputable def zPZ (nf nr:Nat):MT:=.cons (.set 6 (.pur (.bin .Add (.ix (.var 5) (.int 0)) (.int 1)))) (.cons (.app (.ix (.ix (.var 3) (.ix (.var 5) (.pur (.int 1)))) (.var 6)) (.pur (.call nf "fall" (.cons (.var 5) .nil)))) (.cons (.app (.ix (.ix (.var 4) (.ix (.var 5) (.pur (.int 1)))) (.var 6)) (.pur (.call nr "right" (.cons (.var 5) .nil)))) .nil))
def zKe {J:Gm}{U:Dm}{nf nr:Nat}{E C:List D->Option R}(X:J.fns[nf]?=some (("fall":Str),E))(H:J.fns[nr]?=some (("right":Str),C)){w h a b:Nat}{z:Pz}(hf:E [z.d]=some (z.f,.cl))(Z:C [z.d]=some (z.g,.cl)){f g:Nat->Nat->List D}{A v y x6:Option W}{B:Mem}{Q:OutM->Prop}
  (hz:PzB w h z) (t:zBk B a w h f) (S:zBk B b w h g) (ab:a+h*(w+2) < b) (P:∀ r c,(f r c).length<=10000) (K:∀ r c,(g r c).length<=10000)
  (O:∀ B':Mem,B'.length=B.length->(∀ m:Nat,m < a->B'[m]?=B[m]?)->(∀ m:Nat,b+h*(w+2) < m->B'[m]?=B[m]?)->zBk B' a w h (more f z.r.toNat (z.c+1).toNat z.f)->zBk B' b w h (more g z.r.toNat (z.c+1).toNat z.g)->Q (.nx ⟨[A,v,y,some (.loc (a+h*(w+2))),some (.loc (b+h*(w+2))),some (.dat z.d),some (.dat (.int (z.c+1)))],B'⟩)) :
  EvP (evSs' J U (zPZ nf nr) ⟨[A,v,y,some (.loc (a+h*(w+2))),some (.loc (b+h*(w+2))),some (.dat z.d),x6],B⟩) Q:=by
 have r0:=hz.r0;have r1:=hz.r1;have c0:=hz.c0;have c1:=hz.c1;have eR:z.r=((z.r.toNat:Nat):Int):=by omega
 have T:z.c+1=(((z.c+1).toNat:Nat):Int):=by omega
 have e:z.r.toNat < h:=by omega
 have u:(z.c+1).toNat<=w:=by omega
 have k:∀ (a:Nat),atI ((List.range h).map λr=>W.loc (a+r*(w+2)+(w+1))) z.r=some (.loc (a+z.r.toNat*(w+2)+(w+1))):=λa=>by
  have q:atI ((List.range h).map λr=>W.loc (a+r*(w+2)+(w+1))) ((z.r.toNat:Nat):Int)=some (.loc (a+z.r.toNat*(w+2)+(w+1))):=zAl (by rw[getElem?_map,getElem?_range e];rfl);rw[<- eR] at q;exact q
 have o:∀ (a:Nat),atI (news (a+z.r.toNat*(w+2)) (w+1)) (z.c+1)=some (.loc (a+z.r.toNat*(w+2)+(z.c+1).toNat)):=λa=>by
  have q:atI (news (a+z.r.toNat*(w+2)) (w+1)) (((z.c+1).toNat:Nat):Int)=some (.loc (a+z.r.toNat*(w+2)+(z.c+1).toNat)):=zAl (zPN (by omega));rw[<- T] at q;exact q
 have p:atI [D.int z.c,.int z.r,z.x,z.y] 1=some (.int z.r):=rfl;have M:z.r.toNat*(w+2)+(z.c+1).toNat < h*(w+2):=by
  have:=mul_le_mul_right (w+2) (show z.r.toNat+1<=h from e);rw[Nat.succ_mul] at this;omega
 unfold zPZ;refine zAK (zCu (zBB (zAg (zAg (zAg (zAg (zAg (zCd rfl)))))) ?_));refine zAi (zC5 (zAN rfl (zAh (zDJ (d:=.int z.c) rfl (zAh (zJE (zBS rfl (zA4 ?_))))))));(walk_at "s");refine zAK (zDj (m_ix (m_ix (zAR rfl (m_ix (zAR rfl (zBB rfl (zAh (zBS rfl ?_)))))))));refine zOK p (zCx t.top (k a) (zAR rfl (zCx (t.row _ e) (o a) ?_)));refine zBB (zAg (zAg (zAg (zAg (zAg (zCd rfl)))))) ?_;refine zAL X (zAH (zAN rfl (n_cl (zAn ?_))));refine⟨_,hf,?_⟩;refine n_cl (zBS hz.f ⟨_,_,rfl,t.cell _ _ e u,by rw[qy];exact P _ _,zA4 ?_⟩);have j:=t.more (q:=z.f) e u;have tg2:=S.other (n:=a+z.r.toNat*(w+2)+(z.c+1).toNat) (x:=((f z.r.toNat (z.c+1).toNat).map .dat)++[.dat z.f]) (by omega);have F:(B.set (a+z.r.toNat*(w+2)+(z.c+1).toNat) (((f z.r.toNat (z.c+1).toNat).map .dat)++[.dat z.f])).length=B.length:=length_set;have N:∀ m:Nat,m < a->(B.set (a+z.r.toNat*(w+2)+(z.c+1).toNat) (((f z.r.toNat (z.c+1).toNat).map .dat)++[.dat z.f]))[m]?=B[m]?:=λm l=>getElem?_set_ne (by omega)
 have V:∀ m:Nat,b+h*(w+2) < m->(B.set (a+z.r.toNat*(w+2)+(z.c+1).toNat) (((f z.r.toNat (z.c+1).toNat).map .dat)++[.dat z.f]))[m]?=B[m]?:=λm l=>getElem?_set_ne (by omega)
 have I:∀ i:Mem,i.length=B.length->(∀ m:Nat,m < a->i[m]?=B[m]?)->(∀ m:Nat,b+h*(w+2) < m->i[m]?=B[m]?)->zBk i a w h (more f z.r.toNat (z.c+1).toNat z.f)->zBk i b w h g ->
   EvP (evSs' J U (.cons (.app (.ix (.ix (.var 4) (.ix (.var 5) (.pur (.int 1)))) (.var 6)) (.pur (.call nr "right" (.cons (.var 5) .nil)))) .nil) ⟨[A,v,y,some (.loc (a+h*(w+2))),some (.loc (b+h*(w+2))),some (.dat z.d),some (.dat (.int (z.c+1)))],i⟩) Q:=by
  intro i Y L G j tg2;refine zAK (zDj (m_ix (m_ix (zAR rfl (m_ix (zAR rfl (zBB rfl (zAh (zBS rfl ?_)))))))));refine zOK p (zCx tg2.top (k b) (zAR rfl (zCx (tg2.row _ e) (o b) ?_)));refine zBB (zAg (zAg (zAg (zAg (zAg (zCd rfl)))))) ?_;refine zAL H (zAH (zAN rfl (n_cl (zAn ?_))));refine⟨_,Z,?_⟩;refine n_cl (zBS hz.g ⟨_,_,rfl,tg2.cell _ _ e u,by rw[qy];exact K _ _,zA4 (zBw ?_)⟩);refine O _ (by rw[length_set];exact Y) (λm l=>?_) (λm l=>?_) (j.other (by omega)) (tg2.more e u)
  .rw [getElem?_set_ne (by omega)];exact L m l
  .rw [getElem?_set_ne (by omega)];exact G m l
 exact I _ F N V j tg2
noncomputable def zG6 (na nf nr nw ne:Nat):MT:=.cons (.setC 3 (tabE ne)) (.cons (.setC 4 (tabE ne)) (.cons (.for1 5 (.it (.pur (.call na "all_pieces" (.cons (.var 0) (.cons (.var 1) (.cons (.var 2) .nil)))))) (zPZ nf nr)) (.cons (.ret (.comp 7 [] "row" (.rng (.var 1)) (.pur (.call nw "row_of_shares" (.cons (.ix (.var 3) (.var 7)) (.cons (.ix (.var 4) (.var 7)) .nil)))))) .nil)))
noncomputable def zBd (rz:Nat->List D)(k:Nat):Mem:=(List.range k).map λr=>(rz r).map W.dat
theorem zKQ:∀ {ds:List D},(∀ d∈ds,noL d=true)->noLs ds=true
 | [],_=>rfl
 | d::ds,h=>by rw[noLs,h d q0,zKQ λd m=>h d (qY _ m)];rfl
def zOR (a:List Pz)(r c:Nat):(fc p a r c).length<=a.length:=by unfold fc;rw[qy];exact List.length_filter_le _ _
structure ZOk (Fa Ff Fr Fw:List D->Option R)(w h:Nat)(sh:D)(zs:List Pz)(rz:Nat->List D):Prop where
 w2:w<=12
 h2:h<=12
 zl:zs.length<=5000
 all:Fa [.int w,.int h,sh]=some (.lst (zs.map Pz.d),.fr)
 b:∀ z∈zs,PzB w h z
 f:∀ z∈zs,Ff [z.d]=some (z.f,.cl)
 r:∀ z∈zs,Fr [z.d]=some (z.g,.cl)
 w:∀ r,r < h->Fw [.lst ((List.range (w+1)).map λc=>.lst (fc Pz.f zs r c)),.lst ((List.range (w+1)).map λc=>.lst (fc Pz.g zs r c))]=some (.lst (rz r),.fr)
 n:∀ r,r < h->noLs (rz r)=true
def zJj (ea:J.fns[na]?=some (("all_pieces":Str),Fa))(ef:J.fns[nf]?=some (("fall":Str),Ff))(er:J.fns[nr]?=some (("right":Str),Fr))(ew:J.fns[nw]?=some (("row_of_shares":Str),Fw))(X:U[ne]?=some (("empty_lists":Str),Fe))
  (he:zIe Fe)        (ok:ZOk Fa Ff Fr Fw w h sh zs rz) (dx:drW B x=some sh)
  (hQ:∀ γ:Mem,Q (.loc ((B++γ).length+h),B++γ++zBd rz h++[news (B++γ).length h])):EvP (zAj 3 7 (evSs' J U (zG6 na nf nr nw ne)) [.dat (.int w),.dat (.int h),x] B) Q:=by
 have E:=ok.b;have Z:=ok.w2;have h2:=ok.h2;have zl:=ok.zl;refine zCb rfl (by decide) ?_;unfold zG6;show EvP (evSs' J U _ ⟨[some (.dat (.int w)),some (.dat (.int h)),some x,none,none,none,none],B⟩) _;refine zAK (zG3 (zNt X he Z h2 λZ3 g1 t1=>zA4 ?_));(walk_at "s");refine zAK (zG3 (zNt X he Z h2 λO6 g2 Y=>zA4 ?_));(walk_at "s");have ta:=t1.app O6;have u:(B++Z3).length=B.length+h*(w+2)+1:=by rw[List.length_append,g1];omega
 rw[u] at Y;rw[u];have R:drW (B++Z3++O6) x=some (sh):=(zHw (λn d q=>zIO (λm ws e=>zAJ (zAJ e)) 6 n d q) dx);refine zAK (zDS (zDR (zBB (zCd (zCd (zQh R))) ?_)));refine zAL ea (zAH (zAN rfl (n_cl (zAH (zAN rfl (n_cl (zAH (zAN (d:=sh) rfl (n_cl (zAn ?_)))))))))) ;refine⟨_,ok.all,?_⟩;refine n_fr (zJH (zKQ λd m=>let ⟨z,H,e⟩:=mem_map.mp m;e▸(E z H).n) ⟨_,rfl,?_⟩);have lb:(B++Z3++O6).length=B.length+h*(w+2)+1+h*(w+2)+1:=by rw[List.length_append,u,g2];omega
 dsimp only;refine zBg (s:=⟨_,_⟩) ((zs.map Pz.d).map .dat) (λj s=>∃ (g i:Option W) (a:Mem),s=⟨[some (.dat (.int w)),some (.dat (.int h)),some x,some (.loc (B.length+h*(w+2))),some (.loc (B.length+h*(w+2)+1+h*(w+2))),g,i],a⟩/\a.length=(B++Z3++O6).length+1/\(∀ m:Nat,m < B.length->a[m]?=B[m]?)/\a[(B++Z3++O6).length]?=some ((zs.map Pz.d).map .dat) /\
  zBk a B.length w h (fc Pz.f (zs.take j))/\zBk a (B.length+h*(w+2)+1) w h (fc Pz.g (zs.take j))) ?_ ?_ ?_ ⟨none,none,B++Z3++O6++[(zs.map Pz.d).map .dat],rfl,by rw[List.length_append];rfl,?_,?_,?_,?_⟩
 .rintro j s ⟨g,i,a,rfl,T,K,O,F,I⟩;exact O
 .rintro j y s k ⟨g,i,a,rfl,T,K,O,F,I⟩;rw[map_map,getElem?_map] at k;obtain⟨z,b,rfl⟩:=x9.mp k;have H:=E z (mem_of_getElem? b);have et:zs.take (j+1)=zs.take j++[z]:=by rw[List.take_add_one,b];rfl
  refine⟨_,rfl,?_⟩;dsimp only;(walk_at "s");have ll:∀ (p:Pz->D) r c,(fc p (zs.take j) r c).length<=10000:=λp r c=>by
   have:=zOR (p:=p) (zs.take j) r c;rw[length_take] at this;omega
  refine zKe ef er (ok.f z (mem_of_getElem? b)) (ok.r z (mem_of_getElem? b)) H F I (by omega) (ll _) (ll _) fun μ2 e1 S e3 t3 t4=>?_
  rw[<- zLA (p:=Pz.f) H,<- et] at t3;rw[<- zLA (p:=Pz.g) H,<- et] at t4;exact⟨_,_,μ2,rfl,by rw[e1];exact T,λm L=>by rw[S m L];exact K m L,by rw[e3 _ (by rw[lb];omega)];exact O,t3,t4⟩
 .rintro s ⟨g,i,a,rfl,T,K,O,F,I⟩;have el:((zs.map Pz.d).map W.dat).length=zs.length:=by rw[qy,qy]
  rw[el,List.take_length] at F I;refine zA4 ?_;refine zAK (zBz (zE3 (zCR (zAR (w:=.dat (.int h)) rfl ⟨(h:Int),rfl,by omega,?_⟩))));rw[toNat_natCast];obtain⟨y,s',N,e,⟨o,M,v,p3⟩,p4⟩:=zFG (t:=tgM 7) (e:=evM J U (.pur (.call nw "row_of_shares" (.cons (.ix (.var 3) (.var 7)) (.cons (.ix (.var 4) (.var 7)) .nil))))) (src:=.items ((rngL 0 h).map .dat)) (s:=⟨mask none [] [some (.dat (.int w)),some (.dat (.int h)),some x,some (.loc (B.length+h*(w+2))),some (.loc (B.length+h*(w+2)+1+h*(w+2))),g,i]++[none],a⟩) ((rngL 0 h).map .dat)
   (λj s d=>∃ o:Option W,s=⟨[some (.dat (.int w)),some (.dat (.int h)),some x,some (.loc (B.length+h*(w+2))),some (.loc (B.length+h*(w+2)+1+h*(w+2))),g,i,o],a++zBd rz j⟩/\d=news a.length j/\j<=h) (λj s d _=>rfl) (λj y s d k f=>by
    obtain⟨o,M,v,p3⟩:=f;subst M v;have C:j < h:=by
     have:=(zzg k).1;rw[qy,zAd] at this;exact this
    have V:y=.dat (.int (j:Int)):=by
     unfold rngL at k;rw[map_map,getElem?_map,getElem?_range C] at k;have:=(xy k).symm;rw[this];simp
    subst V;have t5:=F.app (zBd rz j);have t6:=I.app (zBd rz j);have P:(a++zBd rz j).length=a.length+j:=by rw[List.length_append];unfold zBd;rw[qy,length_range]
    refine⟨by rw[zB9];omega,⟨[some (.dat (.int w)),some (.dat (.int h)),some x,some (.loc (B.length+h*(w+2))),some (.loc (B.length+h*(w+2)+1+h*(w+2))),g,i,some (.dat (.int (j:Int)))],a++zBd rz j⟩,(.loc (a++zBd rz j).length,(a++zBd rz j)++[(rz j).map .dat]),rfl,?_,some (.dat (.int (j:Int))),?_,?_,by omega⟩
    .refine (zBB (Q:=λr=>r=(W.loc (a++zBd rz j).length,(a++zBd rz j)++[(rz j).map .dat])) (zCd (zCd (zAg ((zLU (zNu t5)).trans (congrArg _ ((zLU (zNu t6)).trans (congrArg _ (zAg (zAg (zCd rfl))))))))) ) ?_).eq;refine zAL ew (zAH (zC5 (zAN rfl (zAN rfl ?_))));refine zA5 (d:=.lst ((List.range (w+1)).map λc=>.lst (fc Pz.f zs j c))) (zAl (by rw[getElem?_map,getElem?_range C];rfl)) (n_cl (zAH (zC5 (zAN rfl (zAN rfl ?_)))));refine zA5 (d:=.lst ((List.range (w+1)).map λc=>.lst (fc Pz.g zs j c))) (zAl (by rw[getElem?_map,getElem?_range C];rfl)) (n_cl (zAn ?_));exact⟨_,ok.w j C,n_fr (zJH (ok.n j C) rfl)⟩
    .have:zBd rz (j+1)=zBd rz j++[(rz j).map .dat]:=by
      unfold zBd;rw[range_succ,xY]
      rfl
     rw[this,qJ]
    .rw [zDI,P]) ⟨none,by unfold zBd;rw[List.range_zero,map_nil,append_nil];rfl,rfl,zero_le _⟩
  have lw:((rngL 0 h).map W.dat).length=h:=by rw[qy,zAd]
  rw[lw] at M v;subst M;have S:y=(news a.length h,a++zBd rz h):=Prod.ext v p4.symm;refine⟨y,N,e,by rw[v,zB9];omega,?_⟩;rw[S];have em:∃ γ:Mem,a=B++γ:=by
   refine⟨a.drop B.length,?_⟩;have:B=a.take B.length:=by
    apply ext_getElem?;intro m;rw[List.getElem?_take];by_cases q:m < B.length
    .rw [if_pos q];exact(K m q).symm
    .rw [if_neg q,getElem?_eq_none (by omega)]
   exact(List.take_append_drop B.length a).symm.trans (congrArg (λl=>l++a.drop B.length) this.symm)
  obtain⟨γ,rfl⟩:=em;have q:=hQ γ;have P:(B++γ++zBd rz h).length=(B++γ).length+h:=by rw[List.length_append];unfold zBd;rw[qy,length_range]
  show KFM Q (.rt (.loc (B++γ++zBd rz h).length,_));rw[P];exact q
 .intro m L;rw[qJ,qJ,getElem?_append_left L]
 .rw [getElem?_append_right (le_refl _),sub_self];rfl
 .exact ta.app _
 .exact Y.app _
abbrev Lp:=List (Nat×List D)
structure Ll (B:Mem)(n:Nat)(l:Lp):Prop where
 top:B[n]?=some (l.map λp=>.loc p.1)
 row:∀ p∈l,B[p.1]?=some (p.2.map .dat)
abbrev llD (l:Lp):D:=.lst (l.map λp=>.lst p.2)
def Ll.dr (e:Ll B n l):drW B (.loc n)=some (llD l):=zGg e.top (zFb _ _ l λp a=>zLT (e.row p a))
def Ll.keep (e:Ll B n l)(b:B'[n]?=B[n]?)(k2:∀ p∈l,B'[p.1]?=B[p.1]?):Ll B' n l:=⟨by rw[b];exact e.top,λp a=>by rw[k2 p a];exact e.row p a⟩
def Ll.lt (e:Ll B n l):n < B.length/\∀ p∈l,p.1 < B.length:=⟨(zzg e.top).1,λp a=>(zzg (e.row p a)).1⟩
def zAc {i:Nat}(e:G[i]?=some (some w))(h:drW B w=some d):(drS B G)[i]?=some (some (d,false)):=by
 unfold drS
 simp_all
def zAk :drW B (.dat d)=some d:=rfl
def zDK (e:B[n]?=some (ds.map .dat)):drW B (.loc n)=some (.lst ds):=by unfold drW;exact zLT e
noncomputable def lpT (b:Nat)(rz:Nat->List D)(h:Nat):Lp:=(List.range h).map λr=>(b+r,rz r)
def zKd (a:p∈lpT b rz h):∃ r,r < h/\p=(b+r,rz r):=by
 obtain⟨r,c,rfl⟩:=mem_map.mp a;exact⟨r,mem_range.mp c,rfl⟩
def zEA (a:Nat->List D)(h:Nat):(zBd a h).length=h:=by unfold zBd;rw[qy,length_range]
def zSA (B:Mem)(a:Nat->List D)(h:Nat):Ll (B++zBd a h++[news B.length h]) (B.length+h) (lpT B.length a h):=by
 refine⟨?_,λp b=>?_⟩
 .rw [getElem?_append_right (by rw[List.length_append,zEA];omega),List.length_append,zEA,sub_self];unfold lpT news;simp
 .obtain ⟨r,c,rfl⟩:=zKd b;dsimp only;rw[getElem?_append_left (by rw[List.length_append,zEA];omega)];unfold zBd
  simp_all
noncomputable def zQK (nm:Nat):S:=.cons (.ret (.call nm "minus" (.cons (.ix (.ix (.var 0) (.int 2)) (.int 1)) (.cons (.ix (.ix (.var 0) (.int 3)) (.int 1)) .nil)))) .nil
def zNl (F:List D->Option R):Prop:=∀ (c r:Int) (p q:Pt) (n:Nat) (Q:R->Prop),PB n p->PB n q->n<=1000000->c.natAbs<=100->(∀ f,RB (4*n+20) f->Q (ratD f,.cl))->EvP (F [zEx c r p q]) Q
def zQJ {Fm:List D->Option R}(a:J.fns[nm]?=some (("minus":Str),Fm))(c:zFP Fm):zNl (dFun 1 1 (evSs J (zQK nm))):=λc r p q n Q h1 h2 b _ h=>by
 (walk_at "d");unfold zQK;(walk_at "st");(walk_at "w");exact h _ ((zCv h1.y h2.y).mono (by omega))
noncomputable def zJr (ng nt nf nm nd:Nat):S:=.cons (.set 1 (.ix (.var 0) (.int 0))) (.cons (.ife (.cmp .Eq (.var 1) (.neg (.int 1))) (.cons (.ret (.glob ng "NOUGHT")) .nil) .nil) (.cons (.ret (.call nt "times" (.cons (.call nf "fall" (.cons (.var 0) .nil)) (.cons (.call nm "minus" (.cons (.tup (.cons (.bin .Add (.var 1) (.int 1)) (.cons (.int 1) .nil))) (.cons (.call nd "middle" (.cons (.ix (.ix (.var 0) (.int 2)) (.int 0)) (.cons (.ix (.ix (.var 0) (.int 3)) (.int 0)) .nil))) .nil))) .nil)))) .nil))
def zLu (F:List D->Option R):Prop:=∀ (c r:Int) (p q:Pt) (n:Nat) (Q:R->Prop),PB n p->PB n q->n<=1000000->c.natAbs<=100->(∀ f,RB (6*n+40) f->Q (ratD f,.cl))->EvP (F [zEx c r p q]) Q
def zMH {Fm:List D->Option R}(l:J.cs[ng]?=some (("NOUGHT":Str),.tup [.int 0,.int 1]))(v:J.fns[nt]?=some (("times":Str),Ft))(o:J.fns[nf]?=some (("fall":Str),Ff))(u:J.fns[nm]?=some (("minus":Str),Fm))(t:J.fns[nd]?=some (("middle":Str),Fd))
  (s:zDr Ft) (g:zNl Ff) (m:zFP Fm) (hd:MidF Fd):zLu (dFun 1 2 (evSs J (zJr ng nt nf nm nd))):=λc r p q n Q h1 h2 j a h=>by
 (walk_at "d");unfold zJr;(walk_at "st");(walk_at "w");refine zA8 (λz=>?_) λz=>?_
 ·(walk_at "w");exact h 0 (zA3.mono (by omega))
 .have e:RB 8 ((c+1:Int):Rat):=zHx (zDm (k:=200) (by omega) (by decide)) (by decide);(walk_at "w");refine g c r p q n _ h1 h2 j a λf b=>?_
  (walk_at "w");refine hd _ _ n _ h1.x h2.x (by omega) λm i=>?_
  (walk_at "w");rw[zFp];(walk_at "w");exact h _ ((zAo b (zCv e i)).mono (by omega))
noncomputable def allB (ns np:Nat):S:=.cons (.set 3 (.lst .nil)) (.cons (.for1 4 (.it (.var 2)) (.cons (.for1 5 (.it (.call ns "sides" (.cons (.var 4) .nil))) (.cons (.ext 3 (.call np "pieces" (.cons (.var 0) (.cons (.var 1) (.cons (.var 5) .nil))))) .nil)) .nil)) (.cons (.retOwn 3) .nil))
structure FlB (n P w h:Nat)(rs:List (List Pt)):Prop where
 w2:w<=12
 h2:h<=12
 m:rs.length<=6
 b:8*n+20<=1000000
 p:P<=12
 r:∀ ps∈rs,ps.length<=P/\∀ p∈ps,PB n p
def AllF (F:List D->Option R):Prop:=∀ (n P w h:Nat) (rs:List (List Pt)) (Q:R->Prop),FlB n P w h rs->(∀ ds,ds.length<=rs.length*(P*(w+h+4))->(∀ d∈ds,isZ (8*n+20) w h d)->Q (.lst ds,.fr))->EvP (F [.int w,.int h,zBc rs]) Q
def zTl (es:J.fns[ns]?=some (("sides":Str),Fs))(C:J.fns[np]?=some (("pieces":Str),Fp))(v:zLt Fs)(L:zHn Fp):AllF (dFun 3 6 (evSs J (allB ns np))):=λn P w h f Q fb F=>by
 obtain⟨T,h2,u,R,t,H⟩:=fb;(walk_at "d");unfold allB;(walk_at "st");refine zAG ?_;(walk_at "e");have I:P*(w+h+4)<=12*28:=Nat.mul_le_mul t (by omega);have S:f.length*(P*(w+h+4))<=6*(12*28):=Nat.mul_le_mul u I;refine zAG (zFw (zJc (zAN rfl (w_cl (ds:=f.map zIo) ?_))));refine zE9 (λxs G=>∃ (c:List D) (a b:Option (D×Bool)),G=[some (.int (w:Int),false),some (.int (h:Int),false),some (zBc f,false),some (.lst c,true),a,b]/\(∀ x∈xs,x∈f.map zIo)/\c.length+xs.length*(P*(w+h+4))<=f.length*(P*(w+h+4))/\∀ d∈c,isZ (8*n+20) w h d) ?_ ?_ _ _ ⟨[],none,none,rfl,λ_ m=>m,by simp,by simp⟩
 .rintro x xs G ⟨c,a,b,rfl,o,i,g⟩;obtain⟨j,B,rfl⟩:=mem_map.mp (o x q0);obtain⟨E,l⟩:=H j B;have pk:=mul_le_mul_right (w+h+4) E;rw[xX,Nat.succ_mul] at i;refine⟨_,rfl,?_⟩;(walk_at "s");refine zAG (zFw (zJc (zAL es (zAH (zAN rfl (n_cl (zAn ?_)))))));refine v j _ (by omega) (n_fr (w_fr ?_));refine zE9 (λys G=>∃ (c:List D) (b:Option (D×Bool)),G=[some (.int (w:Int),false),some (.int (h:Int),false),some (zBc f,false),some (.lst c,true),some (zIo j,false),b]/\(∀ y∈ys,y∈(DM.zGJ j).map zGK)/\c.length+ys.length*(w+h+4)+xs.length*(P*(w+h+4))<=f.length*(P*(w+h+4))/\∀ d∈c,isZ (8*n+20) w h d) ?_ ?_ _ _ ⟨c,b,rfl,λ_ m=>m,by rw[qy,DM.zJh];omega,g⟩
  .rintro y ys G ⟨c,b,rfl,q,i,g⟩;obtain⟨s,r,rfl⟩:=mem_map.mp (q y q0);obtain⟨M,K⟩:=DM.zJg r;rw[xX,Nat.succ_mul] at i;refine⟨_,rfl,?_⟩;(walk_at "s");refine zAG (zTQ rfl (zAL C (zAH (zAN rfl (n_cl (zAH (zAN rfl (n_cl (zAH (zAN rfl (n_cl (zAn ?_))))))))))));refine L w h s n _ (l _ M) (l _ K) (by omega) (by omega) (by omega) λds O A=>?_
   refine n_fr ⟨_,rfl,by omega,zDo ⟨_,_,rfl,λz m=>q z (qY _ m),by rw[List.length_append];omega,λd m=>(mem_append.mp m).elim (g d) (A d)⟩⟩
  .rintro G ⟨c,b,rfl,_,i,g⟩;exact k_nx (zDo ⟨c,_,b,rfl,λz m=>o z (qY _ m),by omega,g⟩)
 .rintro G ⟨c,a,b,rfl,_,i,g⟩;refine k_nx ?_;(walk_at "w");exact F _ (by omega) g
noncomputable def rowB (np nt ng:Nat):S:=.cons (.set 2 (.lst .nil)) (.cons (.set 3 (.glob ng "NOUGHT")) (.cons (.for1 4 (.r1 (.bin .Sub (.len (.var 0)) (.int 1))) (.cons (.set 3 (.call np "plus" (.cons (.var 3) (.cons (.call nt "total" (.cons (.ix (.var 0) (.var 4)) .nil)) .nil)))) (.cons (.app 2 (.call np "plus" (.cons (.var 3) (.cons (.call nt "total" (.cons (.ix (.var 1) (.bin .Add (.var 4) (.int 1))) .nil)) .nil)))) .nil))) (.cons (.retOwn 2) .nil)))
def RowF (F:List D->Option R):Prop:=∀ (fs gs:List D) (w L B:Nat) (Q:R->Prop),fs.length=w+1->gs.length=w+1->w<=12->L<=5000->L*(B+1)<=4000000->(∀ d∈fs++gs,∃ f:List Rat,d=zCz f/\f.length<=L/\∀ q∈f,RB B q)->(∀ qs:List Rat,qs.length=w->(∀ q∈qs,RB ((w+1)*(L*(B+1)+2)+1) q)->Q (zCz qs,.fr))->EvP (F [.lst fs,.lst gs]) Q
def zNq (h:f.length<=L/\∀ q∈f,RB B q):WB f (f.length*(B+1))/\f.length*(B+1)<=L*(B+1)/\RB (L*(B+1)+1) (DM.sumR f):=by
 have a:=zNo h.2;have b:f.length*(B+1)<=L*(B+1):=mul_le_mul_right _ h.1;exact⟨a,b,(zNn a).mono (Nat.succ_le_succ b)⟩
def zRJ (ep:J.fns[np]?=some (("plus":Str),Fp))(et:J.fns[nt]?=some (("total":Str),Ft))(R:J.cs[ng]?=some (("NOUGHT":Str),.tup [.int 0,.int 1]))(hp:zGu Fp)(u:zLq Ft):RowF (dFun 2 5 (evSs J (rowB np nt ng))):=λfs v w L B Q lf lg T X S r O=>by
 (walk_at "d");unfold rowB;(walk_at "st");refine zAG ?_;(walk_at "e");refine zAG (zCc (zCC R ?_));(walk_at "e");refine zAG (zFw (zMC (zAi (zEa (zAN rfl (zSC (zAh (zTj ?_))))))));refine⟨_,rfl,by omega,?_⟩;rw[show ((fs.length:Int) - 1).toNat=w by omega];generalize hM:L*(B+1)=M at *;refine zE9 (λxs G=>∃ (j:Nat) (o:Option (D×Bool)) (q:Rat) (b:List Rat),G=[some (.lst fs,false),some (.lst v,false),some (zCz b,true),some (ratD q,false),o]/\xs=(rngL 0 w).drop j/\j<=w/\b.length=j/\RB (1+j*(M+2)) q/\∀ q∈b,RB ((w+1)*(M+2)+1) q) ?_ ?_ _ _ ⟨0,none,0,[],rfl,rfl,zero_le _,rfl,zA3.mono (by omega),by simp⟩
 .rintro x xs G ⟨j,o,q,b,rfl,a,A,p,rb,hq⟩;obtain⟨n,rfl,rfl⟩:=zRL a.symm;obtain⟨d,F,W⟩:=zF6 (ds:=fs) (k:=j) (by omega) (by omega);obtain⟨e,V,H⟩:=zF6 (ds:=v) (k:=(j:Int)+1) (by omega) (by omega);obtain⟨f,rfl,i⟩:=r d (xJ _ F);obtain⟨g,rfl,c⟩:=r e (q9 _ V);obtain⟨E,N,t⟩:=zNq i;obtain⟨U,P,C⟩:=zNq c;rw[hM] at N t P C;have Y:=i.1;have l2:=c.1;have K:(j+1)*(M+2)<=w*(M+2):=mul_le_mul_right _ n;have Z:w*(M+2)<=12*(M+2):=mul_le_mul_right _ T;have h:=zCL rb t;have l:=zCL h C;rw[Nat.succ_mul] at K;refine⟨_,rfl,?_⟩;(walk_at "s");refine zAG ?_;(walk_at "e");refine zA5 W ?_;(walk_at "e");refine u f _ _ E (by omega) (by omega) ?_;(walk_at "e");refine zAG (zIL rfl (by rw[qy];omega) ?_);(walk_at "e");refine zA5 H ?_;(walk_at "e");refine u g _ _ U (by omega) (by omega) ?_;(walk_at "e");refine zDo ⟨j+1,_,_,b++[_],by unfold zCz;rw[xY];rfl,rfl,by omega,by simp[p],h.mono (by rw[Nat.succ_mul];omega),λz m=>(mem_append.mp m).elim (hq z) λy=>mem_singleton.mp y▸l.mono (by rw[Nat.succ_mul];omega)⟩
 .rintro G ⟨j,o,q,b,rfl,a,A,p,rb,hq⟩;obtain rfl:=zOt a A;refine k_nx ?_;(walk_at "w");exact O _ p hq
def zMX (a:List Rat):noLs (a.map ratD)=true:=by
 induction a with
 | nil=>rfl
 | cons q a b=>rw[map_cons,noLs,b];rfl
def zQw (N:AllF Fa)(G:zNl Ff)(o:zLu Fr)(R:RowF Fw)(fb:FlB n P w h rs)(y:(w+1)*(rs.length*(P*(w+h+4))*(48*n+161)+2) < B)(J:rs.length*(P*(w+h+4))*(48*n+161)<=4000000) :
  ∃ T:List (List Rat),(T.length=h/\∀ qs∈T,qs.length=w/\∀ q∈qs,RB B q)/\∃ zs,ZOk Fa Ff Fr Fw w h (zBc rs) zs λr=>(T.getD r []).map ratD:=by
 obtain⟨x,I,ds,rfl,E,O⟩:=N n P w h rs (λx=>∃ ds:List D,x=(.lst ds,.fr)/\ds.length<=rs.length*(P*(w+h+4))/\∀ d∈ds,isZ (8*n+20) w h d) fb λds l p=>⟨ds,rfl,l,p⟩
 have t:=fb.w2;have h2:=fb.h2;have u:=fb.b;have U:rs.length*(P*(w+h+4))<=6*(12*28):=Nat.mul_le_mul fb.m (Nat.mul_le_mul fb.p (by omega));generalize rs.length*(P*(w+h+4))=M at *;obtain⟨zs,rfl,k⟩:=zLD (f:=Pz.d) (P:=λz=>PzB w h z/\Ff [z.d]=some (z.f,.cl)/\Fr [z.d]=some (z.g,.cl)/\isR (48*n+160) z.f/\isR (48*n+160) z.g) (ds:=ds) λd m=>by
  obtain⟨c,r,p,q,rfl,H,F,S,r1,v,s⟩:=O d m;obtain⟨_,C,f,rfl,j⟩:=G c r p q _ (λx=>∃ f,x=(ratD f,.cl)/\RB (48*n+160) f) v s u (by omega) λf j=>⟨f,rfl,j.mono (by omega)⟩
  obtain⟨_,L,g,rfl,A⟩:=o c r p q _ (λx=>∃ f,x=(ratD f,.cl)/\RB (48*n+160) f) v s u (by omega) λf j=>⟨f,rfl,j.mono (by omega)⟩
  exact⟨⟨c,r,ptD p,ptD q,ratD f,ratD g⟩,rfl,⟨S,r1,H,F,rfl,rfl,rfl⟩,C,L,⟨f,rfl,j⟩,g,rfl,A⟩
 rw[qy] at E;have fr:∀ (p:Pz->D),(∀ z∈zs,isR (48*n+160) (p z))->∀ r c,∃ f:List Rat,D.lst (fc p zs r c)=zCz f/\f.length<=M/\∀ q∈f,RB (48*n+160) q:=λp Q r c=>by
  obtain⟨f,e,b⟩:=zLD (f:=ratD) (P:=RB (48*n+160)) (ds:=fc p zs r c) λd m=>by
   obtain⟨z,K,rfl⟩:=mem_map.mp m;exact Q z (mem_filter.mp K).1
  refine⟨f,congrArg _ e,?_,b⟩;have:=congrArg List.length e;rw[qy] at this;have:=zOR (p:=p) zs r c;omega
 have i:∀ r,∃ qs:List Rat,Fw [.lst ((List.range (w+1)).map λc=>.lst (fc Pz.f zs r c)),.lst ((List.range (w+1)).map λc=>.lst (fc Pz.g zs r c))]=some (zCz qs,.fr)/\qs.length=w/\∀ q∈qs,RB B q:=λr=>by
  obtain⟨_,e,qs,rfl,q⟩:=R ((List.range (w+1)).map λc=>.lst (fc Pz.f zs r c)) ((List.range (w+1)).map λc=>.lst (fc Pz.g zs r c)) w M (48*n+160) (λx=>∃ qs:List Rat,x=(zCz qs,.fr)/\qs.length=w/\∀ q∈qs,RB B q) (by simp) (by simp) t (by omega) J (λd m=>by
   rcases mem_append.mp m with m | m<;>(obtain⟨c,_,rfl⟩:=mem_map.mp m)
   .exact fr Pz.f (λz m=>(k z m).2.2.2.1) r c
   .exact fr Pz.g (λz m=>(k z m).2.2.2.2) r c) λqs l b=>⟨qs,rfl,l,λq m=>(b q m).mono y⟩
  exact⟨qs,e,q⟩
 refine⟨(List.range h).map λr=>(i r).choose,⟨by simp,λqs m=>?_⟩,zs,⟨t,h2,by omega,I,λz m=>(k z m).1,λz m=>(k z m).2.1,λz m=>(k z m).2.2.1,λr o=>?_,λr o=>zMX _⟩⟩
 .obtain ⟨r,_,rfl⟩:=mem_map.mp m;exact(i r).choose_spec.2
 .rw [getD_eq_getElem?_getD,getElem?_map,getElem?_range o];exact(i r).choose_spec.1
end DL
end
section
namespace DL
open PySem Spec PyProof.Rows L2
section
variable {J:Gm}{U:Dm}{s:Mst}
def zHR (h:EvP (evM J U a s) λx=>∃ c ns l w,x.1=.obj c ns l/\(c,fl,none)∈J.ob/\(ns.zip l).lookup fl=some w/\Q (w,x.2)):EvP (evM J U (.fld a fl) s) Q:=by
 obtain⟨⟨x,m⟩,e,c,ns,l,w,rfl,h1,h2,q⟩:=h;refine⟨_,?_,q⟩;show fldM J.ob fl _ s=_;unfold fldM;rw[e,qx]
 simp_all
def zLG (h:EvP (evE J a G) λx=>∃ c ns l d,x.1=.obj c ns l/\(c,fl,none)∈J.ob/\(ns.zip l).lookup fl=some d/\Q (d,.cl)):EvP (evE J (.fld a fl) G) Q:=by
 obtain⟨⟨x,k⟩,e,c,ns,l,d,rfl,h1,h2,q⟩:=h;refine⟨_,?_,q⟩;show one _ _ G=_;unfold one;rw[e];show (if _∈J.ob then _ else _)=_
 simp_all
def zMb (h:EvP (evM J U a s) λx=>∃ c n y F,clsW m x.1=some c/\ix.lookup c=some n/\U[n]?=some (y,F)/\spec.lookup y=some (.mth c m)/\EvP (evMs J U es ⟨s.G,x.2⟩) λws=>EvP (F (x.1::ws.1) ws.2) Q):EvP (evM J U (.mth ix m a es) s) Q:=by
 obtain⟨x,f,c,n,y,F,i,g,b,d,ws,j,r,e,q⟩:=h;refine⟨r,?_,q⟩;show mthM U ix m _ _ s=_;unfold mthM
 simp_all
def m_mk (f:U[n]?=some (y,F))(a:spec.lookup y=some (.mk c kw))(h:EvP (evMs J U es s) λws=>EvP (F (ws.1++zPM d) ws.2) Q):EvP (evM J U (.mk n c kw d es) s) Q:=by
 obtain⟨ws,e,r,b,q⟩:=h;refine⟨r,?_,q⟩;show mkM U n c kw d _ s=_;unfold mkM
 simp_all
def zR2 (h:EvP (evM J U a s) λx=>EvP (evM J U b ⟨s.G,x.2⟩) λy=>∃ n i ws,x.1=.loc n/\y.1=.dat (.int i)/\y.2[n]?=some ws/\Q (.loc y.2.length,y.2++[cutW ws (if u then none else some i) (if u then some i else none)])):EvP (evM J U (.slc u a b) s) Q:=by
 obtain⟨x,e,y,g,n,i,ws,j,d,f,q⟩:=h;refine⟨_,?_,q⟩;show slcM u (evM J U a) (evM J U b) s=_;unfold slcM;rw[e];show (evM J U b _).bind _=_;rw[g];obtain⟨k,m⟩:=x;obtain⟨l,c⟩:=y;subst j d;show (c[n]?).bind _=_;rw[f]
 rfl
def zR3 (h:EvP (evM J U a s) λx=>∃ n ws,x.1=.loc n/\x.2[n]?=some ws/\Q (.loc x.2.length,x.2++[ws])):EvP (evM J U (.lcp a) s) Q:=by
 obtain⟨⟨x,m⟩,e1,n,ws,rfl,e2,q⟩:=h;refine⟨_,?_,q⟩;show lcpM _ s=_;unfold lcpM;rw[e1,qx]
 simp_all
def zRE (h:EvP (evM J U t s) λx=>∃ n ws,x.1=.loc n/\x.2[n]?=some ws/\Q (.nx ⟨s.G,x.2.set n ws.reverse⟩)):EvP (evS' J U (.rev t) s) Q:=by
 obtain⟨⟨x,m⟩,e1,n,ws,rfl,e2,q⟩:=h;refine⟨_,?_,q⟩;show lm0M _ List.reverse s=_;unfold lm0M;rw[e1,qx]
 simp_all
def zET {c:Str}{n:Nat}{L:List (Str×(Mst->Option MR))}{a:List W}{B:Mem}{Q:MR->Prop}(h1:a.length=n)(b:mutK (L.map (·.1))=false)(h:EvP (zDa L ⟨none::a.map some,B⟩) λz=>Q (.obj c (L.map (·.1)) z.1,z.2)):EvP (zEr c n L a B) Q:=by
 obtain⟨z,e,q⟩:=h;exact⟨_,by unfold zEr;rw[if_pos h1,e];unfold mkR;rw[b];rfl,q⟩
def zBf (h:EvP (g s) λw=>EvP (zDa r ⟨s.G,w.2⟩) λz=>Q (w.1::z.1,z.2)):EvP (zDa ((x,g)::r) s) Q:=by
 obtain⟨w,b,z,a,q⟩:=h;exact⟨_,by unfold zDa;dsimp only;rw[b,qx,a];rfl,q⟩
def zGZ (h:Q ([],s.B)):EvP (zDa [] s) Q:=⟨_,rfl,h⟩
end
end DL
end
section
namespace DL
open PySem L2
end DL
end
open PySem L2 DL
local macro_rules | `(tactic| walk_at "mw")=>`(tactic| first
 | (with_reducible first | refine zAK ?_ | refine zBw ?_ | refine zCu ?_ | refine zG3 ?_ | refine zBz ?_ | refine zDj ?_ | refine zHu ?_ | refine zDS ?_ | refine zBB rfl ?_ | refine zQ2 rfl ?_ | refine zAF ?_) | ((with_reducible refine zAz ?_);try dsimp only) | with_reducible refine⟨_,_,zAk,zAk,?_⟩ | (with_reducible first | refine zKb ?_ | refine m_ix ?_ | refine zCR ?_ | refine zMb ?_ | refine zDR ?_) | ((with_reducible show EvP (evM _ _ (DL.ME.mk _ _ _ _ _) _) _);refine m_mk rfl (by decide +kernel) ?_)
 | ((with_reducible refine zA4 ?_);try (walk_at "s")) | with_reducible refine zEP ?_
 | ((with_reducible show EvP (evM _ _ (DL.ME.var _) _) _);refine zAR rfl ?_)
 | ((with_reducible show EvP (evE _ (DL.E.var _) (drS _ _)) _);first | refine zAN (zAc rfl zAk) ?_ | refine zAN (zAc rfl (by assumption)) ?_)
 | ((with_reducible show EvP (evM _ _ (DL.ME.call _ _ _) _) _);refine zBN rfl ?_)
 | ((with_reducible show EvP (zF7 (_,DL.Kd.cl) _) _);refine zBS rfl ?_)
 | ((with_reducible show EvP (zF7 (DL.D.lst _,DL.Kd.fr) _) _);refine zJH rfl ?_)
 | with_reducible refine zBD (by first | decide | omega) ?_ | with_reducible refine zCP (zBh (by decide) (by decide)) ?_ | with_reducible refine zBC (zEJ (by decide)) ?_ | with_reducible refine zBC (zCX (by decide)) ?_
 | walk_at "ev")
section
namespace DL
open PySem L2
end DL
end
open PySem L2 DL
local macro_rules | `(tactic| walk_at "f")=>`(tactic| exact ⟨rfl,rfl,rfl,by decide +kernel,rfl,by decide +kernel,by decide +kernel⟩)
section
namespace Q
open PySem L2 DL
noncomputable def top (i:Nat):Stmt:=PySem.Challenge.pw_coverfill_k34_touched.main.body.getD i (.Pass ⟨0,0,0,0⟩)
noncomputable def bs:List Str:=["abs","len","range","list","tuple","zip","reversed","max","isinstance","bool","int"]
noncomputable def b0:S:=zPU
noncomputable def b1:S:=.cons (.ife (.cmp .Eq (.var 1) (.int 0)) (.cons (.rse "NoRatio" (.str "the bottom of a ratio is not 0")) .nil) .nil) (.cons (.set 2 (.call 0 "common_measure" (.cons (.abs (.var 0)) (.cons (.abs (.var 1)) .nil)))) (.cons (.ife (.cmp .Lt (.var 1) (.int 0)) (.cons (.set 2 (.neg (.var 2))) .nil) .nil) (.cons (.ret (.tup (.cons (.bin .FloorDiv (.var 0) (.var 2)) (.cons (.bin .FloorDiv (.var 1) (.var 2)) .nil)))) .nil)))
noncomputable def b2:S:=zO2 "ratio" 1
noncomputable def b3:S:=zKa "ratio" 1
noncomputable def b4:S:=zJU "ratio" 1
noncomputable def b5:S:=zHK "ratio" 1
noncomputable def b6:S:=zPP 2
noncomputable def b7:S:=zJS 6 0
noncomputable def b8:S:=zJO
noncomputable def b9:S:=.cons (.ife (.call 8 "under" (.cons (.var 0) (.cons (.var 1) .nil))) (.cons (.ret (.var 1)) .nil) .nil) (.cons (.ife (.call 8 "under" (.cons (.var 2) (.cons (.var 0) .nil))) (.cons (.ret (.var 2)) .nil) .nil) (.cons (.ret (.var 0)) .nil))
noncomputable def b10:S:=wpB
noncomputable def b11:S:=.cons (.ret (.call 9 "between" (.cons (.var 0) (.cons (.glob 0 "NOUGHT") (.cons (.glob 2 "ONE") .nil))))) .nil
noncomputable def b12:S:=zLf 2 0
noncomputable def b13:S:=zRM 3 2
noncomputable def b14:S:=zPR 4
noncomputable def b15:S:=zOr 14 2
noncomputable def b16:S:=inkB 13 14
noncomputable def b17:S:=rubB 13 0
noncomputable def b18:S:=zPd 4 15
noncomputable def b19:S:=mixB 2 13 4 14
noncomputable def b20:S:=zLo 14 13
noncomputable def b21:S:=zJi
noncomputable def N22:List Str:=["start","end","last"]
noncomputable def P22:List Str:=["start","end","last"]
noncomputable def b22:S:=zPL 8 22
def sc22:zAV N22 P22 (zAA (top 32)):=by (walk_at "f")
def ck22:cSs (zAA (top 32)) N22 bs b22 (zAE (top 32))=true:=by decide +kernel
noncomputable def b23:S:=zJs 5 3 2 4
noncomputable def b24:S:=.cons (.set 2 (.ix (.var 0) (.int 0))) (.cons (.set 3 (.ix (.var 0) (.int 1))) (.cons (.set 4 (.call 22 "numbers_between" (.cons (.ix (.var 2) (.int 0)) (.cons (.ix (.var 3) (.int 0)) (.cons (.var 1) .nil))))) (.frz 4 (.cons (.set 5 (.call 23 "rests_at" (.cons (.var 4) (.cons (.ix (.var 2) (.int 0)) (.cons (.ix (.var 3) (.int 0)) (.cons (.ix (.var 2) (.int 1)) (.cons (.ix (.var 3) (.int 1)) .nil))))))) (.frz 4 (.frz 5 (.cons (.ret (.comp1 6 [] "k" (.r1 (.len (.var 4))) .nil (.tup (.cons (.tup (.cons (.ix (.var 4) (.var 6)) (.cons (.int 1) .nil))) (.cons (.ix (.var 5) (.var 6)) .nil))))) .nil)))))))
noncomputable def b25:S:=.cons (.set 2 (.ix (.var 0) (.int 0))) (.cons (.set 3 (.ix (.var 0) (.int 1))) (.cons (.set 4 (.call 22 "numbers_between" (.cons (.ix (.var 2) (.int 1)) (.cons (.ix (.var 3) (.int 1)) (.cons (.var 1) .nil))))) (.frz 4 (.cons (.set 5 (.call 23 "rests_at" (.cons (.var 4) (.cons (.ix (.var 2) (.int 1)) (.cons (.ix (.var 3) (.int 1)) (.cons (.ix (.var 2) (.int 0)) (.cons (.ix (.var 3) (.int 0)) .nil))))))) (.frz 4 (.frz 5 (.cons (.ret (.comp1 6 [] "k" (.r1 (.len (.var 4))) .nil (.tup (.cons (.ix (.var 5) (.var 6)) (.cons (.tup (.cons (.ix (.var 4) (.var 6)) (.cons (.int 1) .nil))) .nil))))) .nil)))))))
noncomputable def b26:S:=zLp 8
noncomputable def b27:S:=.cons (.set 3 (.lst .nil)) (.cons (.set 4 (.int 0)) (.cons (.for1 5 (.it (.var 0)) (.cons (.whl (.andl (.cons (.cmp .Lt (.var 4) (.len (.var 1))) (.cons (.call 26 "comes_ahead" (.cons (.ix (.var 1) (.var 4)) (.cons (.var 5) (.cons (.var 2) .nil)))) .nil))) (.cons (.app 3 (.ix (.var 1) (.var 4))) (.cons (.aug .Add 4 (.int 1)) .nil))) (.cons (.ife (.andl (.cons (.cmp .Lt (.var 4) (.len (.var 1))) (.cons (.cmp .Eq (.ix (.var 1) (.var 4)) (.var 5)) .nil))) (.cons (.aug .Add 4 (.int 1)) .nil) .nil) (.cons (.app 3 (.var 5)) .nil)))) (.cons (.ret (.bin .Add (.var 3) (.sl (.var 1) (.cons (.var 4) .nil) .nil))) .nil)))
noncomputable def b28:S:=zJb 27 24 25 8
noncomputable def b29:S:=midB 4 2 1
noncomputable def b30:S:=pcB 10 29
noncomputable def b31:S:=onB
noncomputable def b32:S:=zHI 28 30 31
noncomputable def b33:S:=zQK 3
noncomputable def b34:S:=zJr 0 4 33 3 29
noncomputable def mb35:MT:=zLS
noncomputable def b35:S:=.cons (.ret (.comp1 1 [] "k" (.r1 (.var 0)) .nil (.lst .nil))) .nil
noncomputable def b36:S:=allB 21 32
noncomputable def b37:S:=rowB 2 7 0
noncomputable def mb38:MT:=zG6 36 33 34 37 0
noncomputable def mb39:MT:=.cons (.ret (.comp 1 [] "ring" (.it (.var 0)) (.pur (.list (.var 1))))) .nil
noncomputable def b40:S:=.cons (.ret (.ite (.cmp .Is (.var 0) .non) (.glob 2 "ONE") (.var 0))) .nil
noncomputable def mb41:MT:=.cons (.ret (.comp 2 [] "row" (.it (.var 0)) (.comp 3 [] "one" (.it (.var 2)) (.pur (.callv 1 (.var 3)))))) .nil
noncomputable def mb42:MT:=.cons (.set 3 (.lst .nil)) (.cons (.for1 4 (.rng (.pur (.len (.var 0)))) (.cons (.app (.var 3) (.comp 5 [] "column" (.rng (.pur (.len (.ix (.var 0) (.var 4))))) (.pur (.callw 2 (.cons (.ix (.ix (.var 0) (.var 4)) (.var 5)) (.cons (.ix (.ix (.var 1) (.var 4)) (.var 5)) .nil)))))) .nil)) (.cons (.ret (.var 3)) .nil))
noncomputable def mb43:MT:=.cons (.ret (.call 3 "each_changed" (.cons (.call 1 "shares" (.cons (.var 0) (.cons (.var 1) (.cons (.var 2) .nil)))) (.cons (.pur (.glob 3 "cover")) .nil)))) .nil
noncomputable def N44:List Str:=["width","height","shape","strength"]
noncomputable def P44:List Str:=["width","height","shape","strength"]
def sc44:zAV N44 P44 (zAA (top 56)):=by (walk_at "f")
noncomputable def mb45:MT:=.cons (.ret (.comp 2 [] "row" (.rng (.var 1)) (.comp 3 [] "column" (.rng (.var 0)) (.pur (.call 12 "clear_film" .nil))))) .nil
noncomputable def mb46:MT:=.cons (.set 3 (.call 7 "clear_films" (.cons (.var 0) (.cons (.var 1) .nil)))) (.cons (.for1 4 (.it (.var 2)) (.cons (.set 3 (.call 4 "put_together" (.cons (.mth [("Fill",14),("Rub",15),("Masked",16)] "films" (.var 4) (.cons (.var 0) (.cons (.var 1) .nil))) (.cons (.var 3) (.cons (.pur (.glob 4 "joined")) .nil))))) .nil)) (.cons (.ret (.var 3)) .nil))
noncomputable def mb47:MT:=.cons (.set 1 (.lst .nil)) (.cons (.for1 2 (.rng (.pur (.len (.var 0)))) (.cons (.for1 3 (.rng (.pur (.len (.ix (.var 0) (.var 2))))) (.cons (.ife (.pur (.cmp .NotEq (.ix (.ix (.var 0) (.var 2)) (.var 3)) (.call 12 "clear_film" .nil))) (.cons (.app (.var 1) (.pur (.tup (.cons (.var 3) (.cons (.var 2) .nil))))) .nil) .nil) .nil)) .nil)) (.cons (.ret (.var 1)) .nil))
noncomputable def b48:S:=zQl
noncomputable def b49:S:=zJK
noncomputable def b50:S:=zG2
noncomputable def b51:S:=lowB
noncomputable def b52:S:=.cons (.set 1 (.bin .Add (.int 1) (.bin .Mod (.var 0) (.int 6)))) (.cons (.set 2 (.bin .FloorDiv (.var 0) (.int 6))) (.cons (.ife (.cmp .Eq (.bin .Mod (.var 2) (.int 7)) (.int 0)) (.cons (.ret (.tup (.cons (.int 0) (.cons (.int 1) .nil)))) .nil) .nil) (.cons (.ife (.cmp .Eq (.bin .Mod (.var 2) (.int 7)) (.int 1)) (.cons (.ret (.tup (.cons (.int 1) (.cons (.int 1) .nil)))) .nil) .nil) (.cons (.ret (.call 51 "_law_low" (.cons (.bin .Mod (.bin .Mult (.bin .FloorDiv (.var 2) (.int 9)) (.int 48271)) (.bin .Add (.var 1) (.int 1))) (.cons (.var 1) .nil)))) .nil))))
noncomputable def b53:S:=.cons (.set 2 (.ix (.lst (.cons (.int 1) (.cons (.int 2) (.cons (.int 4) (.cons (.int 3) .nil))))) (.bin .Mod (.var 0) (.int 4)))) (.frz 2 (.cons (.ret (.call 51 "_law_low" (.cons (.bin .Sub (.bin .Mod (.bin .FloorDiv (.var 0) (.int 4)) (.bin .Add (.bin .Mult (.var 2) (.bin .Add (.var 1) (.int 2))) (.int 1))) (.var 2)) (.cons (.var 2) .nil)))) .nil))
noncomputable def b54:S:=.cons (.set 3 (.bin .Sub (.bin .Mod (.ix (.var 0) (.int 0)) (.bin .Add (.var 1) (.int 1))) (.int 1))) (.cons (.set 4 (.bin .Sub (.bin .Mod (.ix (.var 0) (.int 1)) (.bin .Add (.var 2) (.int 1))) (.int 1))) (.cons (.set 5 (.bin .Add (.bin .Add (.var 3) (.int 1)) (.bin .Mod (.ix (.var 0) (.int 2)) (.bin .Add (.var 1) (.int 1))))) (.cons (.set 6 (.bin .Add (.bin .Add (.var 4) (.int 1)) (.bin .Mod (.ix (.var 0) (.int 3)) (.bin .Add (.var 2) (.int 1))))) (.cons (.ret (.lst (.cons (.tup (.cons (.tup (.cons (.var 3) (.cons (.int 1) .nil))) (.cons (.tup (.cons (.var 4) (.cons (.int 1) .nil))) .nil))) (.cons (.tup (.cons (.tup (.cons (.var 5) (.cons (.int 1) .nil))) (.cons (.tup (.cons (.var 4) (.cons (.int 1) .nil))) .nil))) (.cons (.tup (.cons (.tup (.cons (.var 5) (.cons (.int 1) .nil))) (.cons (.tup (.cons (.var 6) (.cons (.int 1) .nil))) .nil))) (.cons (.tup (.cons (.tup (.cons (.var 3) (.cons (.int 1) .nil))) (.cons (.tup (.cons (.var 6) (.cons (.int 1) .nil))) .nil))) .nil)))))) .nil))))
noncomputable def mb55:MT:=.cons (.set 3 (.pur (.bin .Add (.bin .Mod (.var 0) (.int 2147483646)) (.int 1)))) (.cons (.set 4 (.lst .nil)) (.cons (.for1 5 (.rng (.ix (.pur (.lst (.cons (.int 1) (.cons (.int 1) (.cons (.int 1) (.cons (.int 1) (.cons (.int 0) (.cons (.int 1) (.cons (.int 1) (.cons (.int 1) .nil)))))))))) (.pur (.bin .Mod (.var 0) (.int 8))))) (.cons (.set 6 (.lst .nil)) (.cons (.for1 7 (.rng (.pur (.int 9))) (.cons (.set 3 (.pur (.bin .Mod (.bin .Mult (.var 3) (.int 48271)) (.int 2147483647)))) (.cons (.app (.var 6) (.pur (.bin .FloorDiv (.var 3) (.int 11)))) .nil))) (.cons (.ife (.pur (.cmp .Eq (.bin .Mod (.bin .FloorDiv (.var 0) (.int 8)) (.int 3)) (.int 0))) (.cons (.app (.var 4) (.pur (.call 54 "_law_box" (.cons (.var 6) (.cons (.var 1) (.cons (.var 2) .nil)))))) .nil) (.cons (.set 8 (.lst .nil)) (.cons (.for1 7 (.rng (.pur (.bin .Add (.int 3) (.bin .Mod (.ix (.var 6) (.int 8)) (.int 2))))) (.cons (.app (.var 8) (.pur (.tup (.cons (.call 53 "_law_at" (.cons (.ix (.var 6) (.bin .Mult (.int 2) (.var 7))) (.cons (.var 1) .nil))) (.cons (.call 53 "_law_at" (.cons (.ix (.var 6) (.bin .Add (.bin .Mult (.int 2) (.var 7)) (.int 1))) (.cons (.var 2) .nil))) .nil))))) .nil)) (.cons (.app (.var 4) (.var 8)) .nil)))) .nil)))) (.cons (.ret (.var 4)) .nil)))
noncomputable def b56:S:=.cons (.ret (.tup (.cons (.bin .Mod (.var 0) (.int 256)) (.cons (.ix (.lst (.cons (.int 255) (.cons (.int 0) (.cons (.bin .Mod (.bin .FloorDiv (.var 0) (.int 3)) (.int 256)) .nil)))) (.bin .Mod (.bin .FloorDiv (.var 0) (.int 256)) (.int 3))) (.cons (.bin .Mod (.bin .FloorDiv (.var 0) (.int 7)) (.int 256)) .nil))))) .nil
noncomputable def mb57:MT:=.cons (.set 3 (.lst .nil)) (.cons (.set 4 (.mth [("Fill",14),("Rub",15),("Masked",16),("Join",18),("Group",19)] "films" (.var 0) (.cons (.var 1) (.cons (.var 2) .nil)))) (.cons (.for1 5 (.rng (.var 2)) (.cons (.for1 6 (.rng (.var 1)) (.cons (.set 7 (.ix (.ix (.var 4) (.var 5)) (.var 6))) (.cons (.ife (.pur (.orl (.cons (.cmp .NotEq (.ix (.var 7) (.int 0)) (.tup (.cons (.int 1) (.cons (.int 1) .nil)))) (.cons (.cmp .NotEq (.ix (.var 7) (.int 1)) (.tup (.cons (.int 0) (.cons (.int 1) .nil)))) .nil)))) (.cons (.app (.var 3) (.pur (.tup (.cons (.var 6) (.cons (.var 5) .nil))))) .nil) .nil) .nil))) .nil)) (.cons (.ret (.var 3)) .nil)))
noncomputable def mb58:MT:=.cons (.set 4 (.call 26 "_law_due" (.cons (.var 0) (.cons (.var 1) (.cons (.var 2) .nil))))) (.cons (.for1 5 (.rng (.var 3)) (.cons (.set 6 (.mth [("Fill",20),("Rub",21),("Masked",22),("Join",23),("Group",24)] "touched" (.var 0) (.cons (.var 1) (.cons (.var 2) .nil)))) (.cons (.ife (.pur (.orl (.cons (.not (.isi .list (.var 6))) (.cons (.cmp .NotEq (.var 6) (.var 4)) .nil)))) (.cons (.ret (.pur (.bl false))) .nil) .nil) (.cons (.for1 7 (.it (.var 6)) (.cons (.ife (.pur (.orl (.cons (.not (.isi .tuple (.var 7))) (.cons (.not (.call 49 "_law_whole" (.cons (.ix (.var 7) (.int 0)) .nil))) (.cons (.not (.call 49 "_law_whole" (.cons (.ix (.var 7) (.int 1)) .nil))) .nil))))) (.cons (.ret (.pur (.bl false))) .nil) .nil) .nil)) (.cons (.app (.var 6) (.pur (.tup (.cons (.int 0) (.cons (.int 0) .nil))))) (.cons (.rev (.var 6)) .nil)))))) (.cons (.ret (.pur (.bl true))) .nil))
noncomputable def N59:List Str:=["_law_script","_law_width","_law_height","_law_layers","_law_masked","_law_last","_law_k","_law_cell_here","_law_shape_here","_law_t","_law_whole_here","_law_layer","_law_often"]
noncomputable def P59:List Str:=["_law_script"]
noncomputable def mb59:MT:=.cons (.set 1 (.pur (.bin .Add (.int 1) (.bin .Mod (.call 48 "_law_cell" (.cons (.var 0) (.cons (.int 0) .nil))) (.int 4))))) (.cons (.set 2 (.pur (.bin .Add (.int 1) (.bin .Mod (.call 48 "_law_cell" (.cons (.var 0) (.cons (.int 1) .nil))) (.int 3))))) (.cons (.set 3 (.lst .nil)) (.cons (.set 4 (.lst .nil)) (.cons (.set 5 (.lst .nil)) (.cons (.for1 6 (.rng (.pur (.int 3))) (.cons (.set 7 (.pur (.call 50 "_law_spread" (.cons (.call 48 "_law_cell" (.cons (.var 0) (.cons (.bin .Add (.int 2) (.var 6)) .nil))) (.cons (.var 6) .nil))))) (.cons (.set 8 (.call 25 "_law_shape" (.cons (.pur (.bin .FloorDiv (.var 7) (.int 12))) (.cons (.var 1) (.cons (.var 2) .nil))))) (.cons (.set 9 (.pur (.call 52 "_law_part" (.cons (.call 50 "_law_spread" (.cons (.call 48 "_law_cell" (.cons (.var 0) (.cons (.bin .Add (.int 6) (.var 6)) .nil))) (.cons (.var 6) .nil))) .nil)))) (.cons (.ife (.pur (.cmp .Eq (.bin .Mod (.bin .FloorDiv (.var 7) (.int 3)) (.int 4)) (.int 0))) (.cons (.set 9 (.pur (.tup (.cons (.int 0) (.cons (.int 1) .nil))))) .nil) .nil) (.cons (.ife (.pur (.cmp .Eq (.bin .Mod (.var 7) (.int 3)) (.int 0))) (.cons (.app (.var 3) (.mk 10 "Rub" "strength" false (.cons (.var 8) (.cons (.var 9) .nil)))) .nil) (.cons (.app (.var 3) (.mk 9 "Fill" "strength" false (.cons (.var 8) (.cons (.pur (.call 56 "_law_ink" (.cons (.bin .FloorDiv (.var 7) (.int 5)) .nil))) (.cons (.var 9) .nil))))) .nil)) (.cons (.app (.var 4) (.mk 11 "Masked" "" false (.cons (.var 5) (.cons (.ix (.var 3) (.var 6)) .nil)))) (.cons (.set 5 (.var 8)) .nil)))))))) (.cons (.set 10 (.lst (.cons (.mk 12 "Join" "strength" true (.cons (.var 3) .nil)) (.cons (.mk 13 "Group" "strength" false (.cons (.slc false (.var 3) (.pur (.int 1))) (.cons (.pur (.tup (.cons (.int 1) (.cons (.int 2) .nil)))) .nil))) (.cons (.mk 12 "Join" "strength" false (.cons (.slc true (.var 4) (.pur (.int 2))) (.cons (.pur (.tup (.cons (.int 0) (.cons (.int 1) .nil)))) .nil))) (.cons (.mk 13 "Group" "strength" true (.cons (.lst .nil) .nil)) .nil)))))) (.cons (.for1 11 (.it (.cat (.cat (.var 3) (.var 4)) (.var 10))) (.amb 12 (.var 11) (.var 3) (.cons (.ife (.orl (.cons (.pur (.not (.iso "Layer" (.var 11)))) (.cons (.not (.call 27 "_law_good" (.cons (.var 11) (.cons (.var 1) (.cons (.var 2) (.cons (.var 12) .nil)))))) .nil))) (.cons (.ret (.pur (.bl false))) .nil) .nil) .nil))) (.cons (.for1 11 (.it (.lst (.cons (.ix (.var 3) (.pur (.int 0))) (.cons (.ix (.var 10) (.pur (.int 0))) .nil)))) (.cons (.ife (.orl (.cons (.not (.call 27 "_law_good" (.cons (.var 11) (.cons (.pur (.bin .Add (.var 2) (.int 1))) (.cons (.var 1) (.cons (.pur (.int 1)) .nil)))))) (.cons (.not (.call 27 "_law_good" (.cons (.var 11) (.cons (.var 1) (.cons (.var 2) (.cons (.pur (.int 1)) .nil)))))) .nil))) (.cons (.ret (.pur (.bl false))) .nil) .nil) .nil)) (.cons (.ret (.pur (.bl true))) .nil)))))))))
def zUG:cSs' (zAA (top 78)) N59 bs mb59 (zAE (top 78))=true:=by decide +kernel
def sc59:zAV N59 P59 (zAA (top 78)):=by (walk_at "f")
noncomputable def zGw:List Str:=["self","shape","ink","strength"]
noncomputable def zCi:List Str:=["self","shape","ink","strength"]
def zIm:zAV zGw zCi (zAA (zAB (top 61) 0)):=by (walk_at "f")
noncomputable def zDc:List (Str×ME):=[("shape",(.call 2 "own_shape" (.cons (.var 1) .nil))),("ink",(.var 2)),("strength",(.pur (.call 40 "strength_or_one" (.cons (.var 3) .nil))))]
def zHV:zF4 (zAA (zAB (top 61) 0)) zGw bs "self" zDc (zAE (zAB (top 61) 0))=true:=by decide +kernel
noncomputable def zId:List Str:=["self","shape","strength"]
noncomputable def zDO:List Str:=["self","shape","strength"]
def zJl:zAV zId zDO (zAA (zAB (top 62) 0)):=by (walk_at "f")
noncomputable def zEU:List (Str×ME):=[("shape",(.call 2 "own_shape" (.cons (.var 1) .nil))),("strength",(.pur (.call 40 "strength_or_one" (.cons (.var 2) .nil))))]
def zI2:zF4 (zAA (zAB (top 62) 0)) zId bs "self" zEU (zAE (zAB (top 62) 0))=true:=rfl
noncomputable def zEk:List Str:=["self","shape","layer"]
noncomputable def zC7:List Str:=["self","shape","layer"]
def zGL:zAV zEk zC7 (zAA (zAB (top 63) 0)):=by (walk_at "f")
noncomputable def zCY:List (Str×ME):=[("shape",(.call 2 "own_shape" (.cons (.var 1) .nil))),("layer",(.var 2))]
def zFq:zF4 (zAA (zAB (top 63) 0)) zEk bs "self" zCY (zAE (zAB (top 63) 0))=true:=by decide +kernel
noncomputable def zGv:List Str:=["self","layers","strength"]
noncomputable def zCg:List Str:=["self","layers","strength"]
def zIl:zAV zGv zCg (zAA (zAB (top 64) 0)):=by (walk_at "f")
noncomputable def zDb:List (Str×ME):=[("layers",(.lcp (.var 1))),("strength",(.pur (.call 40 "strength_or_one" (.cons (.var 2) .nil))))]
def zHU:zF4 (zAA (zAB (top 64) 0)) zGv bs "self" zDb (zAE (zAB (top 64) 0))=true:=by decide +kernel
noncomputable def zFO:List Str:=["self","layers","strength"]
noncomputable def zB4:List Str:=["self","layers","strength"]
def zG7:zAV zFO zB4 (zAA (zAB (top 65) 0)):=by (walk_at "f")
noncomputable def zC3:List (Str×ME):=[("layers",(.lcp (.var 1))),("strength",(.pur (.call 40 "strength_or_one" (.cons (.var 2) .nil))))]
def zGa:zF4 (zAA (zAB (top 65) 0)) zFO bs "self" zC3 (zAE (zAB (top 65) 0))=true:=by decide +kernel
noncomputable def zBA:List Str:=["self","width","height","thinned"]
noncomputable def zCj:List Str:=["self","width","height"]
def zFa:zAV zBA zCj (zAA (zAB (top 61) 1)):=⟨rfl,rfl,rfl,by decide +kernel,rfl,by decide +kernel,by decide +kernel⟩
noncomputable def zDl:MT:=.cons (.ret (.call 3 "each_changed" (.cons (.call 6 "thinned_covers" (.cons (.var 1) (.cons (.var 2) (.cons (.fld (.var 0) "shape") (.cons (.fld (.var 0) "strength") .nil))))) (.cons (.pur (.glob 5 "rub_film")) .nil)))) .nil
noncomputable def zEK:MT:=.cons (.ret (.call 4 "put_together" (.cons (.mth [("Fill",14),("Rub",15)] "films" (.fld (.var 0) "layer") (.cons (.var 1) (.cons (.var 2) .nil))) (.cons (.call 5 "covers" (.cons (.var 1) (.cons (.var 2) (.cons (.fld (.var 0) "shape") .nil)))) (.cons (.pur (.glob 6 "mixed")) .nil))))) .nil
noncomputable def zA9:List Str:=["self","width","height"]
noncomputable def zCh:List Str:=["self","width","height"]
def zFZ:zAV zA9 zCh (zAA (zAB (top 64) 1)):=by (walk_at "f")
noncomputable def zA1:List Str:=["self","width","height"]
noncomputable def zCJ:List Str:=["self","width","height"]
def zEp:zAV zA1 zCJ (zAA (zAB (top 65) 1)):=by (walk_at "f")
noncomputable def zAb:MT:=.cons (.ret (.call 8 "touched_cells" (.cons (.mth [("Fill",14),("Rub",15),("Masked",16),("Join",18),("Group",19)] "films" (.var 0) (.cons (.var 1) (.cons (.var 2) .nil))) .nil))) .nil
noncomputable def mp0:MT:=.nil
noncomputable def me0:ME:=(.call 5 "covers" (.cons (.var 0) (.cons (.var 1) (.cons (.var 2) .nil))))
def pck0:cPre (zAA (top 56)) N44 bs mp0 (zAE (top 56)).dropLast=true:=by decide +kernel
def eck0:cM me0 (zAA (top 56)) N44 bs (zDn (top 56))=true:=by decide +kernel
noncomputable def mp1:MT:=(.cons (.set 3 (.call 6 "thinned_covers" (.cons (.var 1) (.cons (.var 2) (.cons (.fld (.var 0) "shape") (.cons (.fld (.var 0) "strength") .nil)))))) .nil)
noncomputable def me1:ME:=(.var 3)
def pck1:cPre (zAA (zAB (top 61) 1)) zBA bs mp1 (zAE (zAB (top 61) 1)).dropLast=true:=rfl
def eck1:cM me1 (zAA (zAB (top 61) 1)) zBA bs (zDn (zAB (top 61) 1))=true:=rfl
noncomputable def mp2:MT:=.nil
noncomputable def me2:ME:=(.call 17 "joined_films" (.cons (.var 1) (.cons (.var 2) (.cons (.fld (.var 0) "layers") .nil))))
def pck2:cPre (zAA (zAB (top 64) 1)) zA9 bs mp2 (zAE (zAB (top 64) 1)).dropLast=true:=by decide +kernel
def eck2:cM me2 (zAA (zAB (top 64) 1)) zA9 bs (zDn (zAB (top 64) 1))=true:=by decide +kernel
noncomputable def mp3:MT:=.nil
noncomputable def me3:ME:=(.call 17 "joined_films" (.cons (.var 1) (.cons (.var 2) (.cons (.fld (.var 0) "layers") .nil))))
def pck3:cPre (zAA (zAB (top 65) 1)) zA1 bs mp3 (zAE (zAB (top 65) 1)).dropLast=true:=by decide +kernel
def eck3:cM me3 (zAA (zAB (top 65) 1)) zA1 bs (zDn (zAB (top 65) 1))=true:=by decide +kernel
noncomputable def G0:Gm:=⟨[],[("NOUGHT",.tup [.int 0,.int 1]),("HALF",.tup [.int 1,.int 2]),("ONE",.tup [.int 1,.int 1]),("cover",.fn 11 "cover"),("joined",.fn 18 "joined"),("rub_film",.fn 17 "rub_film"),("mixed",.fn 19 "mixed")],[],[],[],[],[("Fill","shape",none),("Fill","ink",none),("Fill","strength",none),("Rub","shape",none),("Rub","strength",none),("Masked","shape",none),("Masked","layer",none),("Join","layers",none),("Join","strength",none),("Group","layers",none),("Group","strength",none),("Fill","Layer",some true),("Rub","Layer",some true),("Masked","Layer",some true),("Join","Layer",some true),("Group","Layer",some true)]⟩
def F0:List D->Option R:=dFun 2 3 (evSs G0 b0)
def G1:Gm:=G0.add "common_measure" F0
def F1:List D->Option R:=dFun 2 3 (evSs G1 b1)
def G2:Gm:=G1.add "ratio" F1
def F2:List D->Option R:=dFun 2 2 (evSs G2 b2)
def G3:Gm:=G2.add "plus" F2
def F3:List D->Option R:=dFun 2 2 (evSs G3 b3)
def G4:Gm:=G3.add "minus" F3
def F4:List D->Option R:=dFun 2 2 (evSs G4 b4)
def G5:Gm:=G4.add "times" F4
def F5:List D->Option R:=dFun 2 2 (evSs G5 b5)
def G6:Gm:=G5.add "parted" F5
def F6:List D->Option R:=dFun 1 2 (evSs G6 b6)
def G7:Gm:=G6.add "neighbours_added" F6
def F7:List D->Option R:=dFun 1 2 (evSs G7 b7)
def G8:Gm:=G7.add "total" F7
def F8:List D->Option R:=dFun 2 2 (evSs G8 b8)
def G9:Gm:=G8.add "under" F8
def F9:List D->Option R:=dFun 3 3 (evSs G9 b9)
def G10:Gm:=G9.add "between" F9
def F10:List D->Option R:=dFun 1 1 (evSs G10 b10)
def G11:Gm:=G10.add "whole_part" F10
def F11:List D->Option R:=dFun 1 1 (evSs G11 b11)
def G12:Gm:=G11.add "cover" F11
def F12:List D->Option R:=dFun 0 0 (evSs G12 b12)
def G13:Gm:=G12.add "clear_film" F12
def F13:List D->Option R:=dFun 1 1 (evSs G13 b13)
def G14:Gm:=G13.add "rest_of" F13
def F14:List D->Option R:=dFun 2 2 (evSs G14 b14)
def G15:Gm:=G14.add "multiplied" F14
def F15:List D->Option R:=dFun 2 3 (evSs G15 b15)
def G16:Gm:=G15.add "seen" F15
def F16:List D->Option R:=dFun 2 2 (evSs G16 b16)
def G17:Gm:=G16.add "ink_film" F16
def F17:List D->Option R:=dFun 1 1 (evSs G17 b17)
def G18:Gm:=G17.add "rub_film" F17
def F18:List D->Option R:=dFun 2 2 (evSs G18 b18)
def G19:Gm:=G18.add "joined" F18
def F19:List D->Option R:=dFun 2 2 (evSs G19 b19)
def G20:Gm:=G19.add "mixed" F19
def F20:List D->Option R:=dFun 2 3 (evSs G20 b20)
def G21:Gm:=G20.add "alone" F20
def F21:List D->Option R:=dFun 1 1 (evSs G21 b21)
def G22:Gm:=G21.add "sides" F21
def zTp:Gm:=G22.add "numbers_between" (λ_=>none)
def zTq:List D->Option R:=dFun 3 3 (evSs zTp b22)
def zTo:Gm:=G22.add "numbers_between" zTq
def F22:List D->Option R:=dFun 3 3 (evSs zTo b22)
def G23:Gm:=G22.add "numbers_between" F22
def F23:List D->Option R:=dFun 5 6 (evSs G23 b23)
def G24:Gm:=G23.add "rests_at" F23
def F24:List D->Option R:=dFun 2 6 (evSs G24 b24)
def G25:Gm:=G24.add "upright_crossings" F24
def F25:List D->Option R:=dFun 2 6 (evSs G25 b25)
def G26:Gm:=G25.add "level_crossings" F25
def F26:List D->Option R:=dFun 3 3 (evSs G26 b26)
def G27:Gm:=G26.add "comes_ahead" F26
def F27:List D->Option R:=dFun 3 6 (evSs G27 b27)
def G28:Gm:=G27.add "made_one" F27
def F28:List D->Option R:=dFun 3 6 (evSs G28 b28)
def G29:Gm:=G28.add "stops" F28
def F29:List D->Option R:=dFun 2 2 (evSs G29 b29)
def G30:Gm:=G29.add "middle" F29
def F30:List D->Option R:=dFun 2 4 (evSs G30 b30)
def G31:Gm:=G30.add "piece_between" F30
def F31:List D->Option R:=dFun 3 3 (evSs G31 b31)
def G32:Gm:=G31.add "counts_on" F31
def F32:List D->Option R:=dFun 3 5 (evSs G32 b32)
def G33:Gm:=G32.add "pieces" F32
def F33:List D->Option R:=dFun 1 1 (evSs G33 b33)
def G34:Gm:=G33.add "fall" F33
def F34:List D->Option R:=dFun 1 2 (evSs G34 b34)
def G35:Gm:=G34.add "right" F34
def F35:List D->Option R:=dFun 1 1 (evSs G35 b35)
def G36:Gm:=G35.add "empty_lists" F35
def F36:List D->Option R:=dFun 3 6 (evSs G36 b36)
def G37:Gm:=G36.add "all_pieces" F36
def F37:List D->Option R:=dFun 2 5 (evSs G37 b37)
def G38:Gm:=G37.add "row_of_shares" F37
noncomputable def F38:List D->Option R:=λ_=>none
def G39:Gm:=G38.add "shares" F38
noncomputable def F39:List D->Option R:=λ_=>none
def G40:Gm:=G39.add "own_shape" F39
def F40:List D->Option R:=dFun 1 1 (evSs G40 b40)
def G41:Gm:=G40.add "strength_or_one" F40
noncomputable def F41:List D->Option R:=λ_=>none
def G42:Gm:=G41.add "each_changed" F41
noncomputable def F42:List D->Option R:=λ_=>none
def G43:Gm:=G42.add "put_together" F42
noncomputable def F43:List D->Option R:=λ_=>none
def G44:Gm:=G43.add "covers" F43
noncomputable def F44:List D->Option R:=λ_=>none
def G45:Gm:=G44.add "thinned_covers" F44
noncomputable def F45:List D->Option R:=λ_=>none
def G46:Gm:=G45.add "clear_films" F45
noncomputable def F46:List D->Option R:=λ_=>none
def G47:Gm:=G46.add "joined_films" F46
noncomputable def F47:List D->Option R:=λ_=>none
def G48:Gm:=G47.add "touched_cells" F47
def F48:List D->Option R:=dFun 2 4 (evSs G48 b48)
def G49:Gm:=G48.add "_law_cell" F48
def F49:List D->Option R:=dFun 1 1 (evSs G49 b49)
def G50:Gm:=G49.add "_law_whole" F49
def F50:List D->Option R:=dFun 2 2 (evSs G50 b50)
def G51:Gm:=G50.add "_law_spread" F50
def F51:List D->Option R:=dFun 2 5 (evSs G51 b51)
def G52:Gm:=G51.add "_law_low" F51
def F52:List D->Option R:=dFun 1 3 (evSs G52 b52)
def G53:Gm:=G52.add "_law_part" F52
def F53:List D->Option R:=dFun 2 3 (evSs G53 b53)
def G54:Gm:=G53.add "_law_at" F53
def F54:List D->Option R:=dFun 3 7 (evSs G54 b54)
def G55:Gm:=G54.add "_law_box" F54
noncomputable def F55:List D->Option R:=λ_=>none
def G56:Gm:=G55.add "_law_shape" F55
def F56:List D->Option R:=dFun 1 1 (evSs G56 b56)
def G57:Gm:=G56.add "_law_ink" F56
noncomputable def F57:List D->Option R:=λ_=>none
def G58:Gm:=G57.add "_law_due" F57
noncomputable def F58:List D->Option R:=λ_=>none
def G59:Gm:=G58.add "_law_good" F58
noncomputable def L0:LamI:=zMn "thinned_covers" (top 56)
noncomputable def lb0:E:=.call 4 "times" (.cons (.var 0) (.cons (.var 1) .nil))
def lsc0:zGA "s" ["strength"] L0/\frN L0=(["strength"]:List Str):=zD3 rfl λ_ _ _ _ _=>rfl
def lck0:cE lb0 L0.scope ("s"::["strength"]) bs L0.body=true:=rfl
def FL0:List D->Option R:=lamD 1 (evE G59 lb0)
def GL0:Gm:=G59.addL L0 FL0
noncomputable def L1:LamI:=zMn "Fill.films" (zAB (top 61) 1)
noncomputable def lb1:E:=.call 16 "ink_film" (.cons (.var 0) (.cons (.fld (.var 1) "ink") .nil))
def lsc1:zGA "s" ["self"] L1/\frN L1=(["self"]:List Str):=zD3 rfl λ_ _ _ _ _=>rfl
def lck1:cE lb1 L1.scope ("s"::["self"]) bs L1.body=true:=rfl
def FL1:List D->Option R:=lamD 1 (evE GL0 lb1)
def GL1:Gm:=GL0.addL L1 FL1
noncomputable def L2:LamI:=zMn "Join.films" (zAB (top 64) 1)
noncomputable def lb2:E:=.call 19 "mixed" (.cons (.var 0) (.cons (.fld (.var 1) "strength") .nil))
def lsc2:zGA "film" ["self"] L2/\frN L2=(["self"]:List Str):=zD3 (by decide +kernel) λ_ _ _ _ _=>rfl
def lck2:cE lb2 L2.scope ("film"::["self"]) bs L2.body=true:=by decide +kernel
def FL2:List D->Option R:=lamD 1 (evE GL1 lb2)
def GL2:Gm:=GL1.addL L2 FL2
noncomputable def L3:LamI:=zMn "Group.films" (zAB (top 65) 1)
noncomputable def lb3:E:=.call 20 "alone" (.cons (.var 0) (.cons (.fld (.var 1) "strength") .nil))
def lsc3:zGA "film" ["self"] L3/\frN L3=(["self"]:List Str):=zD3 (by decide +kernel) λ_ _ _ _ _=>rfl
def lck3:cE lb3 L3.scope ("film"::["self"]) bs L3.body=true:=rfl
def FL3:List D->Option R:=lamD 1 (evE GL2 lb3)
def GL3:Gm:=GL2.addL L3 FL3
noncomputable def D0:Dm:=[]
def FM35:MF:=zAj 1 1 (evSs' GL3 D0 mb35)
def D1:Dm:=D0.add "empty_lists" FM35
def FM38:MF:=zAj 3 7 (evSs' GL3 D1 mb38)
def D2:Dm:=D1.add "shares" FM38
def FM39:MF:=zAj 1 1 (evSs' GL3 D2 mb39)
def D3:Dm:=D2.add "own_shape" FM39
def FM41:MF:=zAj 2 2 (evSs' GL3 D3 mb41)
def D4:Dm:=D3.add "each_changed" FM41
def FM42:MF:=zAj 3 5 (evSs' GL3 D4 mb42)
def D5:Dm:=D4.add "put_together" FM42
def FM43:MF:=zAj 3 3 (evSs' GL3 D5 mb43)
def D6:Dm:=D5.add "covers" FM43
def FM44:MF:=lamM FM41 0 L0 [3] P44.length N44.length (zGe GL3 D6 mp0) (evM GL3 D6 me0)
def D7:Dm:=D6.add "thinned_covers" FM44
def FM45:MF:=zAj 2 2 (evSs' GL3 D7 mb45)
def D8:Dm:=D7.add "clear_films" FM45
def FM47:MF:=zAj 1 4 (evSs' GL3 D8 mb47)
def D9:Dm:=D8.add "touched_cells" FM47
def zFS:MF:=zEr "Fill" 3 (zDc.map λp=>(p.1,evM GL3 D9 p.2))
def D10:Dm:=D9.add "Fill()" zFS
def zGx:MF:=zEr "Rub" 2 (zEU.map λp=>(p.1,evM GL3 D10 p.2))
def D11:Dm:=D10.add "Rub()" zGx
def zDt:MF:=zEr "Masked" 2 (zCY.map λp=>(p.1,evM GL3 D11 p.2))
def D12:Dm:=D11.add "Masked()" zDt
def zFR:MF:=zEr "Join" 2 (zDb.map λp=>(p.1,evM GL3 D12 p.2))
def D13:Dm:=D12.add "Join()" zFR
def zEn:MF:=zEr "Group" 2 (zC3.map λp=>(p.1,evM GL3 D13 p.2))
def D14:Dm:=D13.add "Group()" zEn
def zBF:MF:=lamM FM41 1 L1 [0] zCj.length zBA.length (zGe GL3 D14 mp1) (evM GL3 D14 me1)
def D15:Dm:=D14.add "Fill.films" zBF
def zBR:MF:=zAj 3 3 (evSs' GL3 D15 zDl)
def D16:Dm:=D15.add "Rub.films" zBR
def zBi:MF:=zAj 3 3 (evSs' GL3 D16 zEK)
def D17:Dm:=D16.add "Masked.films" zBi
def FM46:MF:=zAj 3 5 (evSs' GL3 D17 mb46)
def D18:Dm:=D17.add "joined_films" FM46
def zCK:MF:=lamM FM41 2 L2 [0] zCh.length zA9.length (zGe GL3 D18 mp2) (evM GL3 D18 me2)
def D19:Dm:=D18.add "Join.films" zCK
def zBv:MF:=lamM FM41 3 L3 [0] zCJ.length zA1.length (zGe GL3 D19 mp3) (evM GL3 D19 me3)
def D20:Dm:=D19.add "Group.films" zBv
def zEo:MF:=zAj 3 3 (evSs' GL3 D20 zAb)
def D21:Dm:=D20.add "Fill.touched" zEo
def zEs:MF:=zAj 3 3 (evSs' GL3 D21 zAb)
def D22:Dm:=D21.add "Rub.touched" zEs
def zDg:MF:=zAj 3 3 (evSs' GL3 D22 zAb)
def D23:Dm:=D22.add "Masked.touched" zDg
def zEm:MF:=zAj 3 3 (evSs' GL3 D23 zAb)
def D24:Dm:=D23.add "Join.touched" zEm
def zDw:MF:=zAj 3 3 (evSs' GL3 D24 zAb)
def D25:Dm:=D24.add "Group.touched" zDw
def FM55:MF:=zAj 3 9 (evSs' GL3 D25 mb55)
def D26:Dm:=D25.add "_law_shape" FM55
def FM57:MF:=zAj 3 8 (evSs' GL3 D26 mb57)
def D27:Dm:=D26.add "_law_due" FM57
def FM58:MF:=zAj 4 8 (evSs' GL3 D27 mb58)
def D28:Dm:=D27.add "_law_good" FM58
def FM59:MF:=zAj 1 13 (evSs' GL3 D28 mb59)
theorem len1 {O:Type}:∀ {us:List O},us.length=1->∃ a0,us=[a0]
 | [a0],_=>⟨a0,rfl⟩
theorem len2 {O:Type}:∀ {us:List O},us.length=2->∃ a0 a1,us=[a0,a1]
 | [a0,a1],_=>⟨a0,a1,rfl⟩
theorem len3 {O:Type}:∀ {us:List O},us.length=3->∃ a0 a1 a2,us=[a0,a1,a2]
 | [a0,a1,a2],_=>⟨a0,a1,a2,rfl⟩
theorem len4 {O:Type}:∀ {us:List O},us.length=4->∃ a0 a1 a2 a3,us=[a0,a1,a2,a3]
 | [a0,a1,a2,a3],_=>⟨a0,a1,a2,a3,rfl⟩
set_option maxHeartbeats 4000000 in
theorem all_mk {l:W.OpenLaw}(X:K.In h)(G:h.Ns mainGlobals mg)(hfa:mg "law"=some (.ref fa))
    
      
   (lt0:tabQ K "thinned_covers"=some (lc0,lp0))
   (lt1:tabQ K "Fill.films"=some (lc1,lp1))
   (lt2:tabQ K "Join.films"=some (lc2,lp2))
   (lt3:tabQ K "Group.films"=some (lc3,lp3))
  
    
  
  (t0:FT K "common_measure" (top 7) f0)
  (t1:FT K "ratio" (top 8) f1)
  (t2:FT K "plus" (top 9) f2)
  (t3:FT K "minus" (top 10) f3)
  (t4:FT K "times" (top 11) f4)
  (t5:FT K "parted" (top 12) f5)
  (t6:FT K "neighbours_added" (top 13) f6)
  (t7:FT K "total" (top 14) f7)
  (t8:FT K "under" (top 15) f8)
  (t9:FT K "between" (top 16) f9)
  (t10:FT K "whole_part" (top 17) f10)
  (t11:FT K "cover" (top 19) f11)
  (t12:FT K "clear_film" (top 20) f12)
  (t13:FT K "rest_of" (top 21) f13)
  (t14:FT K "multiplied" (top 22) f14)
  (t15:FT K "seen" (top 23) f15)
  (t16:FT K "ink_film" (top 24) f16)
  (t17:FT K "rub_film" (top 25) f17)
  (t18:FT K "joined" (top 26) f18)
  (t19:FT K "mixed" (top 27) f19)
  (t20:FT K "alone" (top 28) f20)
  (t21:FT K "sides" (top 30) f21)
  (t22:FT K "numbers_between" (top 32) f22)
  (t23:FT K "rests_at" (top 33) f23)
  (t24:FT K "upright_crossings" (top 34) f24)
  (t25:FT K "level_crossings" (top 35) f25)
  (t26:FT K "comes_ahead" (top 36) f26)
  (t27:FT K "made_one" (top 37) f27)
  (t28:FT K "stops" (top 38) f28)
  (t29:FT K "middle" (top 39) f29)
  (t30:FT K "piece_between" (top 40) f30)
  (t31:FT K "counts_on" (top 41) f31)
  (t32:FT K "pieces" (top 42) f32)
  (t33:FT K "fall" (top 43) f33)
  (t34:FT K "right" (top 44) f34)
  (t35:FT K "empty_lists" (top 46) f35)
  (t36:FT K "all_pieces" (top 47) f36)
  (t37:FT K "row_of_shares" (top 48) f37)
  (t38:FT K "shares" (top 49) f38)
  (t39:FT K "own_shape" (top 51) f39)
  (t40:FT K "strength_or_one" (top 52) f40)
  (t41:FT K "each_changed" (top 53) f41)
  (t42:FT K "put_together" (top 54) f42)
  (t43:FT K "covers" (top 55) f43)
  (t44:FT K "thinned_covers" (top 56) f44)
  (t45:FT K "clear_films" (top 57) f45)
  (t46:FT K "joined_films" (top 58) f46)
  (t47:FT K "touched_cells" (top 59) f47)
  (t48:FT K "_law_cell" (top 67) f48)
  (t49:FT K "_law_whole" (top 68) f49)
  (t50:FT K "_law_spread" (top 69) f50)
  (t51:FT K "_law_low" (top 70) f51)
  (t52:FT K "_law_part" (top 71) f52)
  (t53:FT K "_law_at" (top 72) f53)
  (t54:FT K "_law_box" (top 73) f54)
  (t55:FT K "_law_shape" (top 74) f55)
  (t56:FT K "_law_ink" (top 75) f56)
  (t57:FT K "_law_due" (top 76) f57)
  (t58:FT K "_law_good" (top 77) f58)
  (a59:W.nsIn K mainGlobals "law"=some (some (.ref f59))) (l59:K.lookup f59=some ⟨oc59,od59,.func (W.fnOf "law" "law" (zAZ (top 78)) (zAE (top 78)) (zAA (top 78)) .none kV59 dc59 pm59 an59 cd59 ct59),sl59⟩) (c59:W.codeIn K cd59 "law"=true) (k59:W.keepIn K (.ref f59)=true)
  (z0:W.nsIn K mainGlobals "abs"=some none)
  (z1:W.nsIn K mainGlobals "len"=some none)
  (z2:W.nsIn K mainGlobals "range"=some none)
  (z3:W.nsIn K mainGlobals "list"=some none)
  (z4:W.nsIn K mainGlobals "tuple"=some none)
  (z5:W.nsIn K mainGlobals "zip"=some none)
  (z6:W.nsIn K mainGlobals "reversed"=some none)
  (z7:W.nsIn K mainGlobals "max"=some none)
  (z8:W.nsIn K mainGlobals "isinstance"=some none)
  (z9:W.nsIn K mainGlobals "bool"=some none)
  (z10:W.nsIn K mainGlobals "int"=some none)
  (ca0:W.nsIn K mainGlobals "NOUGHT"=some (some (.ref g0))) (cl0:K.lookup g0=some ⟨.type "tuple",cod0,.seq cit0 cn0,csl0⟩) (cv0:cit0.toList.map absV=[some (.int 0),some (.int 1)])
  (ca1:W.nsIn K mainGlobals "HALF"=some (some (.ref g1))) (cl1:K.lookup g1=some ⟨.type "tuple",cod1,.seq cit1 cn1,csl1⟩) (cv1:cit1.toList.map absV=[some (.int 1),some (.int 2)])
  (ca2:W.nsIn K mainGlobals "ONE"=some (some (.ref g2))) (cl2:K.lookup g2=some ⟨.type "tuple",cod2,.seq cit2 cn2,csl2⟩) (cv2:cit2.toList.map absV=[some (.int 1),some (.int 1)])
  (u_u0:UC K "Fill" o_u0 ["shape","ink","strength"])
  (cc_u0:W.findIn K (.ref o_u0) "__class__"=some (some (.builtin "object.__class__")))
  (mr_u0:W.mroIn K o_u0 (.type "object")=some true)
  (eq_u0:W.findIn K (.ref o_u0) "__eq__"=some (some (.builtin "object.__eq__")))
  (u_u1:UC K "Rub" o_u1 ["shape","strength"])
  (cc_u1:W.findIn K (.ref o_u1) "__class__"=some (some (.builtin "object.__class__")))
  (mr_u1:W.mroIn K o_u1 (.type "object")=some true)
  (eq_u1:W.findIn K (.ref o_u1) "__eq__"=some (some (.builtin "object.__eq__")))
  (u_u2:UC K "Masked" o_u2 ["shape","layer"])
  (cc_u2:W.findIn K (.ref o_u2) "__class__"=some (some (.builtin "object.__class__")))
  (mr_u2:W.mroIn K o_u2 (.type "object")=some true)
  (eq_u2:W.findIn K (.ref o_u2) "__eq__"=some (some (.builtin "object.__eq__")))
  (u_u3:UC K "Join" o_u3 ["layers","strength"])
  (cc_u3:W.findIn K (.ref o_u3) "__class__"=some (some (.builtin "object.__class__")))
  (mr_u3:W.mroIn K o_u3 (.type "object")=some true)
  (eq_u3:W.findIn K (.ref o_u3) "__eq__"=some (some (.builtin "object.__eq__")))
  (u_u4:UC K "Group" o_u4 ["layers","strength"])
  (cc_u4:W.findIn K (.ref o_u4) "__class__"=some (some (.builtin "object.__class__")))
  (mr_u4:W.mroIn K o_u4 (.type "object")=some true)
  (eq_u4:W.findIn K (.ref o_u4) "__eq__"=some (some (.builtin "object.__eq__")))
  (oa_iso:W.nsIn K mainGlobals "Layer"=some (some (.ref o_iso)))
  (sp_iso:W.specialIn K (.builtin "object.__class__") "__get__"=some (some (.builtin "getset_descriptor.__get__")))
  (tk_iso:W.takesIn K (.builtin "object.__class__")=some true)
  (ki_u0:W.kitOne K (.ref o_u0) (.ref o_iso)=some true)
  (ki_u1:W.kitOne K (.ref o_u1) (.ref o_iso)=some true)
  (ki_u2:W.kitOne K (.ref o_u2) (.ref o_iso)=some true)
  (ki_u3:W.kitOne K (.ref o_u3) (.ref o_iso)=some true)
  (ki_u4:W.kitOne K (.ref o_u4) (.ref o_iso)=some true)
  (m_q0:W.findIn K (.ref o_u0) "__init__"=some (some (.ref f_q0)))
  (i_q0:W.isFn K (.ref f_q0)=true)
  (l_q0:K.lookup f_q0=some ⟨oc_q0,od_q0,.func (W.fnOf "__init__" "Fill.__init__" (zAZ (zAB (top 61) 0)) (zAE (zAB (top 61) 0)) (zAA (zAB (top 61) 0)) (.ref T_q0) kV_q0 dc_q0 pm_q0 an_q0 cd_q0 ct_q0),sl_q0⟩)
  (c_q0:W.codeIn K cd_q0 "Fill.__init__"=true)
  (k_q0:W.keepIn K (.ref f_q0)=true)
  (lT_q0:K.lookup T_q0=some ⟨ocT_q0,odT_q0,.seq #[.none] nT_q0,slT_q0⟩)
  (t_q1:FQ K o_u0 f_q1 "films" "Fill.films" (zAB (top 61) 1))
  (m_q2:W.findIn K (.ref o_u1) "__init__"=some (some (.ref f_q2)))
  (i_q2:W.isFn K (.ref f_q2)=true)
  (l_q2:K.lookup f_q2=some ⟨oc_q2,od_q2,.func (W.fnOf "__init__" "Rub.__init__" (zAZ (zAB (top 62) 0)) (zAE (zAB (top 62) 0)) (zAA (zAB (top 62) 0)) (.ref T_q2) kV_q2 dc_q2 pm_q2 an_q2 cd_q2 ct_q2),sl_q2⟩)
  (c_q2:W.codeIn K cd_q2 "Rub.__init__"=true)
  (k_q2:W.keepIn K (.ref f_q2)=true)
  (lT_q2:K.lookup T_q2=some ⟨ocT_q2,odT_q2,.seq #[.none] nT_q2,slT_q2⟩)
  (t_q3:FQ K o_u1 f_q3 "films" "Rub.films" (zAB (top 62) 1))
  (m_q4:W.findIn K (.ref o_u2) "__init__"=some (some (.ref f_q4)))
  (i_q4:W.isFn K (.ref f_q4)=true)
  (l_q4:K.lookup f_q4=some ⟨oc_q4,od_q4,.func (W.fnOf "__init__" "Masked.__init__" (zAZ (zAB (top 63) 0)) (zAE (zAB (top 63) 0)) (zAA (zAB (top 63) 0)) .none kV_q4 dc_q4 pm_q4 an_q4 cd_q4 ct_q4),sl_q4⟩)
  (c_q4:W.codeIn K cd_q4 "Masked.__init__"=true)
  (k_q4:W.keepIn K (.ref f_q4)=true)
  (t_q5:FQ K o_u2 f_q5 "films" "Masked.films" (zAB (top 63) 1))
  (m_q6:W.findIn K (.ref o_u3) "__init__"=some (some (.ref f_q6)))
  (i_q6:W.isFn K (.ref f_q6)=true)
  (l_q6:K.lookup f_q6=some ⟨oc_q6,od_q6,.func (W.fnOf "__init__" "Join.__init__" (zAZ (zAB (top 64) 0)) (zAE (zAB (top 64) 0)) (zAA (zAB (top 64) 0)) (.ref T_q6) kV_q6 dc_q6 pm_q6 an_q6 cd_q6 ct_q6),sl_q6⟩)
  (c_q6:W.codeIn K cd_q6 "Join.__init__"=true)
  (k_q6:W.keepIn K (.ref f_q6)=true)
  (lT_q6:K.lookup T_q6=some ⟨ocT_q6,odT_q6,.seq #[.none] nT_q6,slT_q6⟩)
  (t_q7:FQ K o_u3 f_q7 "films" "Join.films" (zAB (top 64) 1))
  (m_q8:W.findIn K (.ref o_u4) "__init__"=some (some (.ref f_q8)))
  (i_q8:W.isFn K (.ref f_q8)=true)
  (l_q8:K.lookup f_q8=some ⟨oc_q8,od_q8,.func (W.fnOf "__init__" "Group.__init__" (zAZ (zAB (top 65) 0)) (zAE (zAB (top 65) 0)) (zAA (zAB (top 65) 0)) (.ref T_q8) kV_q8 dc_q8 pm_q8 an_q8 cd_q8 ct_q8),sl_q8⟩)
  (c_q8:W.codeIn K cd_q8 "Group.__init__"=true)
  (k_q8:W.keepIn K (.ref f_q8)=true)
  (lT_q8:K.lookup T_q8=some ⟨ocT_q8,odT_q8,.seq #[.none] nT_q8,slT_q8⟩)
  (t_q9:FQ K o_u4 f_q9 "films" "Group.films" (zAB (top 65) 1))
  (t_q10:FQ K o_u0 f_q10 "touched" "Layer.touched" (zAB (top 60) 1))
  (t_q11:FQ K o_u1 f_q11 "touched" "Layer.touched" (zAB (top 60) 1))
  (t_q12:FQ K o_u2 f_q12 "touched" "Layer.touched" (zAB (top 60) 1))
  (t_q13:FQ K o_u3 f_q13 "touched" "Layer.touched" (zAB (top 60) 1))
  (t_q14:FQ K o_u4 f_q14 "touched" "Layer.touched" (zAB (top 60) 1))
  : ∃ fd:FuncData,(∀ (s:Shared) (v:Value),BindsTo s fd ⟨[v],[]⟩ [("_law_script",v)])/\∀ base:Heap,K.In base->base.Ns mainGlobals mg->FnOk l.prog w K mg base CX0 86 fa fd ["_law_script"] (spM K FM59):=by
 have e:=hfa.symm.trans (W.mg_of X G a59);cases e;obtain⟨_,E22⟩:=t22.F;have B22:=E22.binds (ps:=P22) λ_ _ _ _ _ _ us hl=>by obtain⟨_,_,_,rfl⟩:=len3 hl;rfl
 obtain⟨_,E44⟩:=t44.F;have B44:=E44.binds (ps:=P44) λ_ _ _ _ _ _ us hl=>by obtain⟨_,_,_,_,rfl⟩:=len4 hl;rfl
 have E59:=zK4 (st:=top 78) l59 c59 k59;have B59:=E59.binds (ps:=P59) λ_ _ _ _ _ _ us hl=>by obtain⟨_,rfl⟩:=len1 hl;rfl
 refine⟨W.fnOf "law" "law" (zAZ (top 78)) (zAE (top 78)) (zAA (top 78)) .none kV59 dc59 pm59 an59 cd59 ct59,λs v=>.of_eq rfl,λbase _ _=>?_⟩;have g0:GOk l.prog w K mg base 0 G0 bs:=⟨λx F h=>absurd h (by simp[G0]),λx d h=>?_,λx h=>?_,trivial,trivial,trivial,λj L F e=>absurd e (by simp[G0]),λp h=>?_⟩
 .have g22:GOk l.prog w K mg base 22 G22 bs:=(.aT 1 ["ring"] (.aT 2 ["film","t","added"] (.aT 2 ["film","t"] (.aT 2 ["upper","lower"] (.aT 1 ["s"] (.aT 2 ["s","ink"] (.aT 2 ["film","ground","through"] (.aT 2 ["parts","by"] (.aT 1 ["part"] (.aT 0 [] (.aT 1 ["share"] (.aT 1 ["one"] (.aT 3 ["one","low","high"] (.aT 2 ["one","other"] (.aT 1 ["some","sums"] (.aT 1 ["some","added"] (.aT 2 ["one","other"] (.aT 2 ["one","other"] (.aT 2 ["one","other"] (.aT 2 ["one","other"] (.aT 2 ["top","bottom","measure"] (.aT 2 ["one","other","rest"] g0 X G t0) X G t1) X G t2) X G t3) X G t4) X G t5) X G t6) X G t7) X G t8) X G t9) X G t10) X G t11) X G t12) X G t13) X G t14) X G t15) X G t16) X G t17) X G t18) X G t19) X G t20) X G t21);have g22_0:GOk l.prog w K mg base 22 zTp bs:=g22.addN E22 (W.mg_of X G t22.a) B22;have g22_1:GOk l.prog w K mg base 23 zTo bs:=g22.addR g22_0 (by decide) E22 sc22 ck22 (W.mg_of X G t22.a) B22;have g23:GOk l.prog w K mg base 24 G23 bs:=g22.addR g22_1 (by decide) E22 sc22 ck22 (W.mg_of X G t22.a) B22;have g44:GOk l.prog w K mg base 40 G44 bs:=(.aU ["width","height","shape"] (.aU ["some","others","make"] (.aU ["rows","change"] (.aT 1 ["strength"] (.aU ["shape"] (.aU ["width","height","shape"] (.aT 2 ["falls","rights","told","fallen","column"] (.aT 3 ["width","height","shape","found","ring","side"] (.aT 1 ["count"] (.aT 1 ["piece","column"] (.aT 1 ["piece"] (.aT 3 ["width","height","side","points","parts"] (.aT 3 ["width","height","piece"] (.aT 2 ["start","end","column","row"] (.aT 2 ["one","other"] (.aT 3 ["width","height","side","start","end","crossed"] (.aT 3 ["some","others","to_the_right","points","k","point"] (.aT 3 ["one","other","to_the_right"] (.aT 2 ["side","height","start","end","numbers","widths"] (.aT 2 ["side","width","start","end","numbers","heights"] (.aT 5 ["numbers","start","end","rest","rest_end","slope"] g23 X G t23) X G t24) X G t25) X G t26) X G t27) X G t28) X G t29) X G t30) X G t31) X G t32) X G t33) X G t34) X G t35) X G t36) X G t37) X G t38) X G t39) X G t40) X G t41) X G t42) X G t43);have g45:GOk l.prog w K mg base 40 G45 bs:=g44.addN E44 (W.mg_of X G t44.a) B44;have g59:GOk l.prog w K mg base 48 G59 bs:=(.aU ["_law_layer","_law_width","_law_height","_law_often"] (.aU ["_law_layer","_law_width","_law_height"] (.aT 1 ["_law_cell_here"] (.aU ["_law_cell_here","_law_width","_law_height"] (.aT 3 ["_law_parts","_law_width","_law_height","_law_left","_law_low_here","_law_far","_law_high"] (.aT 2 ["_law_some","_law_most","_law_bottom"] (.aT 1 ["_law_cell_here","_law_bottom","_law_rest"] (.aT 2 ["_law_top","_law_bottom","_law_one","_law_other","_law_rest"] (.aT 2 ["_law_cell_here","_law_k"] (.aT 1 ["_law_found"] (.aT 2 ["_law_script","_law_k","_law_seed","_law_some"] (.aU ["rows"] (.aU ["width","height","layers"] (.aU ["width","height"] g45 X G t45) X G t46) X G t47) X G t48) X G t49) X G t50) X G t51) X G t52) X G t53) X G t54) X G t55) X G t56) X G t57) X G t58);have bk_q0:=λ(s:Shared) (args:Args) (bi:List (Str×Value)) kk (hK:K.In s.heap) h1 h2=>zDL (s:=s) (args:=args) (binds:=bi) (kk:=kk) (fd:=W.fnOf "__init__" "Fill.__init__" (zAZ (zAB (top 61) 0)) (zAE (zAB (top 61) 0)) (zAA (zAB (top 61) 0)) (.ref T_q0) kV_q0 dc_q0 pm_q0 an_q0 cd_q0 ct_q0) rfl lT_q0 hK h1 h2
  obtain⟨_,E_q1⟩:=t_q1.F;have B_q1:=E_q1.binds (ps:=zCj) (bz3 rfl rfl);have bk_q2:=λ(s:Shared) (args:Args) (bi:List (Str×Value)) kk (hK:K.In s.heap) h1 h2=>zDL (s:=s) (args:=args) (binds:=bi) (kk:=kk) (fd:=W.fnOf "__init__" "Rub.__init__" (zAZ (zAB (top 62) 0)) (zAE (zAB (top 62) 0)) (zAA (zAB (top 62) 0)) (.ref T_q2) kV_q2 dc_q2 pm_q2 an_q2 cd_q2 ct_q2) rfl lT_q2 hK h1 h2
  have bk_q6:=λ(s:Shared) (args:Args) (bi:List (Str×Value)) kk (hK:K.In s.heap) h1 h2=>zDL (s:=s) (args:=args) (binds:=bi) (kk:=kk) (fd:=W.fnOf "__init__" "Join.__init__" (zAZ (zAB (top 64) 0)) (zAE (zAB (top 64) 0)) (zAA (zAB (top 64) 0)) (.ref T_q6) kV_q6 dc_q6 pm_q6 an_q6 cd_q6 ct_q6) rfl lT_q6 hK h1 h2
  obtain⟨_,E_q7⟩:=t_q7.F;have B_q7:=E_q7.binds (ps:=zCh) (bz3 rfl rfl);have bk_q8:=λ(s:Shared) (args:Args) (bi:List (Str×Value)) kk (hK:K.In s.heap) h1 h2=>zDL (s:=s) (args:=args) (binds:=bi) (kk:=kk) (fd:=W.fnOf "__init__" "Group.__init__" (zAZ (zAB (top 65) 0)) (zAE (zAB (top 65) 0)) (zAA (zAB (top 65) 0)) (.ref T_q8) kV_q8 dc_q8 pm_q8 an_q8 cd_q8 ct_q8) rfl lT_q8 hK h1 h2
  obtain⟨_,E_q9⟩:=t_q9.F;have B_q9:=E_q9.binds (ps:=zCJ) (bz3 rfl rfl);have gl0:GOk l.prog w K mg base 49 GL0 bs:=g59.addL lsc0.1 lsc0.2 lck0;have fq0:zEZ K "thinned_covers"=some f44:=by
   unfold zEZ;rw[show zKc.lookup ("thinned_covers":Str)=none from by decide +kernel];simp only[t44.a]
  have ld0:zDs K "thinned_covers" (top 56) f44 N44 (zAE (top 56)).dropLast (zDn (top 56)) "each_changed" L0 [3]:=by
   have cp:=zIY (sc:=zAA (top 56)) (ps:=N44) (ys:=["strength"]) (ix:=[3]) (by decide +kernel);rw[<- lsc0.2] at cp;exact⟨⟨_,_,_,_,rfl⟩,rfl,rfl,by decide,fq0,⟨_,_,lt0⟩,by decide +kernel,by decide,λ_=>rfl,by rw[lsc0.2];decide,cp.1,cp.2,zD6 _⟩
  have gl1:GOk l.prog w K mg base 50 GL1 bs:=gl0.addL lsc1.1 lsc1.2 lck1;have fq1:zEZ K "Fill.films"=some f_q1:=by
   unfold zEZ;rw[show zKc.lookup ("Fill.films":Str)=some (("Fill":Str),("films":Str)) from by decide +kernel];simp only[show W.nsIn K mainGlobals _=_ from u_u0.a,t_q1.M.1]
  have ld1:zDs K "Fill.films" (zAB (top 61) 1) f_q1 zBA (zAE (zAB (top 61) 1)).dropLast (zDn (zAB (top 61) 1)) "each_changed" L1 [0]:=by
   have cp:=zIY (sc:=zAA (zAB (top 61) 1)) (ps:=zBA) (ys:=["self"]) (ix:=[0]) (by decide +kernel);rw[<- lsc1.2] at cp;exact⟨⟨_,_,_,_,rfl⟩,rfl,rfl,by decide,fq1,⟨_,_,lt1⟩,by decide +kernel,by decide,λ_=>rfl,by rw[lsc1.2];decide,cp.1,cp.2,zD6 _⟩
  have gl2:GOk l.prog w K mg base 51 GL2 bs:=gl1.addL lsc2.1 lsc2.2 lck2;have fq2:zEZ K "Join.films"=some f_q7:=by
   unfold zEZ;rw[show zKc.lookup ("Join.films":Str)=some (("Join":Str),("films":Str)) from by decide +kernel];simp only[show W.nsIn K mainGlobals _=_ from u_u3.a,t_q7.M.1]
  have ld2:zDs K "Join.films" (zAB (top 64) 1) f_q7 zA9 (zAE (zAB (top 64) 1)).dropLast (zDn (zAB (top 64) 1)) "each_changed" L2 [0]:=by
   have cp:=zIY (sc:=zAA (zAB (top 64) 1)) (ps:=zA9) (ys:=["self"]) (ix:=[0]) (by decide +kernel);rw[<- lsc2.2] at cp;exact⟨⟨_,_,_,_,rfl⟩,rfl,rfl,by decide,fq2,⟨_,_,lt2⟩,by decide +kernel,by decide,λ_=>rfl,by rw[lsc2.2];decide,cp.1,cp.2,zD6 _⟩
  have gl3:GOk l.prog w K mg base 52 GL3 bs:=gl2.addL lsc3.1 lsc3.2 lck3;have fq3:zEZ K "Group.films"=some f_q9:=by
   unfold zEZ;rw[show zKc.lookup ("Group.films":Str)=some (("Group":Str),("films":Str)) from by decide +kernel];simp only[show W.nsIn K mainGlobals _=_ from u_u4.a,t_q9.M.1]
  have ld3:zDs K "Group.films" (zAB (top 65) 1) f_q9 zA1 (zAE (zAB (top 65) 1)).dropLast (zDn (zAB (top 65) 1)) "each_changed" L3 [0]:=by
   have cp:=zIY (sc:=zAA (zAB (top 65) 1)) (ps:=zA1) (ys:=["self"]) (ix:=[0]) (by decide +kernel);rw[<- lsc3.2] at cp;exact⟨⟨_,_,_,_,rfl⟩,rfl,rfl,by decide,fq3,⟨_,_,lt3⟩,by decide +kernel,by decide,λ_=>rfl,by rw[lsc3.2];decide,cp.1,cp.2,zD6 _⟩
  have d0:DmOk l.prog w K mg base 52 D0:=λx F h=>absurd h (by simp[D0])
  have d6:DmOk l.prog w K mg base 58 D6:=(.aT 3 ["width","height","shape"] (.aT 3 ["some","others","make","rows","row"] (.aT 2 ["rows","change"] (.aT 1 ["shape"] (.aT 3 ["width","height","shape","falls","rights","piece","place"] (.aT 1 ["count"] d0 gl3 X G t35) gl3 X G t38) gl3 X G t39) gl3 X G t41) gl3 X G t42) gl3 X G t43);have d7:DmOk l.prog w K mg base 59 D7:=d6.addF (gl3.mono (by decide)) E44 sc44 ld0 pck0 eck0 (W.mg_of X G t44.a) B44 (mem_of_getElem? (i:=3) (show D6[3]?=some (("each_changed":Str),FM41) from rfl));have d9:DmOk l.prog w K mg base 61 D9:=(.aT 1 ["rows","touched","row","column"] (.aT 2 ["width","height"] d7 gl3 X G t45) gl3 X G t47);have fi_q0:=zES (J:=GL3) (c := "Fill") (C:=o_u0) (y := "self") (ys:=zCi.tail) (L:=zDc) l_q0 c_q0 zIm (by decide +kernel) (by decide) zHV (gl3.mono (by decide)) d9 u_u0.a u_u0.c u_u0.n (by decide +kernel) (by decide +kernel) (by decide +kernel) (by decide);have d10:DmOk l.prog w K mg base 63 D10:=(d9.mono (by decide)).addC (kw := "strength") (j:=62) (by decide) (by decide +kernel) (W.mg_of X G u_u0.a) ⟨u_u0.k,m_q0,i_q0,u_u0.kc⟩ fi_q0 (λs us hK hl=>by obtain⟨_,_,_,_,rfl⟩:=len4 (us:=us) (by simpa [zCi] using hl);exact bk_q0 s _ _ _ hK rfl rfl) (λ_=>⟨(λs us hK hl=>by obtain⟨_,_,_,rfl⟩:=len3 (us:=us) (by simpa [zCi] using hl);exact bk_q0 s _ _ _ hK rfl rfl),(λs us u hK hl=>by obtain⟨_,_,_,rfl⟩:=len3 (us:=us) (by simpa [zCi] using hl);exact bk_q0 s _ _ _ hK rfl rfl)⟩);have fi_q2:=zES (J:=GL3) (c := "Rub") (C:=o_u1) (y := "self") (ys:=zDO.tail) (L:=zEU) l_q2 c_q2 zJl (by decide +kernel) (by decide) zI2 (gl3.mono (by decide)) d10 u_u1.a u_u1.c u_u1.n (by decide +kernel) (by decide +kernel) (by decide +kernel) (by decide);have d11:DmOk l.prog w K mg base 65 D11:=(d10.mono (by decide)).addC (kw := "strength") (j:=64) (by decide) (by decide +kernel) (W.mg_of X G u_u1.a) ⟨u_u1.k,m_q2,i_q2,u_u1.kc⟩ fi_q2 (λs us hK hl=>by obtain⟨_,_,_,rfl⟩:=len3 (us:=us) (by simpa [zDO] using hl);exact bk_q2 s _ _ _ hK rfl rfl) (λ_=>⟨(λs us hK hl=>by obtain⟨_,_,rfl⟩:=len2 (us:=us) (by simpa [zDO] using hl);exact bk_q2 s _ _ _ hK rfl rfl),(λs us u hK hl=>by obtain⟨_,_,rfl⟩:=len2 (us:=us) (by simpa [zDO] using hl);exact bk_q2 s _ _ _ hK rfl rfl)⟩);have fi_q4:=zES (J:=GL3) (c := "Masked") (C:=o_u2) (y := "self") (ys:=zC7.tail) (L:=zCY) l_q4 c_q4 zGL (by decide +kernel) (by decide) zFq (gl3.mono (by decide)) d11 u_u2.a u_u2.c u_u2.n (by decide +kernel) (by decide +kernel) (by decide +kernel) (by decide);have d12:DmOk l.prog w K mg base 67 D12:=(d11.mono (by decide)).addC (kw := "") (j:=66) (by decide) (by decide +kernel) (W.mg_of X G u_u2.a) ⟨u_u2.k,m_q4,i_q4,u_u2.kc⟩ fi_q4 (.all λus hl=>by obtain⟨_,_,_,rfl⟩:=len3 (us:=us) (by simpa [zC7] using hl);rfl) (λz=>absurd rfl z);have fi_q6:=zES (J:=GL3) (c := "Join") (C:=o_u3) (y := "self") (ys:=zCg.tail) (L:=zDb) l_q6 c_q6 zIl (by decide +kernel) (by decide) zHU (gl3.mono (by decide)) d12 u_u3.a u_u3.c u_u3.n (by decide +kernel) (by decide +kernel) (by decide +kernel) (by decide)
  have d13:DmOk l.prog w K mg base 69 D13:=(d12.mono (by decide)).addC (kw := "strength") (j:=68) (by decide) (by decide +kernel) (W.mg_of X G u_u3.a) ⟨u_u3.k,m_q6,i_q6,u_u3.kc⟩ fi_q6 (λs us hK hl=>by obtain⟨_,_,_,rfl⟩:=len3 (us:=us) (by simpa [zCg] using hl);exact bk_q6 s _ _ _ hK rfl rfl) (λ_=>⟨(λs us hK hl=>by obtain⟨_,_,rfl⟩:=len2 (us:=us) (by simpa [zCg] using hl);exact bk_q6 s _ _ _ hK rfl rfl),(λs us u hK hl=>by obtain⟨_,_,rfl⟩:=len2 (us:=us) (by simpa [zCg] using hl);exact bk_q6 s _ _ _ hK rfl rfl)⟩);have fi_q8:=zES (J:=GL3) (c := "Group") (C:=o_u4) (y := "self") (ys:=zB4.tail) (L:=zC3) l_q8 c_q8 zG7 (by decide +kernel) (by decide) zGa (gl3.mono (by decide)) d13 u_u4.a u_u4.c u_u4.n (by decide +kernel) (by decide +kernel) (by decide +kernel) (by decide);have d14:DmOk l.prog w K mg base 71 D14:=(d13.mono (by decide)).addC (kw := "strength") (j:=70) (by decide) (by decide +kernel) (W.mg_of X G u_u4.a) ⟨u_u4.k,m_q8,i_q8,u_u4.kc⟩ fi_q8 (λs us hK hl=>by obtain⟨_,_,_,rfl⟩:=len3 (us:=us) (by simpa [zB4] using hl);exact bk_q8 s _ _ _ hK rfl rfl) (λ_=>⟨(λs us hK hl=>by obtain⟨_,_,rfl⟩:=len2 (us:=us) (by simpa [zB4] using hl);exact bk_q8 s _ _ _ hK rfl rfl),(λs us u hK hl=>by obtain⟨_,_,rfl⟩:=len2 (us:=us) (by simpa [zB4] using hl);exact bk_q8 s _ _ _ hK rfl rfl)⟩);have d15:DmOk l.prog w K mg base 72 D15:=d14.addFM (gl3.mono (by decide)) E_q1 zFa ld1 pck1 eck1 B_q1 (mem_of_getElem? (i:=3) (show D14[3]?=some (("each_changed":Str),FM41) from rfl)) u_u0.a u_u0.c t_q1.M (by decide +kernel);have d18:DmOk l.prog w K mg base 75 D18:=(.aT 3 ["width","height","layers","rows","layer"] (.aQ 3 ["self","width","height"] (.aQ 3 ["self","width","height"] d15 gl3 t_q3 u_u1.a u_u1.c) gl3 t_q5 u_u2.a u_u2.c) gl3 X G t46);have d19:DmOk l.prog w K mg base 76 D19:=d18.addFM (gl3.mono (by decide)) E_q7 zFZ ld2 pck2 eck2 B_q7 (mem_of_getElem? (i:=3) (show D18[3]?=some (("each_changed":Str),FM41) from rfl)) u_u3.a u_u3.c t_q7.M (by decide +kernel);have d20:DmOk l.prog w K mg base 77 D20:=d19.addFM (gl3.mono (by decide)) E_q9 zEp ld3 pck3 eck3 B_q9 (mem_of_getElem? (i:=3) (show D19[3]?=some (("each_changed":Str),FM41) from rfl)) u_u4.a u_u4.c t_q9.M (by decide +kernel);have d28:DmOk l.prog w K mg base 85 D28:=(.aT 4 ["_law_layer","_law_width","_law_height","_law_often","_law_due_here","_law_again","_law_found","_law_one"] (.aT 3 ["_law_layer","_law_width","_law_height","_law_due_here","_law_rows","_law_j","_law_i","_law_film"] (.aT 3 ["_law_cell_here","_law_width","_law_height","_law_some","_law_shape_here","_law_ring","_law_parts","_law_k","_law_points"] (.aR "Group.touched" 3 ["self","width","height"] (.aR "Join.touched" 3 ["self","width","height"] (.aR "Masked.touched" 3 ["self","width","height"] (.aR "Rub.touched" 3 ["self","width","height"] (.aR "Fill.touched" 3 ["self","width","height"] d20 gl3 t_q10 u_u0.a u_u0.c) gl3 t_q11 u_u1.a u_u1.c) gl3 t_q12 u_u2.a u_u2.c) gl3 t_q13 u_u3.a u_u3.c) gl3 t_q14 u_u4.a u_u4.c) gl3 X G t55) gl3 X G t57) gl3 X G t58)
  exact zHh E59 sc59 zUG (gl3.mono (by decide)) d28
 .simp only [G0,mem_cons,Prod.mk.injEq,List.mem_nil_iff,or_false,not_mem_nil] at h;rcases h with ⟨rfl,rfl⟩ | ⟨rfl,rfl⟩ | ⟨rfl,rfl⟩ | ⟨rfl,rfl⟩ | ⟨rfl,rfl⟩ | ⟨rfl,rfl⟩ | ⟨rfl,rfl⟩
  .exact zFs (ns:=[0,1]) (W.mg_of X G ca0) cl0 cv0
  .exact zFs (ns:=[1,2]) (W.mg_of X G ca1) cl1 cv1
  .exact zFs (ns:=[1,1]) (W.mg_of X G ca2) cl2 cv2
  .exact ⟨_,.ref f11,W.mg_of X G t11.a,rfl,by rw[Den];exact⟨_,rfl,t11.a⟩⟩
  .exact ⟨_,.ref f18,W.mg_of X G t18.a,rfl,by rw[Den];exact⟨_,rfl,t18.a⟩⟩
  .exact ⟨_,.ref f17,W.mg_of X G t17.a,rfl,by rw[Den];exact⟨_,rfl,t17.a⟩⟩
  .exact ⟨_,.ref f19,W.mg_of X G t19.a,rfl,by rw[Den];exact⟨_,rfl,t19.a⟩⟩
 .simp only [bs,mem_cons,List.mem_nil_iff,or_false,not_mem_nil] at h;rcases h with rfl | rfl | rfl | rfl | rfl | rfl | rfl | rfl | rfl | rfl | rfl
  .exact W.mg_none_of X G z0
  .exact W.mg_none_of X G z1
  .exact W.mg_none_of X G z2
  .exact W.mg_none_of X G z3
  .exact W.mg_none_of X G z4
  .exact W.mg_none_of X G z5
  .exact W.mg_none_of X G z6
  .exact W.mg_none_of X G z7
  .exact W.mg_none_of X G z8
  .exact W.mg_none_of X G z9
  .exact W.mg_none_of X G z10
 .simp only [G0,mem_cons,List.mem_nil_iff,or_false,not_mem_nil] at h;rcases h with rfl | rfl | rfl | rfl | rfl | rfl | rfl | rfl | rfl | rfl | rfl | rfl | rfl | rfl | rfl | rfl
  .exact u_u0.o (by decide)
  .exact u_u0.o (by decide)
  .exact u_u0.o (by decide)
  .exact u_u1.o (by decide)
  .exact u_u1.o (by decide)
  .exact u_u2.o (by decide)
  .exact u_u2.o (by decide)
  .exact u_u3.o (by decide)
  .exact u_u3.o (by decide)
  .exact u_u4.o (by decide)
  .exact u_u4.o (by decide)
  .exact ⟨_,W.mg_of X G oa_iso,λC q=>by obtain rfl:=zCe u_u0.a q;exact⟨⟨u_u0.c,cc_u0,mr_u0,sp_iso,tk_iso,eq_u0⟩,ki_u0⟩⟩
  .exact ⟨_,W.mg_of X G oa_iso,λC q=>by obtain rfl:=zCe u_u1.a q;exact⟨⟨u_u1.c,cc_u1,mr_u1,sp_iso,tk_iso,eq_u1⟩,ki_u1⟩⟩
  .exact ⟨_,W.mg_of X G oa_iso,λC q=>by obtain rfl:=zCe u_u2.a q;exact⟨⟨u_u2.c,cc_u2,mr_u2,sp_iso,tk_iso,eq_u2⟩,ki_u2⟩⟩
  .exact ⟨_,W.mg_of X G oa_iso,λC q=>by obtain rfl:=zCe u_u3.a q;exact⟨⟨u_u3.c,cc_u3,mr_u3,sp_iso,tk_iso,eq_u3⟩,ki_u3⟩⟩
  .exact ⟨_,W.mg_of X G oa_iso,λC q=>by obtain rfl:=zCe u_u4.a q;exact⟨⟨u_u4.c,cc_u4,mr_u4,sp_iso,tk_iso,eq_u4⟩,ki_u4⟩⟩
end Q
end
open PySem L2 DL
local macro_rules | `(tactic| walk_at "m")=>`(tactic| (repeat walk_at "mw"))
section
noncomputable section
namespace Q
open PySem DL
open L2
def h0:zQt F0:=λa b Q a c h=>zPT a c h
def h1:zFM F1:=zMJ rfl h0
def h2:zGu F2:=zO1 (nr:=1) rfl h1
def h3:zFP F3:=zMY (nr:=1) rfl h1
def h4:zDr F4:=zL9 (nr:=1) rfl h1
def h5:zF9 F5:=zJ7 rfl h1
def h6:zNk F6:=zPO rfl h2
def h7:zLq F7:=zL8 (nn:=6) (ng:=0) rfl h6 rfl
def h8:zFL F8:=zL7
def h9 (p b a:Rat)(n:Nat)(Q:R->Prop)(e:RB n p)(f:RB n b)(g:RB n a)(l:n<=10000000)(h:Q (ratD (if p < b then b else if a < p then a else p),.cl)):EvP (F9 [ratD p,ratD b,ratD a]) Q:=by
 (walk_at "d");unfold b9;(walk_at "st");(walk_at "w");refine h8 p b n n _ e f (by omega) ?_;(walk_at "w");refine zA8 (λc=>?_) λc=>?_
 .rw [if_pos c] at h;(walk_at "w");exact h
 rw[if_neg c] at h;(walk_at "w");refine h8 a p n n _ g e (by omega) ?_;(walk_at "w");refine zA8 (λc=>?_) λc=>?_
 .rw [if_pos c] at h;(walk_at "w");exact h
 rw[if_neg c] at h;(walk_at "w");exact h
noncomputable def cov (p:Rat):Rat:=if p < 0 then 0 else if 1 < p then 1 else p
def h10:WpF F10:=zTy
def h11 (p:Rat)(n:Nat)(Q:R->Prop)(b:RB n p)(a:1<=n)(l:n<=10000000)(h:Q (ratD (cov p),.cl)):EvP (F11 [ratD p]) Q:=by
 (walk_at "d");unfold b11;(walk_at "st");(walk_at "w");refine h9 p 0 1 n _ b (zA3.mono a) (zCS.mono a) l ?_;(walk_at "w");exact h
def zGh (h:RB n p)(l:1<=n):RB n (cov p):=by
 unfold cov;split
 .exact zA3.mono l
 .split
  .exact zCS.mono l
  .exact h
def h13:zJI F13:=zOv (nm:=3) (n1:=2) rfl rfl h3
def h14:zHo F14:=zPQ (nt:=4) rfl h4
def h22:zLx (λ_ _=>True) F22:=zKN (nu:=8) (ns:=22) rfl h8 λ_ _=>⟨_,rfl,(zKN (nu:=8) (ns:=22) rfl h8 λh z=>absurd z h)⟩
def h23:zLv F23:=zMI rfl rfl rfl rfl h5 h3 h2 h4
def h27:zQu F27:=zPW (na:=26) rfl (zNh (nu:=8) rfl h8)
def h28:zLr F28:=zMB rfl rfl rfl rfl h27 (zTd true rfl rfl h22 h23) (zTd false (nn:=22) (nr:=23) rfl rfl h22 h23) h8
def h29:MidF F29:=zRz rfl rfl rfl h4 h2
def h32:zHn F32:=zJ1 (ns:=28) (np:=30) (no:=31) rfl rfl rfl h28 (zUD (nw:=10) (nm:=29) rfl rfl h10 h29) zUE
def h33:zNl F33:=zQJ rfl h3
def h36:AllF F36:=zTl (ns:=21) (np:=32) rfl rfl zMD h32
def h37:RowF F37:=zRJ (np:=2) (nt:=7) (ng:=0) rfl rfl rfl h2 h7
def h40n (Q:R->Prop)(h:Q (ratD 1,.cl)):EvP (F40 [.non]) Q:=by
 (walk_at "d");unfold b40;(walk_at "w");refine⟨(.bl true,.cl),rfl,true,rfl,?_⟩;(walk_at "w");exact h
def h40 (t:Rat)(Q:R->Prop)(h:Q (ratD t,.cl)):EvP (F40 [ratD t]) Q:=by
 (walk_at "d");unfold b40;(walk_at "w");refine⟨(.bl false,.cl),rfl,false,rfl,?_⟩;(walk_at "w");exact h
def h48:zTs F48:=zQk
def h49:zTm F49:=λi Q h=>zL4 h
def h50:zLs F50:=zJd
def h51:LowF F51:=zR9
def I255 (i:Int):Prop:=0<=i/\i<=255
def h56 (c:Int)(Q:R->Prop)(h:∀ r g b:Int,I255 r->I255 g->I255 b->Q (inkD r g b,.cl)):EvP (F56 [.int c]) Q:=by
 have j:∀ x:Int,I255 (x.fmod 256):=λx=>by
  have f:=xQ x (show (0:Int) < 256 by decide);have k:=fmod_lt_of_pos x (show (0:Int) < 256 by decide);exact⟨f,by omega⟩
 (walk_at "d");unfold b56;(walk_at "st");refine zAG ?_;(walk_at "e");refine zBD (by decide) ?_;(walk_at "e");refine zCP (zBh (by decide) (by decide)) ?_;(walk_at "e");refine zBD (by decide) ?_;(walk_at "e");refine zCP (zBh (by decide) (by decide)) ?_;(walk_at "e");refine zBD (by decide) ?_;have f:=xQ (c.fdiv 256) (show (0:Int) < 3 by decide);have k:=fmod_lt_of_pos (c.fdiv 256) (show (0:Int) < 3 by decide);obtain⟨g,l,m⟩:∃ g:Int,I255 g/\atI [D.int 255,.int 0,.int ((c.fdiv 3).fmod 256)] ((c.fdiv 256).fmod 3)=some (.int g):=by
  generalize (c.fdiv 256).fmod 3=i at f k;have a:i=0\/i=1\/i=2:=by omega
  rcases a with rfl | rfl | rfl
  .exact ⟨255,⟨by decide,by decide⟩,rfl⟩
  .exact ⟨0,⟨by decide,by decide⟩,rfl⟩
  .exact ⟨_,j _,rfl⟩
 refine zA5 m (n_cl ?_);(walk_at "e");refine zCP (zBh (by decide) (by decide)) ?_;(walk_at "e");refine zBD (by decide) ?_;(walk_at "e");exact h _ _ _ (j _) l (j _)
def At3F (F:List D->Option R):Prop:=∀ (x:Int) (m:Nat) (Q:R->Prop),m<=10->(∀ q:Rat,RB 7 q->Q (ratD q,.cl))->EvP (F [.int x,.int m]) Q
def h53:At3F F53:=λx m Q o h=>by
 (walk_at "d");unfold b53;(walk_at "st");refine zAG ?_;(walk_at "e");refine zBD (by decide) ?_;have c:=xQ x (show (0:Int) < 4 by decide);have f:=fmod_lt_of_pos x (show (0:Int) < 4 by decide);obtain⟨b,b1,b2,g⟩:∃ b:Int,1<=b/\b<=4/\atI [D.int 1,.int 2,.int 4,.int 3] (x.fmod 4)=some (.int b):=by
  generalize x.fmod 4=i at c f;have a:i=0\/i=1\/i=2\/i=3:=by omega
  rcases a with rfl | rfl | rfl | rfl
  .exact ⟨1,by decide,by decide,rfl⟩
  .exact ⟨2,by decide,by decide,rfl⟩
  .exact ⟨4,by decide,by decide,rfl⟩
  .exact ⟨3,by decide,by decide,rfl⟩
 refine zA5 g ?_;(walk_at "e");refine zHa rfl ?_;(walk_at "w");refine zCP (zBh (by decide) (by decide)) ?_;(walk_at "w");refine zBC (zCX (by omega)) ?_;(walk_at "w");refine zBD (by have:=Int.mul_pos (show 0 < b by omega) (show (0:Int) < m+2 by omega);omega) ?_;(walk_at "w");refine h51 _ _ _ (by omega) ?_;(walk_at "w");have p:=Int.mul_pos (show 0 < b by omega) (show (0:Int) < m+2 by omega);have l:b*((m:Int)+2)<=4*12:=Int.mul_le_mul b2 (by omega) (by omega) (by decide);have j:=xQ (x.fdiv 4) (show (0:Int) < b*(m+2)+1 by omega);have n:=fmod_lt_of_pos (x.fdiv 4) (show (0:Int) < b*(m+2)+1 by omega);exact h _ (zEw (by omega) (zDm (k:=100) (by omega) (by decide)) (zDm (k:=100) (by omega) (by decide)))
structure Kq (B μ2:Mem):Prop where
 le:B.length<=μ2.length
 kp:∀ x,x < B.length->μ2[x]?=B[x]?
def zAv {γ:Mem}:Kq B (B++γ):=⟨by rw[List.length_append];omega,λx a=>getElem?_append_left a⟩
def zE5 :Kq B B:=⟨le_refl _,λ_ _=>rfl⟩
def Kq.trans {μ2:Mem}(a:Kq B μ2)(b:Kq μ2 B3):Kq B B3:=⟨le_trans a.le b.le,λx c=>(b.kp x (xj c a.le)).trans (a.kp x c)⟩
def Kq.ll {μ2:Mem}(k:Kq B μ2)(e:Ll B n l):Ll μ2 n l:=e.keep (k.kp n e.lt.1) λp a=>k.kp p.1 (e.lt.2 p a)
def Kq.get {μ2:Mem}{n:Nat}(k:Kq B μ2)(e:B[n]?=some ws):μ2[n]?=some ws:=(k.kp n (zzg e).1).trans e
def Kq.set {μ2:Mem}(k:Kq B μ2)(h:B.length<=n):Kq B (μ2.set n ws):=⟨by rw[length_set];exact k.le,λx a=>(getElem?_set_ne (by omega)).trans (k.kp x a)⟩
def Kq.app {μ2 γ:Mem}(k:Kq B μ2):Kq B (μ2++γ):=k.trans zAv
def zMh (e:Ll B n l):∀ p∈l,p.1≠n:=λp a z=>by
 have h1:=e.row p a;rw[z,e.top] at h1;have h2:=xy h1;cases l with
 | nil=>exact absurd a (by simp)
 | cons q l =>
  cases h3:p.2 with
  | nil=>rw[h3] at h2;cases h2
  | cons d b=>rw[h3] at h2;cases h2
structure Rw (B:Mem)(n b:Nat)(l:Lp)(rows:List (List D)):Prop where
 ll:Ll B n l
 lo:∀ p∈l,b<=p.1
 top:b<=n
 snd:l.map (λp=>p.2)=rows
def Rw.len (e:Rw B n b l rows):l.length=rows.length:=by rw[<- e.snd,qy]
def Rw.dr (e:Rw B n b l rows):drW B (.loc n)=some (.lst (rows.map .lst)):=by
 rw[e.ll.dr,<- e.snd,map_map]
 rfl
def Rw.keep {μ2:Mem}(e:Rw B n b l rows)(k:Kq B μ2):Rw μ2 n b l rows:=⟨k.ll e.ll,e.lo,e.top,e.snd⟩
def Rw.lt (e:Rw B n b l rows):n < B.length:=e.ll.lt.1
def Rw.below (e:Rw B n b l rows)(h:c<=b):Rw B n c l rows:=⟨e.ll,λp a=>le_trans h (e.lo p a),le_trans h e.top,e.snd⟩
theorem Rw.at (e:Rw B n b l rows){j:Nat}(h:rows[j]?=some ds):∃ m,l[j]?=some (m,ds):=by
 rw[<- e.snd,getElem?_map] at h;obtain⟨p,h1,h2⟩:=x9.mp h;exact⟨p.1,by rw[h1,<- h2]⟩
def zKh (e:Ll B n l)(h:B[r]?=some (ds.map .dat))(b:r≠n):Ll (B.set n (l.map (λp=>W.loc p.1)++[.loc r])) n (l++[(r,ds)]):=by
 refine⟨?_,λp a=>?_⟩
 .rw [getElem?_set_self e.lt.1,xY]
  rfl
 .rcases mem_append.mp a with z | z
  .rw [getElem?_set_ne (Ne.symm (zMh e p z))];exact e.row p z
  .rw [mem_singleton.mp z,getElem?_set_ne (Ne.symm b)];exact h
def zJm {O:Type}{J:Gm}{U:Dm}{nm:Str}{N n b:Nat}{k:List Nat}{src E:ME}{G:List (Option W)}{L B:Mem}{l:Lp}{as:List O}{u v:O->List D}{Q:MR->Prop}(Y:EvP (evSrc J U src ⟨G,L⟩) λr=>r=(.live n,B))(e:Rw B n b l (as.map u))(hN:(mask none k G).length=N)(hl:as.length<=100)
  (S:∀ (γ:Mem) (m:Nat) (a:O),a∈as->(B++γ)[m]?=some ((u a).map .dat)->EvP (evM J U E ⟨mask none k G++[some (.loc m)],B++γ⟩) λr=>r=(.loc (B++γ).length,B++γ++[(v a).map .dat]))
  (Z:∀ (γ:Mem) (l':Lp),Rw (B++γ) (B.length+as.length) B.length l' (as.map v)->Q (.loc (B.length+as.length),B++γ)) :
  EvP (evM J U (.comp N k nm src E) ⟨G,L⟩) Q:=by
 obtain⟨r,R,rfl⟩:=Y;refine zE3 ⟨_,R,?_⟩;have ll:=e.len;rw[qy] at ll;obtain⟨y,s',M,V,⟨o,x,A,X⟩,p4⟩:=zFG (t:=tgM N) (e:=evM J U E) (src:=.live n) (s:=⟨mask none k G++[none],B⟩) (l.map λp=>.loc p.1)
  (λj s d=>∃ o:Option W,s=⟨mask none k G++[o],B++(as.take j).map λa=>(v a).map W.dat⟩/\d=news B.length j/\j<=as.length) (λj s d f=>by obtain⟨o,x,_,_⟩:=f;subst x;exact zAJ e.ll.top) (λj w s d K g=>by
   obtain⟨o,x,A,X⟩:=g;subst x A;rw[getElem?_map] at K;obtain⟨p,H,rfl⟩:=x9.mp K;have c:j < as.length:=by rw[<- ll];exact(zzg H).1
   have z:as[j]?=some as[j]:=getElem?_eq_getElem c;have F:p.2=u as[j]:=by
    have h1:(l.map λp=>p.2)[j]?=some p.2:=by rw[getElem?_map,H];rfl
    rw[e.snd,getElem?_map,z] at h1;exact(xy h1).symm
   have T:=mem_of_getElem? H;have P:=e.ll.row p T;rw[F] at P;have h:(B++(as.take j).map λa=>(v a).map W.dat).length=B.length+j:=by rw[List.length_append,qy,length_take];omega
   refine⟨by rw[zB9];omega,⟨mask none k G++[some (.loc p.1)],B++(as.take j).map λa=>(v a).map W.dat⟩,(.loc (B++(as.take j).map λa=>(v a).map W.dat).length,(B++(as.take j).map λa=>(v a).map W.dat)++[(v as[j]).map .dat]),?_,(S _ p.1 as[j] (mem_of_getElem? z) (zAJ P)).eq,some (.loc p.1),?_,?_,by omega⟩
   .unfold tgM;dsimp only;rw[set_append_right _ _ (by omega),hN,sub_self]
    rfl
   .rw [List.take_add_one,z,Option.toList_some,xY,qJ];rfl
   .rw [zDI,h]) ⟨none,by rw[take_zero,map_nil,append_nil],rfl,zero_le _⟩
 rw[qy,ll] at x A;subst x;rw[List.take_length] at p4;have F:y=(news B.length as.length,B++as.map λa=>(v a).map W.dat):=Prod.ext A p4.symm;refine⟨y,M,V,by rw[A,zB9];omega,?_⟩;rw[F];have h:(B++as.map λa=>(v a).map W.dat).length=B.length+as.length:=by rw[List.length_append,qy]
 dsimp only;rw[h,qJ];have I:∀ p∈(List.range as.length).map (λj=>(B.length+j,((as[j]?).map v).getD [])),∃ j,j < as.length/\∃ a,as[j]?=some a/\p=(B.length+j,v a):=λp C=>by
  obtain⟨j,c,rfl⟩:=mem_map.mp C;have c:=mem_range.mp c;exact⟨j,c,as[j],getElem?_eq_getElem c,by rw[getElem?_eq_getElem c];rfl⟩
 refine Z _ ((List.range as.length).map λj=>(B.length+j,((as[j]?).map v).getD [])) ⟨⟨?_,λp C=>?_⟩,λp C=>?_,Nat.le_add_right _ _,?_⟩
 .rw [<- qJ,getElem?_append_right (by rw[h];exact le_refl _),h,sub_self,map_map]
  rfl
 .obtain ⟨j,c,a,z,rfl⟩:=I p C;dsimp only;rw[<- qJ,getElem?_append_left (by rw[h];omega),getElem?_append_right (by omega),Nat.add_sub_cancel_left,getElem?_map,z]
  rfl
 .obtain ⟨j,c,a,z,rfl⟩:=I p C;exact Nat.le_add_right _ _
 .rw [map_map];apply ext_getElem?;intro i;rw[getElem?_map,getElem?_map];by_cases q:i < as.length
  .rw [getElem?_range q,getElem?_eq_getElem q];simp[getElem?_eq_getElem q]
  .rw [getElem?_eq_none (by rw[length_range];omega),getElem?_eq_none (by omega)]
   rfl
def zRK {O:Type}{J:Gm}{U:Dm}{nm:Str}{N m:Nat}{f:List Nat}{src i:ME}{G:List (Option W)}{B:Mem}{as:List O}{u v:O->D}{Q:MR->Prop}(x:EvP (evSrc J U src ⟨G,B⟩) λr=>r=(.live m,B))(e:B[m]?=some ((as.map u).map .dat))(A:(mask none f G).length=N)(I:as.length<=100)
  (C:∀ a∈as,EvP (evM J U i ⟨mask none f G++[some (.dat (u a))],B⟩) λr=>r=(.dat (v a),B)) (z:Q (.loc B.length,B++[(as.map v).map .dat])) :
  EvP (evM J U (.comp N f nm src i) ⟨G,B⟩) Q:=by
 obtain⟨r,q,rfl⟩:=x;refine zE3 ⟨_,q,?_⟩;obtain⟨y,L,M,E,⟨o,H,n⟩,p4⟩:=zFG (t:=tgM N) (e:=evM J U i) (src:=.live m) (s:=⟨mask none f G++[none],B⟩) ((as.map u).map .dat)
  (λj s d=>∃ o:Option W,s=⟨mask none f G++[o],B⟩/\d=((as.map v).take j).map W.dat) (λj s d b=>by obtain⟨o,h,_⟩:=b;subst h;exact e) (λj w s d l c=>by
   obtain⟨o,h,F⟩:=c;subst h F;rw[getElem?_map,getElem?_map] at l;obtain⟨K,g,rfl⟩:=x9.mp l;obtain⟨a,p,rfl⟩:=x9.mp g;refine⟨by rw[qy,length_take,qy];omega,⟨mask none f G++[some (.dat (u a))],B⟩,(.dat (v a),B),?_,(C a (mem_of_getElem? p)).eq,some (.dat (u a)),rfl,?_⟩
   .unfold tgM;dsimp only;rw[set_append_right _ _ (by omega),A,sub_self]
    rfl
   .rw [List.take_add_one,getElem?_map,p,xY]
    rfl) ⟨none,rfl,rfl⟩
 rw[qy,qy] at n;subst H;have k:y=((as.map v).map W.dat,B):=Prod.ext (by rw[n,take_of_length_le (by rw[qy];exact le_refl _)]) p4.symm;refine⟨y,M,E,by rw[k];show ((as.map v).map W.dat).length<=_;rw[qy,qy];omega,?_⟩;rw[k];exact z
def Six (ps:List Pt):Prop:=ps.length<=4/\∀ p∈ps,PB 7 p
def zBm {i:Int}(h:i.natAbs<=100):RB 7 (i:Rat):=zHx (zDm (k:=100) h (by decide)) (by decide)
def zKP (ps:List Pt):noLs (ps.map ptD)=true:=by
 induction ps with
 | nil=>rfl
 | cons p ps a =>
  show (noL (ptD p)&&noLs (ps.map ptD))=true;rw[a]
  rfl
def h54 (w h:Nat)(f c g b:Int)(xs:List D)(Q:R->Prop)(l:w<=10)(i:h<=10)(r:∀ ps:List Pt,Six ps->Q (zIo ps,.fr)):EvP (F54 [.lst (.int f::.int c::.int g::.int b::xs),.int w,.int h]) Q:=by
 have a:∀ (x:Int) (n:Nat),n<=10->0<=x.fmod (n+1)/\x.fmod (n+1)<=10:=λx n u=>by
  have t:=xQ x (show (0:Int) < n+1 by omega);have v:=fmod_lt_of_pos x (show (0:Int) < n+1 by omega);omega
 have p:=a f w l;have m:=a c h i;have o:=a g w l;have s:=a b h i;(walk_at "d");unfold b54;(walk_at "st");refine zAG (zCc (zAi (zAi (zC5 (zAN rfl (zAh (zA5 (d:=.int f) (zAl (j:=0) rfl) ?_)))))));(walk_at "e");refine zBD (by omega) ?_;(walk_at "e");refine zAG (zCc (zAi (zAi (zC5 (zAN rfl (zAh (zA5 (d:=.int c) (zAl (j:=1) rfl) ?_)))))));(walk_at "e");refine zBD (by omega) ?_;(walk_at "e");refine zAG (zCc (zAi (zAi ?_)));(walk_at "e");refine zA5 (d:=.int g) (zAl (j:=2) rfl) ?_;(walk_at "e");refine zBD (by omega) ?_;(walk_at "e");refine zAG (zCc (zAi (zAi ?_)));(walk_at "e");refine zA5 (d:=.int b) (zAl (j:=3) rfl) ?_;(walk_at "e");refine zBD (by omega) ?_;(walk_at "e");generalize f.fmod ((w:Int)+1)=y0 at p;generalize c.fmod ((h:Int)+1)=y1 at m;generalize g.fmod ((w:Int)+1)=y2 at o;generalize b.fmod ((h:Int)+1)=y3 at s;have q:=r [(((y0 - 1:Int):Rat),((y1 - 1:Int):Rat)),(((y0 - 1+1+y2:Int):Rat),((y1 - 1:Int):Rat)),(((y0 - 1+1+y2:Int):Rat),((y1 - 1+1+y3:Int):Rat)),(((y0 - 1:Int):Rat),((y1 - 1+1+y3:Int):Rat))] ⟨by show 4<=4;decide,λp k=>by
  simp only[mem_cons,not_mem_nil,or_false] at k;rcases k with rfl | rfl | rfl | rfl
  .exact ⟨zBm (by omega),zBm (by omega)⟩
  .exact ⟨zBm (by omega),zBm (by omega)⟩
  .exact ⟨zBm (by omega),zBm (by omega)⟩
  .exact ⟨zBm (by omega),zBm (by omega)⟩⟩
 (walk_at "w");simp only[zFp];exact q
def idx (e:((rngL 0 n).map W.dat)[j]?=some y):y=.dat (.int (j:Int))/\j < n:=by
 have a:j < n:=by
  have:=(zzg e).1;rw[qy,zAd] at this;omega
 unfold rngL at e
 simp_all
def nrng :((rngL 0 n).map W.dat).length=n:=by rw[qy,zAd]
abbrev zDY (xs:List Int):List W:=(xs.map D.int).map .dat
def zAT {B:Mem}{a:List W}:(B++[a])[B.length]?=some a:=by simp
def zFo {B:Mem}{a vs:List W}:(B++[a]).set B.length vs=B++[vs]:=by simp
def nine {xs:List Int}(h:xs.length=9):∃ a b c d e f g i j,xs=[a,b,c,d,e,f,g,i,j]:=by
 iterate 9 (rcases xs with _|⟨_,xs⟩;cases h;replace h:=Nat.succ.inj h)
 cases List.eq_nil_of_length_eq_zero h;exact⟨_,_,_,_,_,_,_,_,_,rfl⟩
def shI (c:Int)(w h:Nat)(B:Mem)(j:Nat)(s:Mst):Prop:=∃ (x3:Int) (o5 o6 o7 o8:Option W) (B':Mem) (l:Lp) (rs:List (List Pt)),s=⟨[some (.dat (.int c)),some (.dat (.int (w:Int))),some (.dat (.int (h:Int))),some (.dat (.int x3)),some (.loc B.length),o5,o6,o7,o8],B'⟩/\Kq B B'/\Rw B' B.length B.length l (rs.map λps=>ps.map ptD)/\rs.length=j/\∀ ps∈rs,Six ps
def m55 (c:Int)(w h:Nat)(M:w<=10)(L:h<=10)(B:Mem)(Q:MR->Prop)(S:∀ (B':Mem) (n:Nat) (l:Lp) (rs:List (List Pt)),Kq B B'->Rw B' n B.length l (rs.map λps=>ps.map ptD)->rs.length<=2->(∀ ps∈rs,Six ps)->Q (.loc n,B')):EvP (FM55 [.dat (.int c),.dat (.int (w:Int)),.dat (.int (h:Int))] B) Q:=by
 refine zCb rfl (by decide) ?_;unfold mb55;show EvP (evSs' GL3 D25 _ ⟨[some (.dat (.int c)),some (.dat (.int (w:Int))),some (.dat (.int (h:Int))),none,none,none,none,none,none],B⟩) _;refine zAK (zCu (zBB rfl (zAi (zAi (zAN (zAc rfl zAk) (zAh (zBD (by decide) (zAh (zJE (zBS rfl (zA4 ?_)))))))))));(walk_at "s");refine zAK (zCu (zKb (zAz ⟨zero_le _,zA4 ?_⟩)));(walk_at "s");have Z:=xQ c (show (0:Int) < 8 by decide);have X:=fmod_lt_of_pos c (show (0:Int) < 8 by decide);obtain⟨k,hk,U⟩:∃ k:Nat,k<=2/\atI (([1,1,1,1,0,1,1,1]:List Int).map λi=>W.dat (.int i)) (c.fmod 8)=some (.dat (.int (k:Int))):=by
  generalize c.fmod 8=i at Z X;have g:i=0\/i=1\/i=2\/i=3\/i=4\/i=5\/i=6\/i=7:=by omega
  rcases g with rfl | rfl | rfl | rfl | rfl | rfl | rfl | rfl
  .exact ⟨1,by decide,rfl⟩
  .exact ⟨1,by decide,rfl⟩
  .exact ⟨1,by decide,rfl⟩
  .exact ⟨1,by decide,rfl⟩
  .exact ⟨0,by decide,rfl⟩
  .exact ⟨1,by decide,rfl⟩
  .exact ⟨1,by decide,rfl⟩
  .exact ⟨1,by decide,rfl⟩
 refine zAK (zDS (zCR (m_ix (zBB rfl ?_))));refine zOS ?_;(walk_at "w");refine zJH rfl ?_;refine zBB rfl (zAi (zAN (zAc rfl zAk) (zAh (zBD (by decide) (zBS rfl (zCx zAT U ⟨_,rfl,by omega,?_⟩))))));rw[toNat_natCast];have kM:Kq B (B++[[]]++[(([1,1,1,1,0,1,1,1]:List Int).map λi=>W.dat (.int i))]):=zAv.app;have Y:(B++[[]]++[(([1,1,1,1,0,1,1,1]:List Int).map λi=>W.dat (.int i))])[B.length]?=some []:=zAJ zAT;refine zBg (s:=⟨_,_⟩) ((rngL 0 k).map .dat) (shI c w h B) (λj s _=>rfl) ?_ ?_ ⟨_,none,none,none,none,_,[],[],rfl,kM,⟨⟨Y,λp o=>absurd o (by simp)⟩,λp o=>absurd o (by simp),le_refl _,rfl⟩,rfl,by simp⟩
 .rintro j y s D ⟨x3,T,o6,b,u,B',l,rs,rfl,I,r,G,H⟩;obtain⟨rfl,V⟩:=idx D;refine⟨_,rfl,?_⟩;dsimp only;(walk_at "s");have ln:B.length < B'.length:=r.lt;have A:∀ (x3:Int) (a:List Int) (ps:List Pt) (b u:Option W),Six ps ->
    shI c w h B (j+1) ⟨[some (.dat (.int c)),some (.dat (.int (w:Int))),some (.dat (.int (h:Int))),some (.dat (.int x3)),some (.loc B.length),some (.dat (.int (j:Int))),some (.loc B'.length),b,u],List.set (B'++[zDY a]++[(ps.map ptD).map W.dat]) B.length (l.map (λp=>W.loc p.1)++[W.loc (B'++[zDY a]).length])⟩:=λx3 a ps b u h6=>by
   have Rx:=r.keep (μ2:=B'++[zDY a]++[(ps.map ptD).map .dat]) zAv.app;have ne:(B'++[zDY a]).length≠B.length:=by rw[List.length_append];omega
   refine⟨x3,_,_,b,u,_,l++[((B'++[zDY a]).length,ps.map ptD)],rs++[ps],rfl,(I.app.app).set (le_refl _),⟨zKh Rx.ll zAT ne,λp o=>?_,le_refl _,?_⟩,by rw[List.length_append,G];rfl,λx v=>?_⟩
   .rcases mem_append.mp o with z | z
    .exact r.lo p z
    .rw [mem_singleton.mp z];show B.length<=(B'++[zDY a]).length;rw[List.length_append];omega
   .rw [xY,r.snd,xY];rfl
   .rcases mem_append.mp v with z | z
    .exact H x z
    .rw [mem_singleton.mp z];exact h6
  refine zAK (zCu (zKb (zAz ⟨zero_le _,zA4 ?_⟩)));(walk_at "s");refine zAK (zDS (zCR (zBB rfl (zAh (zBS rfl ⟨_,rfl,by decide,?_⟩)))));refine zBg (s:=⟨_,_⟩) ((rngL 0 9).map .dat) (λi s=>∃ (x3:Int) (b:Option W) (a:List Int),s=⟨[some (.dat (.int c)),some (.dat (.int (w:Int))),some (.dat (.int (h:Int))),some (.dat (.int x3)),some (.loc B.length),some (.dat (.int (j:Int))),some (.loc B'.length),b,u],B'++[zDY a]⟩/\a.length=i) (λ_ _ _=>rfl) ?_ ?_ ⟨x3,b,[],rfl,rfl⟩
  .rintro i y s D ⟨x3,b,a,rfl,v⟩;obtain⟨rfl,O⟩:=idx D;refine⟨_,rfl,?_⟩;dsimp only;(walk_at "s");refine zAK (zCu (zBB rfl (zAi (zAi (zAN (zAc rfl zAk) (zAh (zBC (zEJ (by decide)) (zAh (zBD (by decide) (zBS rfl (zA4 ?_)))))))))));(walk_at "s");refine zAK (zDj (zAR rfl (zBB rfl (zAi (zAN (zAc rfl zAk) (zAh (zCP (zBh (by decide) (by decide)) (zBS rfl ⟨_,_,rfl,zAT,by rw[qy,qy];omega,zA4 (zBw ?_)⟩))))))));dsimp only;rw[zFo];exact⟨_,_,a++[((x3*48271).fmod 2147483647).fdiv 11],by simp only[zDY,xY,map_cons,map_nil];rfl,by rw[List.length_append,v];rfl⟩
  .rintro s ⟨x3,b,a,rfl,v⟩;rw[nrng] at v;obtain⟨N,a1,P,a3,a4,a5,a6,a7,C,F⟩:=nine v;have K:drW (B'++[zDY a]) (.loc B'.length)=some (.lst (a.map .int)):=zDK zAT;have top:(B'++[zDY a])[B.length]?=some (l.map λp=>.loc p.1):=zAJ r.ll.top;have E:(l.map λp=>W.loc p.1).length<=10000:=by rw[qy,r.len,qy,G];omega
   refine zA4 (zAK (zHu (zQ2 rfl (zFB (zAi (zAi (zAN (zAc rfl zAk) (zAh (zCP (zBh (by decide) (by decide)) (zAh (zBD (by decide) (zAh (zTg ?_)))))))))))));refine⟨_,rfl,λ_=>?_,λ_=>?_⟩
   .refine zAK (zDj (zAR rfl (zBB rfl (zAL rfl (zAH (zAN (zAc rfl K) (n_cl (zAH (zAN (zAc rfl zAk) (n_cl (zAH (zAN (zAc rfl zAk) (n_cl (zAn ?_))))))))))))));rw[F];refine h54 w h N a1 P a3 _ _ M L λps h6=>?_
    refine n_fr (zJH (zKP ps) ⟨_,_,rfl,zAJ (by rw[<- F];exact top),E,zA4 (zBw (zA4 (zBw ?_)))⟩);dsimp only;rw[<- F];exact A x3 a ps _ _ h6
   .refine zAK (zCu (zKb (zAz ⟨zero_le _,zA4 ?_⟩)));(walk_at "s");have f:∀ γ:Mem,drW (B'++[zDY a]++γ) (.loc B'.length)=some (.lst (a.map .int)):=fun γ=>zDK (zAJ zAT)
    have t:∀ (i:Nat) (x:Int),a[i]?=some x->∀ {Q:R->Prop},Q (.int x,.cl)->EvP (ixD (.lst (a.map .int)) (.int (i:Int))) Q:=λi x e {Q} q=>zA5 (zAl (by rw[getElem?_map,e];rfl)) q
    have e1:=xQ C (show (0:Int) < 2 by decide);have e2:=fmod_lt_of_pos C (show (0:Int) < 2 by decide);obtain⟨m,hm,em⟩:∃ m:Nat,m<=4/\3+C.fmod 2=(m:Int):=⟨(3+C.fmod 2).toNat,by omega,by omega⟩;refine zAK (zDS (zCR (zBB rfl (zAi (zAh (zAi (zC5 (zAN (zAc rfl (f _)) (zAh (t 8 C (by rw[F];rfl) (zAh (zBD (by decide) (zJE (zBS rfl ⟨_,rfl,by omega,?_⟩))))))))))))));rw[em,toNat_natCast];refine zBg (s:=⟨_,_⟩) ((rngL 0 m).map .dat) (λi s=>∃ (b:Option W) (ps:List Pt),s=⟨[some (.dat (.int c)),some (.dat (.int (w:Int))),some (.dat (.int (h:Int))),some (.dat (.int x3)),some (.loc B.length),some (.dat (.int (j:Int))),some (.loc B'.length),b,some (.loc (B'++[zDY a]).length)],B'++[zDY a]++[(ps.map ptD).map .dat]⟩/\ps.length=i/\∀ p∈ps,PB 7 p) (λ_ _ _=>rfl) ?_ ?_ ⟨b,[],rfl,rfl,by simp⟩
    .rintro i y s D ⟨b,ps,rfl,o,J⟩;obtain⟨rfl,O⟩:=idx D;refine⟨_,rfl,?_⟩;dsimp only;(walk_at "s");have b1:2*i < a.length:=by omega
     have b2:2*i+1 < a.length:=by omega
     refine zAK (zDj (zAR rfl (zBB rfl (zII (zAH (zAL rfl (zAH (zC5 (zAN (zAc rfl (f _)) (zAi (zAh (zAN (zAc rfl zAk) (zBC (zCX (by decide)) ?_)))))))))))));rw[show (2:Int)*(i:Int)=((2*i:Nat):Int) by omega];refine t _ _ (getElem?_eq_getElem b1) (n_cl (zAH (zAN (zAc rfl zAk) (n_cl (zAn ?_)))));refine h53 _ w _ M λq1 r1=>n_cl (n_cl (zAH (zAL rfl (zAH (zC5 (zAN (zAc rfl (f _)) (zAi (zAi (zAh (zAN (zAc rfl zAk) (zBC (zCX (by decide)) (zAh (zJE ?_)))))))))))))
     rw[show (2:Int)*(i:Int)+1=((2*i+1:Nat):Int) by omega];refine t _ _ (getElem?_eq_getElem b2) (n_cl (zAH (zAN (zAc rfl zAk) (n_cl (zAn ?_)))));refine h53 _ h _ L λq2 r2=>n_cl (n_cl (zAn ⟨by show 2<=10000;decide,zBS rfl ⟨_,_,rfl,zAT,by rw[qy,qy];omega,zA4 (zBw ?_)⟩⟩))
     dsimp only;rw[zFo];refine⟨_,ps++[(q1,q2)],by simp only[xY,map_cons,map_nil];rfl,by rw[List.length_append,o];rfl,λp hq=>?_⟩;rcases mem_append.mp hq with z | z
     .exact J p z
     .rw [mem_singleton.mp z];exact⟨r1.mono (by decide),r2.mono (by decide)⟩
    .rintro s ⟨b,ps,rfl,o,J⟩;rw[nrng] at o;refine zA4 (zAK (zDj (zAR rfl (zAR rfl ⟨_,_,rfl,zAJ top,E,zA4 (zBw (zA4 (zBw ?_)))⟩))));dsimp only;exact A x3 a ps _ _ ⟨by omega,J⟩
 .rintro s ⟨x3,T,o6,b,u,B',l,rs,rfl,I,r,G,H⟩;rw[nrng] at G;exact zA4 (zAK (zBz (zAR rfl (zEP (S B' _ l rs I r (by omega) H)))))
def zLH (e:G[i]?=some (some (.fn n x,false)))(c:J.fns[n]?=some (x,F))(h:EvP (evE J a G) λy=>y.2≠.dt/\EvP (F [y.1]) λr=>r.2≠.dt/\Q r):EvP (evE J (.callv i a) G) Q:=by
 obtain⟨y,d,g,r,b,j,q⟩:=h;refine⟨r,?_,q⟩;show zEi J.lm J.fns i _ G=_;unfold zEi;have f:fnvF J.fns n x [y.1]=some r:=by unfold fnvF;rw[c];exact(if_pos rfl).trans b
 simp_all
def CV (f d d':D):Prop:=∀ (G:Dst) (i j:Nat) (Q:R->Prop),G[i]?=some (some (f,false))->G[j]?=some (some (d,false))->Q (d',.cl)->EvP (evE GL3 (.callv i (.var j)) G) Q
def zTa (b:GL3.fns[n]?=some (x,F))(h:∀ Q:R->Prop,Q (d',.cl)->EvP (F [d]) Q):CV (.fn n x) d d':=λG i j Q c a q =>
 zLH c b (zAN a ⟨(λz=>nomatch z),h _ ⟨(λz=>nomatch z),q⟩⟩)
def zLb (b:GL3.lm[J]?=some (L,FL))(h:∀ Q:R->Prop,Q (d',.cl)->EvP (FL (d::dl)) Q):CV (.lam J L dl) d d':=λG i j Q c a q =>
 zNB c b (zAN a ⟨(λz=>nomatch z),h _ ⟨(λz=>nomatch z),q⟩⟩)
def m41 {f:D}(j:noL f=true){O:Type}{rows:List (List O)}{u v:O->D}{n b:Nat}{B:Mem}{l:Lp}{Q:MR->Prop}(e:Rw B n b l (rows.map (List.map u)))(a:rows.length<=100)(i:∀ qs∈rows,qs.length<=100/\∀ q∈qs,CV f (u q) (v q)/\noL (v q)=true)
  (h:∀ (γ:Mem) (l':Lp),Rw (B++γ) (B.length+rows.length) B.length l' (rows.map (List.map v))->Q (.loc (B.length+rows.length),B++γ)):EvP (FM41 [.loc n,.dat f] B) Q:=by
 refine zCb rfl (by decide) ?_;unfold mb41;show EvP (evSs' GL3 D3 _ ⟨[some (.loc n),some (.dat f)],B⟩) _;refine zAK (zBz (zJm (as:=rows) (u:=List.map u) (v:=List.map v) (zDR (zAR rfl ⟨n,rfl,rfl⟩)) e rfl a (fun γ m qs hq em=>?_) fun γ l' R'=>zEP (h γ l' R')));show EvP (evM GL3 D3 _ ⟨[some (.loc n),some (.dat f),some (.loc m)],B++γ⟩) _;obtain⟨h1,h2⟩:=i qs hq;refine zRK (as:=qs) (u:=u) (v:=v) (zDR (zAR rfl ⟨m,rfl,rfl⟩)) em rfl h1 (λq d=>?_) rfl;obtain⟨c,g⟩:=h2 q d;exact zBB rfl (c _ 1 3 _ (zAc rfl zAk) (zAc rfl zAk) (zBS g rfl))
def zEL {O M:Type}{f:O->M}{d:O}:∀ {n:Nat} {l:List O},l.length=n->l.map f=(List.range n).map λi=>f (l.getD i d):=λ{n l} e=>by
 subst e;refine ext_getElem? λi=>?_
 rw[getElem?_map,getElem?_map];by_cases h:i < l.length
 .rw [getElem?_range h,getElem?_eq_getElem h];simp[getD_eq_getElem?_getD,h]
 .rw [getElem?_eq_none (by omega),getElem?_eq_none (by simpa using h)];rfl
structure Fl (w h:Nat)(rs:List (List Pt)):Prop where
 w1:1<=w
 w2:w<=7
 h1:1<=h
 h2:h<=7
 rl:rs.length<=2
 six:∀ ps∈rs,Six ps
def Fl.fb (f:Fl w h rs):FlB 7 4 w h rs:=⟨by have:=f.w2;omega,by have:=f.h2;omega,by have:=f.rl;omega,by decide,by decide,f.six⟩
def TabR (w h:Nat)(rs:List (List Pt))(T:List (List Rat)):Prop:=(T.length=h/\∀ qs∈T,qs.length=w/\∀ q∈qs,RB 600000 q)/\∃ zs,ZOk F36 F33 F34 F37 w h (zBc rs) zs λr=>(T.getD r []).map ratD
def tabR (w h:Nat)(rs:List (List Pt)):List (List Rat):=Classical.epsilon (TabR w h rs)
def zD9 (f:Fl w h rs):TabR w h rs (tabR w h rs):=by
 have a:=f.w2;have h2:=f.h2;have m:=Nat.mul_le_mul f.rl (Nat.mul_le_mul_left 4 (show w+h+4<=18 by omega));generalize e:rs.length*(4*(w+h+4))=M at m;have k:=Nat.mul_le_mul (show w+1<=8 by omega) (show M*(48*7+161)+2<=72000 by omega);exact Classical.epsilon_spec (zQw h36 h33 (zMH rfl rfl rfl rfl rfl h4 h33 h3 h29) h37 f.fb (by rw[e];omega) (by rw[e];omega))
def zDy (f:Fl w h rs):(tabR w h rs).length=h:=(zD9 f).1.1
def zDQ (f:Fl w h rs):∀ qs∈tabR w h rs,qs.length<=100/\∀ q∈qs,RB 600000 q:=λqs hq=>by
 have:=(zD9 f).1.2 qs hq;exact⟨by have:=f.w2;omega,this.2⟩
def zT6 (f:TabR w h rs T)(dr:drW B x=some (zBc rs))(b:∀ (γ:Mem) (m:Nat) (l:Lp),Rw (B++γ) m B.length l (T.map (List.map ratD))->Q (.loc m,B++γ)):EvP (FM38 [.dat (.int (w:Int)),.dat (.int (h:Int)),x] B) Q:=by
 obtain⟨⟨tl,_⟩,zs,ok⟩:=f;refine zJj (na:=36) (nf:=33) (nr:=34) (nw:=37) (ne:=0) rfl rfl rfl rfl rfl zNP ok dr fun γ=>?_
 have TT:=zSA (B++γ) (λr=>(T.getD r []).map ratD) h;rw[qJ,qJ B] at TT ⊢;refine b _ _ _ ⟨TT,λp a=>?_,by rw[List.length_append];omega,?_⟩
 .obtain ⟨r,c,rfl⟩:=zKd a;show B.length<=(B++γ).length+r;rw[List.length_append];omega
 .unfold lpT;rw[map_map,zEL tl]
  rfl
def m43 (f:TabR w h rs T)(j:w<=10)(i:h<=10)(dr:drW B x=some (zBc rs))(a:∀ (γ:Mem) (m:Nat) (l:Lp),Rw (B++γ) m B.length l (T.map (List.map λq=>ratD (cov q)))->Q (.loc m,B++γ)):EvP (FM43 [.dat (.int (w:Int)),.dat (.int (h:Int)),x] B) Q:=by
 refine zCb rfl (by decide) ?_;unfold mb43;show EvP (evSs' GL3 D5 _ ⟨[some (.dat (.int (w:Int))),some (.dat (.int (h:Int))),some x],B⟩) _;refine zAK (zBz (zBN (F:=FM41) rfl (zAF (zBN (F:=FM38) rfl (zAF (zAR rfl (zAF (zAR rfl (zAF (zAR rfl (zAz ?_)))))))))));refine(show EvP (FM38 [.dat (.int (w:Int)),.dat (.int (h:Int)),x] B) _ from ?_);refine zT6 f dr fun γ m l R1=>?_
 refine zAF (zBB rfl (zCC (d:=.fn 11 "cover") rfl (zBS rfl (zAz ?_))));refine(show EvP (FM41 [.loc m,.dat (.fn 11 "cover")] (B++γ)) _ from ?_);refine m41 (f:=.fn 11 "cover") rfl (rows:=T) (u:=ratD) (v:=λq=>ratD (cov q)) R1 (by rw[f.1.1];omega) (λqs hq=>⟨by rw[(f.1.2 qs hq).1];omega,λq e=>⟨zTa (F:=F11) rfl λQ b=>h11 q 600000 Q ((f.1.2 qs hq).2 q e) (by decide) (by decide) b,rfl⟩⟩) λO6 g R2=>zEP ?_
 rw[qJ] at R2 ⊢;exact a _ _ _ (R2.below (by rw[List.length_append];omega))
def zKj (h1:ws.length=np)(h2:np<=nN)
  (h:EvP (gp ⟨ws.map some++List.replicate (nN - np) none,B⟩) λo=>∃ s,o=.nx s/\EvP (ge s) λw=>∃ ds,capD ix s.G=some ds/\noLs ds=true/\EvP (Fg [w.1,.dat (.lam j L ds)] w.2) Q):EvP (lamM Fg j L ix np nN gp ge ws B) Q:=by
 obtain⟨o,a,s,rfl,w,d,ds,e,b,r,c,q⟩:=h;refine zCb h1 h2 ⟨.rt r,?_,q⟩;rw[a,qx];unfold retM lamE
 simp_all
def m44 (f:Fl w h rs)(d:RB 80 t)(dr:drW B x=some (zBc rs))(b:∀ (γ:Mem) (m:Nat) (l:Lp),Rw (B++γ) m B.length l ((tabR w h rs).map (List.map λq=>ratD (cov q*t)))->Q (.loc m,B++γ)):EvP (FM44 [.dat (.int (w:Int)),.dat (.int (h:Int)),x,.dat (ratD t)] B) Q:=by
 refine zKj rfl (by decide) ⟨_,rfl,_,rfl,?_⟩;show EvP (evM GL3 D6 me0 ⟨[some (.dat (.int (w:Int))),some (.dat (.int (h:Int))),some x,some (.dat (ratD t))],B⟩) _;unfold me0;refine zBN (F:=FM43) rfl (zAF (zAR rfl (zAF (zAR rfl (zAF (zAR rfl (zAz ?_)))))));refine(show EvP (FM43 [.dat (.int (w:Int)),.dat (.int (h:Int)),x] B) _ from ?_);refine m43 (zD9 f) (by have:=f.w2;omega) (by have:=f.h2;omega) dr fun γ m l R1=>⟨[ratD t],rfl,rfl,?_⟩
 refine m41 (f:=.lam 0 L0 [ratD t]) rfl (rows:=tabR w h rs) (u:=λq=>ratD (cov q)) (v:=λq=>ratD (cov q*t)) R1 (by rw[zDy f];have:=f.h2;omega) (λqs hq=>⟨(zDQ f qs hq).1,λq e=>⟨zLb (FL:=FL0) rfl λQ a=>?_,rfl⟩⟩) λO6 g R2=>?_
 .refine zIB rfl rfl ?_;show EvP (evE G54 lb0 [some (ratD (cov q),false),some (ratD t,false)]) _;unfold lb0;(walk_at "w");refine h4 (cov q) t 600000 80 _ (zGh ((zDQ f qs hq).2 q e) (by decide)) d (by decide) ?_;(walk_at "w");exact a
 rw[qJ] at R2 ⊢;exact b _ _ _ (R2.below (by rw[List.length_append];omega))
abbrev zK9 (a:Nat) (ink:D) (t:Rat):W:=.obj "Fill" ["shape","ink","strength"] [.loc a,.dat ink,.dat (ratD t)]
abbrev rubW (a:Nat) (t:Rat):W:=.obj "Rub" ["shape","strength"] [.loc a,.dat (ratD t)]
def m39 (e:Rw B n b l rows)(c:rows.length<=100)(d:∀ ds∈rows,noLs ds=true)(a:∀ (γ:Mem) (m:Nat) (l':Lp),Rw (B++γ) m B.length l' rows->Q (.loc m,B++γ)):EvP (FM39 [.loc n] B) Q:=by
 refine zCb rfl (by decide) ?_;unfold mb39;show EvP (evSs' GL3 D2 _ ⟨[some (.loc n)],B⟩) _;have f:Rw B n b l (rows.map id):=by rw[List.map_id];exact e
 refine zAK (zBz (zJm (as:=rows) (u:=id) (v:=id) (zDR (zAR rfl ⟨n,rfl,rfl⟩)) f rfl c (fun γ m ds hd em=>?_) fun γ l' R'=>zEP (a γ _ l' (by rw[List.map_id] at R';exact R'))));exact zBB rfl (zHb (zAN (zAc rfl (zDK em)) (zNv (zJH (d ds hd) rfl))))
def StO (o:D)(t:Rat):Prop:=(o=.non/\t=1)\/o=ratD t
def zHt (h:StO o t)(q:Q (ratD t,.cl)):EvP (F40 [o]) Q:=by
 rcases h with ⟨rfl,rfl⟩ | rfl
 .exact h40n Q q
 .exact h40 t Q q
def zUL (e:Rw B n b l rows)(a:rows.length<=100)(c:∀ ds∈rows,noLs ds=true)(d:StO o t)(f:∀ (γ:Mem) (m:Nat) (l':Lp),Rw (B++γ) m B.length l' rows->Q (zK9 m ink t,B++γ)):EvP (zFS [.loc n,.dat ink,.dat o] B) Q:=by
 refine zET rfl rfl ?_;show EvP (zDa [("shape",evM GL3 D9 (.call 2 "own_shape" (.cons (.var 1) .nil))),("ink",evM GL3 D9 (.var 2)),("strength",evM GL3 D9 (.pur (.call 40 "strength_or_one" (.cons (.var 3) .nil))))] ⟨[none,some (.loc n),some (.dat ink),some (.dat o)],B⟩) _;refine zBf (zBN (F:=FM39) rfl (zAF (zAR rfl (zAz ?_))));refine m39 e a c fun γ m l' R'=>?_
 refine zBf (zAR rfl (zBf (zBB rfl (zAL rfl (zAH (zAN (zAc rfl zAk) (n_cl (zAn ?_))))))));exact zHt d (n_cl (zBS rfl (zGZ (f γ m l' R'))))
def mRub (e:Rw B n b l rows)(d:rows.length<=100)(a:∀ ds∈rows,noLs ds=true)(c:StO o t)(f:∀ (γ:Mem) (m:Nat) (l':Lp),Rw (B++γ) m B.length l' rows->Q (rubW m t,B++γ)):EvP (zGx [.loc n,.dat o] B) Q:=by
 refine zET rfl rfl ?_;show EvP (zDa [("shape",evM GL3 D10 (.call 2 "own_shape" (.cons (.var 1) .nil))),("strength",evM GL3 D10 (.pur (.call 40 "strength_or_one" (.cons (.var 2) .nil))))] ⟨[none,some (.loc n),some (.dat o)],B⟩) _;refine zBf (zBN (F:=FM39) rfl (zAF (zAR rfl (zAz ?_))));refine m39 e d a fun γ m l' R'=>?_
 refine zBf (zBB rfl (zAL rfl (zAH (zAN (zAc rfl zAk) (n_cl (zAn ?_))))));exact zHt c (n_cl (zBS rfl (zGZ (f γ m l' R'))))
def zK8 (F:MF)(ob:W)(w h:Nat)(B:Mem)(v:List (List D)):Prop:=∀ Q:MR->Prop,(∀ (γ:Mem) (m:Nat) (l:Lp),Rw (B++γ) m B.length l v->Q (.loc m,B++γ))->EvP (F [ob,.dat (.int (w:Int)),.dat (.int (h:Int))] B) Q
def zUq (f:Fl w h rs)(c:RB 80 t)(h1:I255 r)(h2:I255 g)(h3:I255 b)(dr:drW B (.loc a)=some (zBc rs)):zK8 zBF (zK9 a (inkD r g b) t) w h B ((tabR w h rs).map (List.map λq=>fmD (zHT (cov q*t) r g b))):=λQ i=>by
 refine zKj rfl (by decide) ?_;show EvP (evS' GL3 D14 (.set 3 _) ⟨[some (zK9 a (inkD r g b) t),some (.dat (.int (w:Int))),some (.dat (.int (h:Int))),none],B⟩) _;refine zCu (zBN (F:=FM44) rfl (zAF (zAR rfl (zAF (zAR rfl (zAF (zHR (zAR rfl ⟨_,_,_,_,rfl,by decide,rfl,zAF (zHR (zAR rfl ⟨_,_,_,_,rfl,by decide,rfl,zAz ?_⟩))⟩))))))));refine(show EvP (FM44 [.dat (.int (w:Int)),.dat (.int (h:Int)),.loc a,.dat (ratD t)] B) _ from ?_);refine m44 f c dr fun γ m l R1=>⟨_,rfl,?_⟩
 (walk_at "s");refine zAR rfl ⟨[.obj "Fill" ["ink","strength"] [inkD r g b,ratD t]],rfl,rfl,?_⟩;refine m41 (f:=.lam 1 L1 [.obj "Fill" ["ink","strength"] [inkD r g b,ratD t]]) rfl (rows:=tabR w h rs) (u:=λq=>ratD (cov q*t)) (v:=λq=>fmD (zHT (cov q*t) r g b)) R1 (by rw[zDy f];have:=f.h2;omega) (λqs hq=>⟨(zDQ f qs hq).1,λq e=>⟨zLb (FL:=FL1) rfl λQ d=>?_,rfl⟩⟩) λO6 k R2=>?_
 .refine zIB rfl rfl ?_;show EvP (evE GL0 lb1 [some (ratD (cov q*t),false),some (.obj "Fill" ["ink","strength"] [inkD r g b,ratD t],false)]) _;unfold lb1;refine zAL rfl (zAH (zAN rfl (n_cl (zAH (zLG (zAN rfl ⟨_,_,_,_,rfl,by decide,rfl,n_cl (zAn ?_)⟩))))));refine (zSK rfl rfl h13 h14) (cov q*t) r g b 4000081 _ ((zAo (zGh ((zDQ f qs hq).2 q e) (by decide)) c).mono (by decide)) (by decide) h1 h2 h3 ?_;exact n_cl d
 rw[qJ] at R2 ⊢;exact i _ _ _ (R2.below (by rw[List.length_append];omega))
def fRub (f:Fl w h rs)(b:RB 80 t)(dr:drW B (.loc a)=some (zBc rs)):zK8 zBR (rubW a t) w h B ((tabR w h rs).map (List.map λq=>fmD ⟨1 - cov q*t,0,0,0,0⟩)):=λQ c=>by
 refine zCb rfl (by decide) ?_;unfold zDl;show EvP (evSs' GL3 D15 _ ⟨[some (rubW a t),some (.dat (.int (w:Int))),some (.dat (.int (h:Int)))],B⟩) _;refine zAK (zBz (zBN (F:=FM41) rfl (zAF (zBN (F:=FM44) rfl (zAF (zAR rfl (zAF (zAR rfl (zAF (zHR (zAR rfl ⟨_,_,_,_,rfl,by decide,rfl,zAF (zHR (zAR rfl ⟨_,_,_,_,rfl,by decide,rfl,zAz ?_⟩))⟩)))))))))));refine(show EvP (FM44 [.dat (.int (w:Int)),.dat (.int (h:Int)),.loc a,.dat (ratD t)] B) _ from ?_);refine m44 f b dr fun γ m l R1=>?_
 refine zAF (zBB rfl (zCC (d:=.fn 17 "rub_film") rfl (zBS rfl (zAz ?_))));refine(show EvP (FM41 [.loc m,.dat (.fn 17 "rub_film")] (B++γ)) _ from ?_);refine m41 (f:=.fn 17 "rub_film") rfl (rows:=tabR w h rs) (u:=λq=>ratD (cov q*t)) (v:=λq=>fmD ⟨1 - cov q*t,0,0,0,0⟩) R1 (by rw[zDy f];have:=f.h2;omega) (λqs hq=>⟨(zDQ f qs hq).1,λq i=>⟨zTa (F:=F17) rfl λQ e=>(zRI rfl rfl h13) (cov q*t) 4000081 Q ((zAo (zGh ((zDQ f qs hq).2 q i) (by decide)) b).mono (by decide)) (by decide) e,rfl⟩⟩) λO6 j R2=>zEP ?_
 rw[qJ] at R2 ⊢;exact c _ _ _ (R2.below (by rw[List.length_append];omega))
def zOs (top:B[n]?=some (news m rows.length))(d:∀ (i:Nat) ds,rows[i]?=some ds->B[m+i]?=some (ds.map .dat))(g:b<=n)(h:b<=m):∃ l,Rw B n b l rows:=by
 have f:∀ p∈(List.range rows.length).map (λj=>(m+j,(rows[j]?).getD [])),∃ j ds,rows[j]?=some ds/\p=(m+j,ds):=λp a=>by
  obtain⟨j,c,rfl⟩:=mem_map.mp a;have c:=mem_range.mp c;exact⟨j,rows[j],getElem?_eq_getElem c,by rw[getElem?_eq_getElem c];rfl⟩
 refine⟨(List.range rows.length).map λj=>(m+j,(rows[j]?).getD []),⟨by rw[map_map];exact top,λp a=>?_⟩,λp a=>?_,g,?_⟩
 .obtain ⟨j,ds,e,rfl⟩:=f p a;exact d j ds e
 .obtain ⟨j,ds,e,rfl⟩:=f p a;exact le_trans h (Nat.le_add_right _ _)
 .rw [map_map];apply ext_getElem?;intro i;rw[getElem?_map];by_cases q:i < rows.length
  .rw [getElem?_range q,getElem?_eq_getElem q];simp[getElem?_eq_getElem q]
  .rw [getElem?_eq_none (by rw[length_range];omega),getElem?_eq_none (by omega)]
   rfl
def zJq (a:List (List Pt)):D.lst ((a.map λps=>ps.map ptD).map .lst)=zBc a:=by
 unfold zBc;rw[map_map]
 rfl
def Rw.shape (e:Rw B n b l (rs.map λps=>ps.map ptD)):drW B (.loc n)=some (zBc rs):=by rw[e.dr,zJq]
def zFv {b:List (List Pt)}:∀ ds∈b.map (λps=>ps.map ptD),noLs ds=true:=λds a=>by
 obtain⟨ps,_,rfl⟩:=mem_map.mp a;exact zKP ps
def h12:zOh F12:=zNZ (n1:=2) (n0:=0) rfl rfl
def h18:zTn F18:=zPc (nt:=4) (ns:=15) rfl rfl h4 (zOq (nm:=14) (np:=2) rfl rfl h14 h2)
def h19:MixF F19:=zRy (np:=2) (nr:=13) (nt:=4) (nm:=14) rfl rfl rfl rfl h2 h13 h4 h14
def crng {n:Nat}(P:Nat->Mem->List W->Prop)(m:EvP (evM J U a ⟨G,B⟩) λr=>r=(.dat (.int (n:Int)),B))(x:(mask none ms G).length=N)(A:n<=100)(h0:P 0 B [])(h:∀ j B' d,P j B' d->d.length=j)
  (step:∀ j B' d,j < n->P j B' d->EvP (evM J U el ⟨mask none ms G++[some (.dat (.int (j:Int)))],B'⟩) λr=>P (j+1) r.2 (d++[r.1])) (l:∀ B' d,P n B' d->Q (.loc B'.length,B'++[d])):EvP (evM J U (.comp N ms nm (.rng a) el) ⟨G,B⟩) Q:=by
 obtain⟨r,i,rfl⟩:=m;refine zE3 (zCR ⟨_,i,_,rfl,by omega,?_⟩);dsimp only;rw[toNat_natCast];obtain⟨y,C,M,z,⟨o,f⟩,p4⟩:=zFG (t:=tgM N) (e:=evM J U el) (src:=.items ((rngL 0 n).map .dat)) (s:=⟨mask none ms G++[none],B⟩) ((rngL 0 n).map .dat) (λj s d=>∃ o:Option W,s.G=mask none ms G++[o]/\P j s.B d) (λ_ _ _ _=>rfl) (λj w s d u b=>by
   obtain⟨o,p,c⟩:=b;obtain⟨rfl,k⟩:=idx u;obtain⟨r,v,q⟩:=step j s.B d k c;refine⟨by rw[h j _ _ c];omega,⟨mask none ms G++[some (.dat (.int (j:Int)))],s.B⟩,r,?_,v,_,rfl,q⟩;unfold tgM;rw[p,set_append_right _ _ (by omega),x,sub_self]
   rfl) ⟨none,rfl,h0⟩
 rw[nrng] at f;obtain⟨_,g⟩:=f;refine⟨y,M,z,by rw[h n _ _ g];omega,?_⟩;rw[<- p4];exact l _ _ g
def Kq.of {μ2:Mem}(k:Kq B μ2):∃ γ,μ2=B++γ:=by
 refine⟨μ2.drop B.length,ext_getElem? λi=>?_⟩;by_cases h:i < B.length
 .rw [getElem?_append_left h,k.kp i h]
 .rw [getElem?_append_right (by omega),List.getElem?_drop];congr 1;omega
abbrev rT (w:Nat) (A:Nat->Nat->Fm) (j:Nat):List D:=(List.range w).map λi=>fmD (A j i)
abbrev mT (w h:Nat) (A:Nat->Nat->Fm):List (List D):=(List.range h).map (rT w A)
structure TB (n w h:Nat)(A:Nat->Nat->Fm):Prop where
 b:∀ j i,j < h->i < w->FB n (A j i)
def TB.mono (t:TB m w h A)(l:m<=n):TB n w h A:=⟨λj i a b=>(t.b j i a b).mono l⟩
def zR5 (a:j < h):atI ((mT w h A).map D.lst) (j:Int)=some (.lst (rT w A j)):=zAl (by rw[getElem?_map,getElem?_map,getElem?_range a];rfl)
def rrow {n:Nat}(l:EvP (evM J U a ⟨G,B⟩) λr=>r=(.dat (.int (n:Int)),B))(k:(mask none ms G).length=N)(i:n<=100)
  (c:∀ j,j < n->EvP (evM J U el ⟨mask none ms G++[some (.dat (.int (j:Int)))],B⟩) λr=>r=(.dat (v j),B)) (f:Q (.loc B.length,B++[((List.range n).map v).map .dat])):EvP (evM J U (.comp N ms nm (.rng a) el) ⟨G,B⟩) Q:=by
 refine crng (λj b d=>b=B/\d=((List.range j).map v).map .dat) l k i ⟨rfl,rfl⟩ (λj b d h=>by rw[h.2];simp) (λj b d g h=>?_) λB' d h=>by rw[h.1,h.2];exact f
 obtain⟨rfl,rfl⟩:=h;obtain⟨r,e,rfl⟩:=c j g;exact⟨_,e,rfl,by rw[range_succ,xY,xY];rfl⟩
def zHA (B:Mem)(b:Nat)(v:Nat->List D)(j:Nat)(B':Mem):Prop:=Kq B B'/\∃ l,Rw B' b B.length l ((List.range j).map v)
def zHA.snoc (h:zHA B b v j B'):∃ l:Lp,B'[b]?=some (l.map λp=>W.loc p.1)/\l.length=j/\zHA B b v (j+1) ((B'++[(v j).map W.dat]).set b (l.map (λp=>W.loc p.1)++[W.loc B'.length])):=by
 obtain⟨k,l,R⟩:=h;have lt:=R.lt;refine⟨l,R.ll.top,by rw[R.len];simp,k.app.set R.top,l++[(B'.length,v j)],⟨zKh (R.keep zAv).ll zAT (by omega),λp a=>?_,R.top,?_⟩⟩
 .rcases mem_append.mp a with z | z
  .exact R.lo p z
  .rw [mem_singleton.mp z];exact k.le
 .rw [xY,R.snd,range_succ,xY];rfl
def zHA.nil :zHA B B.length v 0 (B++[[]]):=⟨zAv,[],⟨zAT,λp a=>absurd a (by simp)⟩,λp a=>absurd a (by simp),le_refl _,rfl⟩
abbrev flK (F:MF) (ob:W) (w h:Nat) (B:Mem) (A:Nat->Nat->Fm):Prop:=∀ Q:MR->Prop,(∀ (B':Mem) (m:Nat) (l:Lp),Kq B B'->Rw B' m B.length l (mT w h A)->Q (.loc m,B'))->EvP (F [ob,.dat (.int (w:Int)),.dat (.int (h:Int))] B) Q
noncomputable def jT (A r:Nat->Nat->Fm):Nat->Nat->Fm:=λj i=>jn (A j i) (r j i)
def TB.jn (a:TB m w h A)(b:TB n w h r):TB (m+(n+m)+1) w h (jT A r):=⟨λj i d c=>zUp (a.b j i d c) (b.b j i d c)⟩
abbrev tD (w h:Nat) (d:Nat->Nat->D):List (List D):=(List.range h).map λj=>(List.range w).map (d j)
def r_at {w i:Nat}{d:Nat->D}(a:i < w):atI ((List.range w).map d) (i:Int)=some (d i):=zAl (by rw[getElem?_map,getElem?_range a];rfl)
def zOo (a:j < h):atI ((tD w h d).map D.lst) (j:Int)=some (.lst ((List.range w).map (d j))):=zAl (by rw[getElem?_map,getElem?_map,getElem?_range a];rfl)
def zQ8 :((tD w h d).map D.lst).length=h:=by simp
def zRR {b1 b2:Nat}(g:GL3.fns[nf]?=some (x,F))(f:Rw B n1 b1 l1 (tD w h d1))(R2:Rw B n2 b2 l2 (tD w h d2))(C:w<=10)(G:h<=10)(o:∀ j i,j < h->i < w->∀ Q:R->Prop,Q (d3 j i,.cl)->EvP (F [d1 j i,d2 j i]) Q)(r:∀ j i,noL (d3 j i)=true)
  (z:∀ (B':Mem) (m:Nat) (l:Lp),Kq B B'->Rw B' m B.length l (tD w h d3)->Q (.loc m,B')):EvP (FM42 [.loc n1,.loc n2,.dat (.fn nf x)] B) Q:=by
 refine zCb rfl (by decide) ?_;unfold mb42;show EvP (evSs' GL3 D4 _ ⟨[some (.loc n1),some (.loc n2),some (.dat (.fn nf x)),none,none],B⟩) _;have a:∀ {B'},Kq B B'->drW B' (.loc n1)=some (.lst ((tD w h d1).map .lst)):=λk=>(f.keep k).dr
 have d:∀ {B'},Kq B B'->drW B' (.loc n2)=some (.lst ((tD w h d2).map .lst)):=λk=>(R2.keep k).dr
 have D1:=a (zAv (γ:=[[]]));(walk_at "m");rw[zQ8];(walk_at "m");refine⟨_,rfl,by omega,?_⟩;rw[toNat_natCast];refine zBg (s:=⟨_,_⟩) ((rngL 0 h).map .dat) (λj s=>∃ (c:Option W) (B':Mem),s=⟨[some (.loc n1),some (.loc n2),some (.dat (.fn nf x)),some (.loc B.length),c],B'⟩/\zHA B B.length (λj=>(List.range w).map (d3 j)) j B') (λ_ _ _=>rfl) ?_ ?_ ⟨none,_,rfl,zHA.nil⟩
 .rintro j y s t ⟨c,B',rfl,I⟩;obtain⟨rfl,b⟩:=idx t;refine⟨_,rfl,?_⟩;dsimp only;(walk_at "s");obtain⟨u,p,A,q⟩:=I.snoc;have E:=a I.1;have D:=d I.1;refine zAK (zDj (zAR rfl (rrow (n:=w) (v:=d3 j) ?_ rfl (by omega) (λi e=>?_) ⟨_,_,rfl,zAJ p,by rw[qy];omega,zA4 (zBw ⟨_,_,rfl,q⟩)⟩)))
  ·(walk_at "m");refine zA5 (zOo b) ?_;(walk_at "m");rw[qy,length_range]
  .show EvP (evM GL3 D4 _ ⟨[some (.loc n1),some (.loc n2),some (.dat (.fn nf x)),some (.loc B.length),some (.dat (.int (j:Int))),some (.dat (.int (i:Int)))],B'⟩) _;refine zBB rfl (zNA (F:=F) (zAc rfl zAk) g ?_);(walk_at "m");refine zA5 (zOo b) ?_;(walk_at "m");refine zA5 (r_at e) ?_;(walk_at "m");refine zA5 (zOo b) ?_;(walk_at "m");refine zA5 (r_at e) ?_;(walk_at "m");exact o j i b e _ (n_cl (zBS (r j i) rfl))
 .rintro s ⟨c,B',rfl,k,u,R⟩;rw[nrng] at R;exact zA4 (zAK (zBz (zAR rfl (zEP (z _ _ _ k R)))))
def m42 {b1 b2:Nat}(n:Rw B n1 b1 l1 (mT w h A))(R2:Rw B n2 b2 l2 (mT w h r))(k:TB p w h A)(c:TB q w h r)(l:p+q<=10000000)(d:w<=10)(f:h<=10)
  (e:∀ (B':Mem) (m:Nat) (l:Lp),Kq B B'->Rw B' m B.length l (mT w h (jT A r))->Q (.loc m,B')):EvP (FM42 [.loc n1,.loc n2,.dat (.fn 18 "joined")] B) Q:=zRR (F:=F18) (d3:=λj i=>fmD (jT A r j i)) rfl n R2 d f (λj i b a Q g=>h18 _ _ p q _ (k.b j i b a) (c.b j i b a) l g) (λ_ _=>rfl) e
structure Tat (B:Mem)(a h:Nat)(v:Nat->List D):Prop where
 top:B[a+h]?=some (news a h)
 row:∀ j,j < h->B[a+j]?=some ((v j).map .dat)
theorem Tat.rw (t:Tat B a h v):∃ l,Rw B (a+h) a l ((List.range h).map v):=by
 refine zOs (by rw[qy,length_range];exact t.top) (λi ds e=>?_) (by omega) (le_refl _);rw[getElem?_map] at e;obtain⟨x,ex,rfl⟩:=x9.mp e;obtain⟨hi,rfl⟩:=zzg ex;rw[List.getElem_range];exact t.row i (by simpa using hi)
def tgo {n:Nat}(p:EvP (evM J U a ⟨G,B⟩) λr=>r=(.dat (.int (n:Int)),B))(g:(mask none ms G).length=N)(q:n<=100)
  (m:∀ j B',j < n->EvP (evM J U el ⟨mask none ms G++[some (.dat (.int (j:Int)))],B'⟩) λr=>r=(.loc B'.length,B'++[(v j).map .dat])) (o:∀ (B':Mem),Kq B B'->Tat B' B.length n v->Q (.loc (B.length+n),B')):EvP (evM J U (.comp N ms nm (.rng a) el) ⟨G,B⟩) Q:=by
 refine crng (λj B' d=>Kq B B'/\B'.length=B.length+j/\d=news B.length j/\∀ i,i < j->B'[B.length+i]?=some ((v i).map .dat)) p g q ⟨zE5,rfl,rfl,λi c=>absurd c (by omega)⟩ (λj B' d h=>by rw[h.2.2.1,zB9]) (λj B' d l h=>?_) λB' d h=>?_
 .obtain ⟨k,b,rfl,f⟩:=h;obtain⟨r,e,rfl⟩:=m j B' l;refine⟨_,e,k.app,by rw[List.length_append,b];rfl,by rw[zDI,b],λi c=>?_⟩;by_cases z:i < j
  .exact zAJ (f i z)
  .obtain rfl:i=j:=by omega
   rw[<- b];exact zAT
 .obtain ⟨k,b,rfl,f⟩:=h;rw[b];exact o _ k.app ⟨by rw[<- b];exact zAT,λi c=>zAJ (f i c)⟩
def m45 (e:w<=10)(b:h<=10)(a:∀ (B':Mem) (m:Nat) (l:Lp),Kq B B'->Rw B' m B.length l (mT w h λ_ _=>clr)->Q (.loc m,B')):EvP (FM45 [.dat (.int (w:Int)),.dat (.int (h:Int))] B) Q:=by
 refine zCb rfl (by decide) ?_;unfold mb45;show EvP (evSs' GL3 D7 _ ⟨[some (.dat (.int (w:Int))),some (.dat (.int (h:Int)))],B⟩) _;refine zAK (zBz (tgo (n:=h) (v:=rT w λ_ _=>clr) (zAR rfl rfl) rfl (by omega) (λj B' c=>?_) λB' k T=>by obtain⟨l,R⟩:=T.rw;exact zEP (a _ _ _ k R)));refine rrow (n:=w) (v:=λ_=>fmD clr) (zAR rfl rfl) rfl (by omega) (λi d=>?_) rfl;exact zBB rfl (zAL (F:=F12) rfl (zAn (h12 _ (n_cl (zBS rfl rfl)))))
noncomputable def mbJ (ix:List (Str×Nat)):MT:=.cons (.set 3 (.call 7 "clear_films" (.cons (.var 0) (.cons (.var 1) .nil)))) (.cons (.for1 4 (.it (.var 2)) (.cons (.set 3 (.call 4 "put_together" (.cons (.mth ix "films" (.var 4) (.cons (.var 0) (.cons (.var 1) .nil))) (.cons (.var 3) (.cons (.pur (.glob 4 "joined")) .nil))))) .nil)) (.cons (.ret (.var 3)) .nil))
noncomputable def aT (A:Nat->Nat->Nat->Fm):Nat->Nat->Nat->Fm
 | 0=>λ_ _=>clr
 | k+1=>jT (A k) (aT A k)
theorem aT_b (hb:∀ k,k < N->TB m w h (A k)):∀ k,k<=N->TB (1+k*(2*m+1)) w h (aT A k)
 | 0,_=>⟨λ_ _ _ _=>zS9.mono (Nat.le_add_right _ _)⟩
 | k+1,l=>((hb k l).jn (aT_b hb k (by omega))).mono (by have e:(k+1)*(2*m+1)=k*(2*m+1)+(2*m+1):=Nat.succ_mul k _;omega)
def Disp (U:Dm)(ix:List (Str×Nat))(o:W)(w h:Nat)(B:Mem)(A:Nat->Nat->Fm):Prop:=∃ c n y F,clsW "films" o=some c/\ix.lookup c=some n/\U[n]?=some (y,F)/\spec.lookup y=some (.mth c "films")/\flK F o w h B A
def zUQ {a:List W}(z:U[7]?=some (("clear_films":Str),FM45))(K:U[4]?=some (("put_together":Str),FM42))(I:B[nl]?=some a)(P:∀ k o,a[k]?=some o->∀ B',Kq B B'->Disp U ix o w h B' (A k))(g:∀ k,k < a.length->TB m w h (A k))
  (l:m+(1+a.length*(2*m+1))<=10000000) (p:w<=10) (i:h<=10) (L:∀ (B':Mem) (n:Nat) (l:Lp),Kq B B'->Rw B' n B.length l (mT w h (aT A a.length))->Q (.loc n,B')):EvP (zAj 3 5 (evSs' GL3 U (mbJ ix)) [.dat (.int (w:Int)),.dat (.int (h:Int)),.loc nl] B) Q:=by
 refine zCb rfl (by decide) ?_;unfold mbJ;show EvP (evSs' GL3 U _ ⟨[some (.dat (.int (w:Int))),some (.dat (.int (h:Int))),some (.loc nl),none,none],B⟩) _;refine zAK (zCu (zBN z (zAF (zAR rfl (zAF (zAR rfl (zAz ?_)))))));refine(show EvP (FM45 [.dat (.int (w:Int)),.dat (.int (h:Int))] B) _ from ?_);refine m45 p i λB1 D v M r=>zA4 ?_
 (walk_at "s");refine zAK (zDS (zDR (zAR rfl ⟨nl,rfl,?_⟩)));refine zBg (s:=⟨_,_⟩) a (λj s=>∃ (e:Option W) (B':Mem) (n:Nat) (l:Lp),s=⟨[some (.dat (.int (w:Int))),some (.dat (.int (h:Int))),some (.loc nl),some (.loc n),e],B'⟩/\Kq B B'/\Rw B' n B.length l (mT w h (aT A j))) (λj s t=>?_) ?_ ?_ ⟨none,B1,D,v,rfl,M,r⟩
 .obtain ⟨_,B',_,_,rfl,k,_⟩:=t;exact k.get I
 .rintro j o s b ⟨e,B',n,u,rfl,k,R⟩;refine⟨_,rfl,?_⟩;dsimp only;(walk_at "s");obtain⟨c,q,y,F,E,S,H,x,N⟩:=P j o b B' k;have f:j < a.length:=(zzg b).1;refine zAK (zCu (zBN K (zAF (zMb (zAR rfl ⟨c,q,y,F,E,S,H,x,zAF (zAR rfl (zAF (zAR rfl (zAz ?_))))⟩)))));refine N _ fun μ2 n2 l2 k2 R2=>?_
  refine zAF (zAR rfl (zAF (zBB rfl (zCC (d:=.fn 18 "joined") rfl (zBS rfl (zAz ?_))))));refine(show EvP (FM42 [.loc n2,.loc n,.dat (.fn 18 "joined")] μ2) _ from ?_);have:=mul_le_mul_right (2*m+1) (Nat.le_of_lt f);refine m42 R2 (R.keep k2) (g j f) (aT_b g j (Nat.le_of_lt f)) (by omega) p i λB3 C G O J=>zA4 (zBw ?_)
  exact⟨_,_,C,G,rfl,(k.trans k2).trans O,J.below (k.trans k2).le⟩
 .rintro s ⟨e,B',n,u,rfl,k,R⟩;exact zA4 (zAK (zBz (zAR rfl (zEP (L _ _ _ k R)))))
noncomputable def meJ (n:Nat):ME:=.call n "joined_films" (.cons (.var 1) (.cons (.var 2) (.cons (.fld (.var 0) "layers") .nil)))
abbrev objW (c:Str) (nl:Nat) (t:Rat):W:=.obj c ["layers","strength"] [.loc nl,.dat (ratD t)]
def zSJ {g:Fm->Fm}(k:U[n]?=some (("joined_films":Str),FJ))(q:(c,("layers":Str),(none:Option Bool))∈GL3.ob)(s:GL3.lm[J]?=some (L,FL))(o:∀ j i,j < h->i < w->∀ Q:R->Prop,Q (fmD (g (r j i)),.cl)->EvP (FL [fmD (r j i),.obj c ["strength"] [ratD t]]) Q)
  (C:w<=10) (E:h<=10) (m:∀ Q:MR->Prop,(∀ (B':Mem) (n:Nat) (l:Lp),Kq B B'->Rw B' n B.length l (mT w h r)->Q (.loc n,B'))->EvP (FJ [.dat (.int (w:Int)),.dat (.int (h:Int)),.loc nl] B) Q):flK (lamM FM41 J L [0] 3 3 (zGe GL3 U .nil) (evM GL3 U (meJ n))) (objW c nl t) w h B (λj i=>g (r j i)):=λQ p=>by
 refine zKj rfl (by decide) ⟨_,rfl,_,rfl,?_⟩;show EvP (evM GL3 U (meJ n) ⟨[some (objW c nl t),some (.dat (.int (w:Int))),some (.dat (.int (h:Int)))],B⟩) _;refine zBN k (zAF (zAR rfl (zAF (zAR rfl (zAF (zHR (zAR rfl ⟨_,_,_,_,rfl,q,rfl,zAz ?_⟩)))))));refine m _ λB1 z A a b=>⟨[.obj c ["strength"] [ratD t]],rfl,rfl,?_⟩
 have e:∀ u:Fm->D,((List.range h).map λj=>(List.range w).map λi=>r j i).map (List.map u)=(List.range h).map λj=>(List.range w).map λi=>u (r j i):=λu=>by rw[map_map];exact map_congr_left λj _=>map_map
 rw[show mT w h r=_ from (e fmD).symm] at b;refine m41 (f:=.lam J L [.obj c ["strength"] [ratD t]]) rfl (u:=fmD) (v:=λf=>fmD (g f)) b (by rw[qy,length_range];omega) (λqs hq=>?_) fun γ l2 R2=>?_
 .obtain ⟨j,x,rfl⟩:=mem_map.mp hq;refine⟨by rw[qy,length_range];omega,λq y=>?_⟩;obtain⟨i,d,rfl⟩:=mem_map.mp y;exact⟨zLb s (o j i (mem_range.mp x) (mem_range.mp d)),rfl⟩
 .rw [e λf=>fmD (g f)] at R2;exact p _ _ _ a.app (R2.below a.le)
def zR6 (e:B[n]?=some ws)(b:StO o t)(a:Q (objW "Join" B.length t,B++[ws])):EvP (zFR [.loc n,.dat o] B) Q:=by
 refine zET rfl rfl ?_;show EvP (zDa [("layers",evM GL3 D12 (.lcp (.var 1))),("strength",evM GL3 D12 (.pur (.call 40 "strength_or_one" (.cons (.var 2) .nil))))] ⟨[none,some (.loc n),some (.dat o)],B⟩) _;refine zBf (zR3 (zAR rfl ⟨n,ws,rfl,e,?_⟩));refine zBf (zBB rfl (zAL rfl (zAH (zAN (zAc rfl zAk) (n_cl (zAn ?_))))));exact zHt b (n_cl (zBS rfl (zGZ a)))
abbrev qT (w h:Nat) (rs:List (List Pt)) (j i:Nat):Rat:=cov (((tabR w h rs).getD j []).getD i 0)
def zJW (f:Fl w h rs)(b:j < h):((tabR w h rs).getD j []).length=w/\∀ q∈(tabR w h rs).getD j [],RB 600000 q:=by
 obtain⟨⟨tl,a⟩,_⟩:=zD9 f;rw[getD_eq_getElem?_getD,getElem?_eq_getElem (by omega)];exact a _ (getElem_mem (by omega))
def zNs (f:Fl w h rs)(g:Rat->Fm):(tabR w h rs).map (List.map λq=>fmD (g (cov q)))=mT w h λj i=>g (qT w h rs j i):=by
 rw[zEL (zDy f)];exact map_congr_left λj m=>zEL (zJW f (mem_range.mp m)).1
def zRP (f:Fl w h rs)(a:j < h)(b:i < w):RB 600000 (qT w h rs j i):=by
 obtain⟨e,r⟩:=zJW f a;refine zGh ?_ (by decide);rw[getD_eq_getElem?_getD,getElem?_eq_getElem (by omega)];exact r _ (getElem_mem (by omega))
abbrev zQH (w h:Nat) (rs:List (List Pt)) (t:Rat) (r g b:Int) (j i:Nat):Fm:=zHT (qT w h rs j i*t) r g b
abbrev rubT (w h:Nat) (rs:List (List Pt)) (t:Rat) (j i:Nat):Fm:=⟨1 - qT w h rs j i*t,0,0,0,0⟩
def zS6 (f:Fl w h rs)(d:RB 80 t)(h1:I255 r)(h2:I255 g)(h3:I255 b):TB 600100 w h (zQH w h rs t r g b):=⟨λj i c a=>(zS8 (zAo (zRP f c a) d) h1 h2 h3).mono (by decide)⟩
def zUP (f:Fl w h rs)(c:RB 80 t)(h1:I255 r)(h2:I255 g)(h3:I255 b)(dr:drW B (.loc a)=some (zBc rs)):flK zBF (zK9 a (inkD r g b) t) w h B (zQH w h rs t r g b):=λQ q=>by
 refine zUq f c h1 h2 h3 dr Q fun γ m l R=>q _ _ l zAv ?_
 rw[zNs f λq=>zHT (q*t) r g b] at R;exact R
def kRub (f:Fl w h rs)(b:RB 80 t)(dr:drW B (.loc a)=some (zBc rs)):flK zBR (rubW a t) w h B (rubT w h rs t):=λQ q=>by
 refine fRub f b dr Q fun γ m l R=>q _ _ l zAv ?_
 rw[zNs f λq=>⟨1 - q*t,0,0,0,0⟩] at R;exact R
def Rw.range {μ2:Mem}(e:Rw B n b l rows)(k:∀ x,b<=x->x < B.length->μ2[x]?=B[x]?):Rw μ2 n b l rows :=
 ⟨e.ll.keep (k n e.top e.lt) λp a=>k p.1 (e.lo p a) (e.ll.lt.2 p a),e.lo,e.top,e.snd⟩
def zQ3 (h:EvP (evT J U a s) λr=>r.1=false/\EvP (evT J U b ⟨s.G,r.2⟩) Q):EvP (evT J U (.orl (.cons a (.cons b .nil))) s) Q:=by
 obtain⟨_,d,c,z,e,q⟩:=h;refine⟨z,?_,q⟩;show orB _ (evT J U b) s=_;unfold orB;grind
def zNT {n:Nat}(h:n<=ws.length):cutW ws none (some (n:Int))=ws.take n:=by
 unfold cutW;rw[HT.zFc,HT.zG9,Nat.min_eq_left h]
 rfl
noncomputable def mxT (A:Nat->Nat->Fm)(q:Nat->Nat->Rat):Nat->Nat->Fm:=λj i=>mx (A j i) (q j i)
def TB.mx (c:TB m w h A)(hq:∀ j i,j < h->i < w->RB 600000 (q j i)):TB (m+1200003) w h (mxT A q):=⟨λj i b a=>(zUo (c.b j i b a) (hq j i b a)).mono (by omega)⟩
abbrev cT (T:List (List Rat)) (j i:Nat):Rat:=cov ((T.getD j []).getD i 0)
def TabR.get (f:TabR w h rs T)(b:j < h):(T.getD j []).length=w/\∀ q∈T.getD j [],RB 600000 q:=by
 obtain⟨⟨tl,a⟩,_⟩:=f;rw[getD_eq_getElem?_getD,getElem?_eq_getElem (by omega)];exact a _ (getElem_mem (by omega))
theorem TabR.tD (f:TabR w h rs T):T.map (List.map λq=>ratD (cov q))=tD w h λj i=>ratD (cT T j i):=by
 rw[zEL f.1.1];exact map_congr_left λj m=>zEL (f.get (mem_range.mp m)).1
def TabR.rb (f:TabR w h rs T)(a:j < h)(b:i < w):RB 600000 (cT T j i):=by
 obtain⟨e,r⟩:=f.get a;refine zGh ?_ (by decide);rw[getD_eq_getElem?_getD,getElem?_eq_getElem (by omega)];exact r _ (getElem_mem (by omega))
abbrev zHQ (a:Nat) (o:W):W:=.obj "Masked" ["shape","layer"] [.loc a,o]
noncomputable def mbM (ix:List (Str×Nat)):MT:=.cons (.ret (.call 4 "put_together" (.cons (.mth ix "films" (.fld (.var 0) "layer") (.cons (.var 1) (.cons (.var 2) .nil))) (.cons (.call 5 "covers" (.cons (.var 1) (.cons (.var 2) (.cons (.fld (.var 0) "shape") .nil)))) (.cons (.pur (.glob 6 "mixed")) .nil))))) .nil
def zPV (z:U[4]?=some (("put_together":Str),FM42))(u:U[5]?=some (("covers":Str),FM43))(d:Disp U ix o w h B A)(ok:TabR w h rs T)(R:Rw B a b l (rs.map λps=>ps.map ptD))(D:TB m w h A)(I:m+600000<=10000000)(p:w<=10)(k:h<=10) :
  flK (zAj 3 3 (evSs' GL3 U (mbM ix))) (zHQ a o) w h B (mxT A (cT T)):=λQ C=>by
 refine zCb rfl (by decide) ?_;unfold mbM;show EvP (evSs' GL3 U _ ⟨[some (zHQ a o),some (.dat (.int (w:Int))),some (.dat (.int (h:Int)))],B⟩) _;obtain⟨c,n,y,F,v,H,d3,t,E⟩:=d;refine zAK (zBz (zBN z (zAF (zMb (zHR (zAR rfl ⟨_,_,_,_,rfl,by decide,rfl,c,n,y,F,v,H,d3,t,zAF (zAR rfl (zAF (zAR rfl (zAz ?_))))⟩))))));refine E _ λB1 L J e s=>?_
 refine zAF (zBN u (zAF (zAR rfl (zAF (zAR rfl (zAF (zHR (zAR rfl ⟨_,_,_,_,rfl,by decide,rfl,zAz ?_⟩))))))));refine m43 ok p k (R.keep e).shape fun γ n2 l2 R2=>?_
 refine zAF (zBB rfl (zCC (d:=.fn 19 "mixed") rfl (zBS rfl (zAz ?_))));rw[ok.tD] at R2;refine zRR (F:=F19) (d3:=λj i=>fmD (mxT A (cT T) j i)) rfl (s.keep zAv) R2 p k (λj i g r Q q=>h19 _ _ m 600000 _ (D.b j i g r) (ok.rb g r) (by omega) q) (λ_ _=>rfl) λB3 K M G x=>zEP (C _ _ _ (e.app.trans G) (x.below (e.app.le)))
def gJ (a:FB m f)(b:RB 80 t)(l:m+80<=10000000)(q:Q (fmD (mx f t),.cl)):EvP (FL2 [fmD f,.obj "Join" ["strength"] [ratD t]]) Q:=by
 refine zIB rfl rfl ?_;show EvP (evE GL1 lb2 [some (fmD f,false),some (.obj "Join" ["strength"] [ratD t],false)]) _;unfold lb2;refine zAL rfl (zAH (zAN rfl (n_cl (zAH (zLG (zAN rfl ⟨_,_,_,_,rfl,by decide,rfl,n_cl (zAn ?_)⟩))))));exact h19 f t m 80 _ a b l (n_cl q)
def zUK (e:Rw B n b l rows)(c:rows.length<=100)(d:∀ ds∈rows,noLs ds=true)(a:∀ (γ:Mem) (m:Nat) (l':Lp),Rw (B++γ) m B.length l' rows->Q (zHQ m o,B++γ)):EvP (zDt [.loc n,o] B) Q:=by
 refine zET rfl rfl ?_;show EvP (zDa [("shape",evM GL3 D11 (.call 2 "own_shape" (.cons (.var 1) .nil))),("layer",evM GL3 D11 (.var 2))] ⟨[none,some (.loc n),some o],B⟩) _;refine zBf (zBN (F:=FM39) rfl (zAF (zAR rfl (zAz ?_))));refine m39 e c d fun γ m l' R'=>?_
 exact zBf (zAR rfl (zGZ (a γ m l' R')))
abbrev ptR (rs:List (List Pt)):List (List D):=rs.map λps=>ps.map ptD
def zHD (h:rs.length<=2):(ptR rs).length<=100:=by rw[qy];omega
def gG (b:FB m f)(a:RB 80 t)(l:m+80<=10000000)(q:Q (fmD (al f t),.cl)):EvP (FL3 [fmD f,.obj "Group" ["strength"] [ratD t]]) Q:=by
 refine zIB rfl rfl ?_;show EvP (evE GL2 lb3 [some (fmD f,false),some (.obj "Group" ["strength"] [ratD t],false)]) _;unfold lb3;refine zAL rfl (zAH (zAN rfl (n_cl (zAH (zLG (zAN rfl ⟨_,_,_,_,rfl,by decide,rfl,n_cl (zAn ?_)⟩))))));exact (zNg (nm:=14) (nr:=13) rfl rfl h14 h13) f t m 80 _ b a l (n_cl q)
def zOG (e:B[n]?=some ws)(a:StO o t)(b:Q (objW "Group" B.length t,B++[ws])):EvP (zEn [.loc n,.dat o] B) Q:=by
 refine zET rfl rfl ?_;show EvP (zDa [("layers",evM GL3 D13 (.lcp (.var 1))),("strength",evM GL3 D13 (.pur (.call 40 "strength_or_one" (.cons (.var 2) .nil))))] ⟨[none,some (.loc n),some (.dat o)],B⟩) _;refine zBf (zR3 (zAR rfl ⟨n,ws,rfl,e,?_⟩));refine zBf (zBB rfl (zAL rfl (zAH (zAN (zAc rfl zAk) (n_cl (zAn ?_))))));exact zHt a (n_cl (zBS rfl (zGZ b)))
noncomputable def gX (b:Bool)(t:Rat)(f:Fm):Fm:=if b then al f t else mx f t
def h52 (c:Int)(Q:R->Prop)(h:∀ q:Rat,RB 80 q->0<=q/\q<=1->Q (ratD q,.cl)):EvP (F52 [.int c]) Q:=by
 (walk_at "d");unfold b52;(walk_at "st");refine zAG ?_;(walk_at "e");refine zBD (by decide) ?_;(walk_at "e");have g:=xQ c (show (0:Int) < 6 by decide);have b:=fmod_lt_of_pos c (show (0:Int) < 6 by decide);refine zAG ?_;(walk_at "e");refine zCP (zBh (by decide) (by decide)) ?_;(walk_at "w");refine zBD (by decide) ?_;(walk_at "w");refine zA8 (λ_=>?_) λ_=>?_
 ·(walk_at "w");exact h 0 (zA3.mono (by decide)) ⟨by decide,by decide⟩
 (walk_at "w");refine zBD (by decide) ?_;(walk_at "w");refine zA8 (λ_=>?_) λ_=>?_
 ·(walk_at "w");exact h 1 (zCS.mono (by decide)) ⟨by decide,by decide⟩
 (walk_at "w");refine zCP (zBh (by decide) (by decide)) ?_;(walk_at "w");refine zBC (zEJ (by decide)) ?_;(walk_at "w");refine zBD (by omega) ?_;(walk_at "w");have a:=xQ (Int.fdiv (c.fdiv 6) 9*48271) (show 0 < 1+c.fmod 6+1 by omega);have f:=fmod_lt_of_pos (Int.fdiv (c.fdiv 6) 9*48271) (show 0 < 1+c.fmod 6+1 by omega);refine h51 _ _ _ (by omega) ?_;(walk_at "w");exact h _ (zEw (by omega) (zDm (k:=100) (by omega) (by decide)) (zDm (k:=100) (by omega) (by decide))) (zNS (by omega) (by omega) (by omega))
structure Gd (f:Fm):Prop where
 k:0<=f.k
 a:0<=f.a
 z:f.a=0->f.r=0/\f.g=0/\f.b=0
def zSx:Gd clr:=⟨by decide,by decide,λ_=>⟨rfl,rfl,rfl⟩⟩
def zSw (h0:0<=s)(h1:s<=1):Gd (zHT s r g b):=⟨by show 0<=1 - s;grind,h0,λe=>by
 replace e:s=0:=e;subst e;exact⟨Rat.mul_zero _,Rat.mul_zero _,Rat.mul_zero _⟩⟩
def zSv (h1:s<=1):Gd ⟨1 - s,0,0,0,0⟩:=⟨by show 0<=1 - s;grind,by show (0:Rat)<=0;decide,λ_=>⟨rfl,rfl,rfl⟩⟩
def zr_t (h:Gd f)(e:f.a*t=0):f.r*t=0/\f.g*t=0/\f.b*t=0:=by
 rcases Rat.mul_eq_zero.mp e with e | e
 .obtain ⟨h1,h2,h3⟩:=h.z e;rw[h1,h2,h3];exact⟨Rat.zero_mul _,Rat.zero_mul _,Rat.zero_mul _⟩
 .rw [e];exact⟨Rat.mul_zero _,Rat.mul_zero _,Rat.mul_zero _⟩
def zUm (h:Gd f)(h0:0<=t)(h1:t<=1):Gd (mx f t):=⟨by
 have:=Rat.mul_nonneg h0 h.k;show 0<=1 - t+t*f.k;grind,Rat.mul_nonneg h.a h0,zr_t h⟩
def zUn (h:Gd f)(i:Gd g):Gd (jn f g):=by
 have p:=Rat.mul_nonneg i.a h.k;refine⟨Rat.mul_nonneg h.k i.k,Rat.add_nonneg h.a p,λe=>?_⟩;replace e:f.a+g.a*f.k=0:=e;have d:=h.a;obtain⟨h1,h2,h3⟩:=h.z (by grind);obtain⟨b,c,a⟩:=zr_t i (show g.a*f.k=0 by grind);show f.r+g.r*f.k=0/\f.g+g.g*f.k=0/\f.b+g.b*f.k=0;rw[h1,h2,h3,b,c,a,Rat.add_zero];exact⟨rfl,rfl,rfl⟩
theorem zSy (hp:∀ k,k < N->∀ j i,j < h->i < w->Gd (A k j i)):∀ k,k<=N->∀ j i,j < h->i < w->Gd (aT A k j i)
 | 0,_,_,_,_,_=>zSx
 | k+1,l,j,i,hj,hi=>zUn (hp k (by omega) j i hj hi) (zSy hp k (by omega) j i hj hi)
def zDM (p:Rat):0<=cov p/\cov p<=1:=by
 unfold cov;split
 .exact ⟨by decide,by decide⟩
 .split
  .exact ⟨by decide,by decide⟩
  .grind
def zFV {a b:Rat}(h:0<=a/\a<=1)(i:0<=b/\b<=1):0<=a*b/\a*b<=1:=by
 refine⟨Rat.mul_nonneg h.1 i.1,?_⟩;have:=zIv h.1 i.2;grind
noncomputable def tr (p:Nat->Bool)(j i:Nat):List D:=((List.range i).filter p).map λ(i:Nat)=>.tup [.int (i:Int),.int (j:Int)]
noncomputable def tl (w:Nat)(p:Nat->Nat->Bool):Nat->List D
 | 0=>[]
 | j+1=>tl w p j++tr (p j) j w
def zJQ :tr p j (i+1)=tr p j i++if p i=true then [.tup [.int (i:Int),.int (j:Int)]] else []:=by
 unfold tr;rw[range_succ,List.filter_append,xY];congr 1;by_cases h:p i=true
 .rw [if_pos h,filter_cons,if_pos h];rfl
 .rw [if_neg h,filter_cons,if_neg h];rfl
def zJR :(tr p j i).length<=i:=by
 unfold tr;have:=List.length_filter_le p (List.range i);rw[length_range] at this;rw[qy];exact this
theorem zHs (hw:w<=10):∀ {h:Nat},(tl w p h).length<=10*h
 | 0=>le_refl _
 | h+1=>by
  have:=zHs (p:=p) hw (h:=h);have:=zJR (p:=p h) (j:=h) (i:=w);show (tl w p h++tr (p h) h w).length<=_;rw[List.length_append];omega
theorem zNr :∀ {h:Nat},(∀ j i,j < h->i < w->p j i=q j i)->tl w p h=tl w q h
 | 0,_=>rfl
 | h+1,e=>by
  show tl w p h++tr (p h) h w=tl w q h++tr (q h) h w;rw[zNr λj i hj hi=>e j i (by omega) hi];congr 1;unfold tr;rw[List.filter_congr λi hi=>e h i (by omega) (mem_range.mp hi)]
def tC (A:Nat->Nat->Fm)(j i:Nat):Bool:=!eqb (fmD (A j i)) (fmD clr)
noncomputable def tD' (A:Nat->Nat->Fm)(j i:Nat):Bool:=!decide ((A j i).k=1)||!decide ((A j i).a=0)
def zT4 (z:f.a=0->f.r=0/\f.g=0/\f.b=0):(!eqb (fmD f) (fmD clr))=(!decide (f.k=1)||!decide (f.a=0)):=by
 have e:eqb (fmD f) (fmD clr)=(eqb (ratD f.k) (ratD 1)&&(eqb (ratD f.a) (ratD 0)&&(eqb (ratD f.r) (ratD 0)&&(eqb (ratD f.g) (ratD 0)&&(eqb (ratD f.b) (ratD 0)&&true))))):=by
  unfold eqb fmD clr rsD;simp only[map_cons,map_nil,toPy,toPyL,PyData.eqv,PyData.eqvAll]
 rw[e,zDf,zDf,zDf,zDf,zDf];by_cases h:f.a=0
 .obtain ⟨h1,h2,h3⟩:=z h;simp[h,h1,h2,h3]
 .simp [h]
def m47 (R:Rw B n b l (mT w h A))(g:w<=10)(u:h<=10)(o:Q (.loc B.length,B++[(tl w (tC A) h).map .dat])):EvP (FM47 [.loc n] B) Q:=by
 refine zCb rfl (by decide) ?_;unfold mb47;show EvP (evSs' GL3 D8 _ ⟨[some (.loc n),none,none,none],B⟩) _;have dr:∀ r:List W,drW (B++[r]) (.loc n)=some (.lst ((mT w h A).map .lst)):=λts=>(R.keep zAv).dr
 have z:=dr [];(walk_at "m");rw[qy,qy,length_range];(walk_at "m");refine⟨_,rfl,by omega,?_⟩;rw[toNat_natCast];refine zBg (s:=⟨_,_⟩) ((rngL 0 h).map .dat) (λj s=>∃ (d a:Option W),s=⟨[some (.loc n),some (.loc B.length),d,a],B++[(tl w (tC A) j).map .dat]⟩) (λ_ _ _=>rfl) ?_ ?_ ⟨none,none,rfl⟩
 .rintro j y s c ⟨d,a,rfl⟩;obtain⟨rfl,f⟩:=idx c;refine⟨_,rfl,?_⟩;dsimp only;(walk_at "s");have v:=dr ((tl w (tC A) j).map .dat);(walk_at "m");refine zA5 (zR5 f) ?_;(walk_at "m");rw[qy,length_range];refine⟨_,rfl,by omega,?_⟩;rw[toNat_natCast];refine zBg (s:=⟨_,_⟩) ((rngL 0 w).map .dat) (λi s=>∃ (a:Option W),s=⟨[some (.loc n),some (.loc B.length),some (.dat (.int (j:Int))),a],B++[(tl w (tC A) j++tr (tC A j) j i).map .dat]⟩) (λ_ _ _=>rfl) ?_ ?_ ⟨a,by rw[show tr (tC A j) j 0=[] from rfl,append_nil]⟩
  .rintro i y s c ⟨a,rfl⟩;obtain⟨rfl,q⟩:=idx c;refine⟨_,rfl,?_⟩;dsimp only;(walk_at "s");have t:=dr ((tl w (tC A) j++tr (tC A j) j i).map .dat);(walk_at "m");refine zA5 (zR5 f) ?_;(walk_at "m");refine zA5 ((zAl (by rw[getElem?_map,getElem?_range q];rfl))) ?_;(walk_at "m");refine h12 _ ?_;(walk_at "m");refine c_ne (zEb (zOZ (A j i)) (zOZ clr) (by decide)) ?_;have x:=zHs (p:=tC A) g (h:=j);have k:=zJR (p:=tC A j) (j:=j) (i:=i);rw[zJQ];refine⟨tC A j i,rfl,λe=>?_,λe=>?_⟩
   .replace e:tC A j i=true:=e;rw[if_pos e];(walk_at "m");refine⟨_,_,rfl,zAT,by rw[qy,List.length_append];omega,?_⟩;(walk_at "m");exact⟨_,by rw[zFo,<- qJ,xY (l₂:=[_])];rfl⟩
   .replace e:tC A j i=false:=e;rw[e,if_neg qX,append_nil];(walk_at "m");exact⟨_,rfl⟩
  .rintro s ⟨a,rfl⟩;rw[nrng];(walk_at "m");exact⟨_,_,rfl⟩
 .rintro s ⟨d,a,rfl⟩;rw[nrng];(walk_at "m");exact o
abbrev ixA:List (Str×Nat):=[("Fill",14),("Rub",15),("Masked",16),("Join",18),("Group",19)]
abbrev ixT:List (Str×Nat):=[("Fill",20),("Rub",21),("Masked",22),("Join",23),("Group",24)]
def ents:List (Str×MF):=[("Fill",zBF),("Rub",zBR),("Masked",zBi),("Join",zCK),("Group",zBv)]
def Dsp (n:Nat)(o:W)(w h:Nat)(B:Mem)(A:Nat->Nat->Fm):Prop:=∃ c ns l F,o=.obj c ns l/\(c,F)∈ents.take n/\flK F o w h B A
def Dsp.mono (d:Dsp m o w h B A)(l:m<=n):Dsp n o w h B A:=by
 obtain⟨c,a,t,F,e,m,k⟩:=d;exact⟨c,a,t,F,e,(List.take_subset_take_left ents l) m,k⟩
def Up (U:Dm):Prop:=∀ n,n < 20->U[n]?=D20[n]?
def Up.add (u:Up U):Up (U.add x F):=λn a=>by
 have l:n < D20.length:=a;have e:=u n a;rw[getElem?_eq_getElem l] at e;exact(getElem?_append_left (zzg e).1).trans (u n a)
section
variable {w h:Nat}{o:W}{B:Mem}{A:Nat->Nat->Fm}
def Dsp.two (d:Dsp 2 o w h B A):Disp D16 (ixA.take 2) o w h B A:=by
 obtain⟨c,a,t,F,rfl,m,k⟩:=d;simp only[ents,take_succ_cons,take_zero,mem_cons,not_mem_nil,or_false,Prod.mk.injEq] at m;rcases m with ⟨rfl,rfl⟩ | ⟨rfl,rfl⟩
 .exact ⟨_,14,_,_,rfl,rfl,rfl,by decide +kernel,k⟩
 .exact ⟨_,15,_,_,rfl,rfl,rfl,by decide +kernel,k⟩
def Dsp.three (d:Dsp 3 o w h B A):Disp D17 (ixA.take 3) o w h B A:=by
 obtain⟨c,a,t,F,rfl,m,k⟩:=d;simp only[ents,take_succ_cons,take_zero,mem_cons,not_mem_nil,or_false,Prod.mk.injEq] at m;rcases m with ⟨rfl,rfl⟩ | ⟨rfl,rfl⟩ | ⟨rfl,rfl⟩
 .exact ⟨_,14,_,_,rfl,rfl,rfl,by decide +kernel,k⟩
 .exact ⟨_,15,_,_,rfl,rfl,rfl,by decide +kernel,k⟩
 .exact ⟨_,16,_,_,rfl,rfl,rfl,by decide +kernel,k⟩
def Dsp.all (d:Dsp 5 o w h B A)(u:Up U):Disp U ixA o w h B A:=by
 obtain⟨c,a,t,F,rfl,m,k⟩:=d;simp only[ents,take_succ_cons,take_zero,mem_cons,not_mem_nil,or_false,Prod.mk.injEq] at m;rcases m with ⟨rfl,rfl⟩ | ⟨rfl,rfl⟩ | ⟨rfl,rfl⟩ | ⟨rfl,rfl⟩ | ⟨rfl,rfl⟩
 .exact ⟨_,14,_,_,rfl,rfl,u 14 (by decide),by decide +kernel,k⟩
 .exact ⟨_,15,_,_,rfl,rfl,u 15 (by decide),by decide +kernel,k⟩
 .exact ⟨_,16,_,_,rfl,rfl,u 16 (by decide),by decide +kernel,k⟩
 .exact ⟨_,18,_,_,rfl,rfl,u 18 (by decide),by decide +kernel,k⟩
 .exact ⟨_,19,_,_,rfl,rfl,u 19 (by decide),by decide +kernel,k⟩
def zME (e:B[n]?=some ws):B.set n ws=B:=by
 obtain⟨h,rfl⟩:=zzg e;exact List.set_getElem_self h
def oL (h:(c,("Layer":Str),some true)∈GL3.ob):objB GL3.ob (.obj c ns t)=true:=decide_eq_true h
def u20:Up D20:=λ_ _=>rfl
def u21:Up D21:=u20.add
def u22:Up D22:=u21.add
def u23:Up D23:=u22.add
def u24:Up D24:=u23.add
def Dsp.tch (d:Dsp 5 o w h B A):∃ c n y U,clsW "touched" o=some c/\ixT.lookup c=some n/\D27[n]?=some (y,zAj 3 3 (evSs' GL3 U zAb))/\spec.lookup y=some (.mth c "touched")/\Up U/\objB GL3.ob o=true:=by
 obtain⟨c,a,t,F,rfl,m,k⟩:=d;simp only[ents,take_succ_cons,take_zero,mem_cons,not_mem_nil,or_false,Prod.mk.injEq] at m;rcases m with ⟨rfl,_⟩ | ⟨rfl,_⟩ | ⟨rfl,_⟩ | ⟨rfl,_⟩ | ⟨rfl,_⟩
 .exact ⟨_,20,_,_,rfl,rfl,rfl,by decide +kernel,u20,oL (by decide +kernel)⟩
 .exact ⟨_,21,_,_,rfl,rfl,rfl,by decide +kernel,u21,oL (by decide +kernel)⟩
 .exact ⟨_,22,_,_,rfl,rfl,rfl,by decide +kernel,u22,oL (by decide +kernel)⟩
 .exact ⟨_,23,_,_,rfl,rfl,rfl,by decide +kernel,u23,oL (by decide +kernel)⟩
 .exact ⟨_,24,_,_,rfl,rfl,rfl,by decide +kernel,u24,oL (by decide +kernel)⟩
def zTz (u:Up U)(d:Dsp 5 o w h B A)(a:w<=10)(i:h<=10)(b:∀ B' m,Kq B B'->B.length<=m->B'[m]?=some ((tl w (tC A) h).map .dat)->Q (.loc m,B')):EvP (zAj 3 3 (evSs' GL3 U zAb) [o,.dat (.int (w:Int)),.dat (.int (h:Int))] B) Q:=by
 refine zCb rfl (by decide) ?_;unfold zAb;show EvP (evSs' GL3 U _ ⟨[some o,some (.dat (.int (w:Int))),some (.dat (.int (h:Int)))],B⟩) _;obtain⟨c,n,y,F,e,f,g,j,p⟩:=d.all u;refine zAK (zBz (zBN (F:=FM47) (u 8 (by decide)) (zAF (zMb (zAR rfl ⟨c,n,y,F,e,f,g,j,zAF (zAR rfl (zAF (zAR rfl (zAz (p _ λB' m l k R=>zAz ?_)))))⟩)))));exact m47 R a i (zEP (b _ _ k.app k.le zAT))
def m57 (d:∀ B',Kq B B'->Dsp 5 o w h B' A)(P:w<=10)(T:h<=10)(D:∀ B' m,Kq B B'->B.length<=m->B'[m]?=some ((tl w (tD' A) h).map .dat)->Q (.loc m,B')):EvP (FM57 [o,.dat (.int (w:Int)),.dat (.int (h:Int))] B) Q:=by
 refine zCb rfl (by decide) ?_;unfold mb57;show EvP (evSs' GL3 D26 _ ⟨[some o,some (.dat (.int (w:Int))),some (.dat (.int (h:Int))),none,none,none,none,none],B⟩) _;obtain⟨c,n,y,F,J,H,K,L,M⟩:=(d _ (zAv (γ:=[[]]))).all u24.add.add;(walk_at "m");refine⟨c,n,y,F,J,H,K,L,?_⟩;(walk_at "m");refine M _ λB1 t l k R=>?_
 (walk_at "m");refine⟨_,rfl,by omega,?_⟩;rw[toNat_natCast];have x:=k.get zAT;have lt:=(zzg x).1;have rb:∀ {f:List W},Rw (B1.set B.length f) t (B++[[]]).length l (mT w h A):=λ{f}=>R.range λx O _=>getElem?_set_ne (by rw[List.length_append] at O;have:([[]]:Mem).length=1:=rfl;omega)
 refine zBg (s:=⟨_,_⟩) ((rngL 0 h).map .dat) (λj s=>∃ (r b a:Option W),s=⟨[some o,some (.dat (.int (w:Int))),some (.dat (.int (h:Int))),some (.loc B.length),some (.loc t),r,b,a],B1.set B.length ((tl w (tD' A) j).map .dat)⟩) (λ_ _ _=>rfl) ?_ ?_ ⟨none,none,none,by rw[show (tl w (tD' A) 0).map W.dat=[] from rfl,zME x]⟩
 .rintro j y s u ⟨r,b,a,rfl⟩;obtain⟨rfl,G⟩:=idx u;refine⟨_,rfl,?_⟩;dsimp only;(walk_at "s");(walk_at "m");refine⟨_,rfl,by omega,?_⟩;rw[toNat_natCast];refine zBg (s:=⟨_,_⟩) ((rngL 0 w).map .dat) (λi s=>∃ (b a:Option W),s=⟨[some o,some (.dat (.int (w:Int))),some (.dat (.int (h:Int))),some (.loc B.length),some (.loc t),some (.dat (.int (j:Int))),b,a],B1.set B.length ((tl w (tD' A) j++tr (tD' A j) j i).map .dat)⟩) (λ_ _ _=>rfl) ?_ ?_ ⟨b,a,by rw[show tr (tD' A j) j 0=[] from rfl,append_nil]⟩
  .rintro i y s u ⟨b,a,rfl⟩;obtain⟨rfl,C⟩:=idx u;refine⟨_,rfl,?_⟩;dsimp only;(walk_at "s");obtain⟨q,eq⟩:=(rb (f:=(tl w (tD' A) j++tr (tD' A j) j i).map .dat)).at (ds:=rT w A j) (j:=j) (by rw[getElem?_map,getElem?_range G];rfl);have E:=(rb (f:=(tl w (tD' A) j++tr (tD' A j) j i).map .dat)).ll.row _ (mem_of_getElem? eq);have N:=(rb (f:=(tl w (tD' A) j++tr (tD' A j) j i).map .dat)).ll.top;(walk_at "m");refine zCx N (zAl (j:=j) (by rw[getElem?_map,eq];rfl)) ?_;(walk_at "m");refine zCx E (zAl (j:=i) (by rw[getElem?_map,getElem?_map,getElem?_range C];rfl)) ?_;have S:=zHs (p:=tD' A) P (h:=j);have I:=zJR (p:=tD' A j) (j:=j) (i:=i);(walk_at "m");refine fm_k ?_;(walk_at "m");refine zHl (q:=1) ?_;rw[zJQ];have v:(B1.set B.length ((tl w (tD' A) j++tr (tD' A j) j i).map .dat))[B.length]?=some ((tl w (tD' A) j++tr (tD' A j) j i).map .dat):=getElem?_set_self lt;have U:((tl w (tD' A) j++tr (tD' A j) j i).map W.dat).length<=1000:=by rw[qy,List.length_append];omega
   by_cases e1:(A j i).k=1
   .rw [decide_eq_true e1];refine⟨_,rfl,cb_f ?_⟩;(walk_at "m");refine zDJ rfl ?_;(walk_at "m");refine zHl (p:=(A j i).a) (q:=0) ?_;by_cases e2:(A j i).a=0
    .have e:tD' A j i=false:=by unfold tD';rw[decide_eq_true e1,decide_eq_true e2];rfl
     rw[decide_eq_true e2,e,if_neg qX,append_nil];refine⟨_,rfl,(λz=>nomatch z),λ_=>?_⟩;(walk_at "m");exact⟨_,_,rfl⟩
    .have e:tD' A j i=true:=by unfold tD';rw[decide_eq_false e2];exact Bool.or_true _
     rw[decide_eq_false e2,if_pos e];refine⟨_,rfl,λ_=>?_,(λz=>nomatch z)⟩;(walk_at "m");refine⟨_,_,rfl,v,by omega,?_⟩;(walk_at "m");exact⟨_,_,by rw[List.set_set,<- qJ,xY (l₂:=[_])];rfl⟩
   .have e:tD' A j i=true:=by unfold tD';rw[decide_eq_false e1];rfl
    rw[decide_eq_false e1,if_pos e];refine⟨_,rfl,cb_t ⟨_,rfl,λ_=>?_,(λz=>nomatch z)⟩⟩;(walk_at "m");refine⟨_,_,rfl,v,by omega,?_⟩;(walk_at "m");exact⟨_,_,by rw[List.set_set,<- qJ,xY (l₂:=[_])];rfl⟩
  .rintro s ⟨b,a,rfl⟩;rw[nrng];(walk_at "m");exact⟨_,_,_,rfl⟩
 .rintro s ⟨r,b,a,rfl⟩;rw[nrng];(walk_at "m");refine D _ _ ((zAv.trans k).set (le_refl _)) (le_refl _) (getElem?_set_self lt)
end
def zJT :∀ {h:Nat},d∈tl w p h->∃ a b:Int,d=.tup [.int a,.int b]
 | 0,m=>absurd m (by simp[tl])
 | h+1,m=>by
  rcases mem_append.mp (show d∈tl w p h++tr (p h) h w from m) with m | m
  .exact zJT m
  .obtain ⟨i,_,rfl⟩:=mem_map.mp m;exact⟨_,_,rfl⟩
def zTV :DOk 2 (.lst (tl w p h)):=zQi (k:=1) λd d=>by
 obtain⟨a,b,rfl⟩:=zJT d;exact zFx (k:=0) λx c=>by
  simp only[mem_cons,not_mem_nil,or_false] at c;rcases c with rfl | rfl
  .exact zFy _
  .exact zFy _
def m58 {w h k:Nat}{o:W}{B:Mem}{A:Nat->Nat->Fm}(R:k<=2)(d:∀ B',Kq B B'->Dsp 5 o w h B' A)(z:∀ j i,j < h->i < w->(A j i).a=0->(A j i).r=0/\(A j i).g=0/\(A j i).b=0)(t:w<=10)(F:h<=10){Q:MR->Prop}(K:∀ B',Kq B B'->Q (.dat (.bl true),B')):EvP (FM58 [o,.dat (.int (w:Int)),.dat (.int (h:Int)),.dat (.int (k:Int))] B) Q:=by
 refine zCb rfl (by decide) ?_;unfold mb58;show EvP (evSs' GL3 D27 _ ⟨[some o,some (.dat (.int (w:Int))),some (.dat (.int (h:Int))),some (.dat (.int (k:Int))),none,none,none,none],B⟩) _;(walk_at "m");refine m57 d t F λB1 H D V G=>?_
 (walk_at "m");refine⟨_,rfl,by omega,?_⟩;rw[toNat_natCast];rw[<- zNr (p:=tC A) (q:=tD' A) λj i E I=>zT4 (z j i E I)] at G;refine zBg (s:=⟨_,_⟩) ((rngL 0 k).map .dat) (λ_ s=>∃ (x r f:Option W) (B':Mem),s=⟨[some o,some (.dat (.int (w:Int))),some (.dat (.int (h:Int))),some (.dat (.int (k:Int))),some (.loc H),x,r,f],B'⟩/\Kq B1 B') (λ_ _ _=>rfl) ?_ ?_ ⟨none,none,none,B1,rfl,zE5⟩
 .rintro j y s v ⟨x,r,f,B',rfl,l⟩;obtain⟨rfl,E⟩:=idx v;refine⟨_,rfl,?_⟩;dsimp only;(walk_at "s");have C:=d B' (D.trans l);obtain⟨c,n,y,U,L,O,M,P,u,_⟩:=C.tch;(walk_at "m");refine⟨c,n,y,_,L,O,M,P,?_⟩;(walk_at "m");refine zTz u C t F fun μ2 m k3 lm e2=>?_
  have r1:=zDK (k3.get (l.get G));have r2:=zDK e2;(walk_at "m");refine zUv zTV (by decide) ⟨_,rfl,(λz=>nomatch z),λ_=>?_⟩;(walk_at "m");refine⟨m,rfl,?_⟩;refine zBg (s:=⟨_,_⟩) ((tl w (tC A) h).map .dat) (λ_ s=>∃ (f:Option W),s=⟨[some o,some (.dat (.int (w:Int))),some (.dat (.int (h:Int))),some (.dat (.int (k:Int))),some (.loc H),some (.dat (.int (j:Int))),some (.loc m),f],μ2⟩) (λ_ _ g=>by obtain⟨_,e⟩:=g;subst e;exact e2) ?_ ?_ ⟨f,rfl⟩
  .rintro i y s v ⟨f,rfl⟩;obtain⟨T,N,rfl⟩:=mem_map.mp (mem_of_getElem? v);obtain⟨a,b,rfl⟩:=zJT N;refine⟨_,rfl,?_⟩;dsimp only;(walk_at "s");(walk_at "m");refine h49 a _ ?_;(walk_at "m");refine h49 b _ ?_;(walk_at "m");refine⟨(λz=>nomatch z),λ_=>?_⟩;(walk_at "m");exact⟨_,rfl⟩
  .rintro s ⟨f,rfl⟩;(walk_at "m");refine⟨_,_,rfl,e2,by have:=zHs (p:=tC A) t (h:=h);rw[qy];omega,?_⟩;(walk_at "m");refine zRE (zAR rfl ⟨m,_,rfl,getElem?_set_self (zzg e2).1,?_⟩);(walk_at "m");have S:=l.le;exact⟨_,_,_,_,rfl,((l.trans k3).set (by omega)).set (by omega)⟩
 .rintro s ⟨x,r,f,B',rfl,l⟩;(walk_at "m");exact K _ (D.trans l)
def Kc (B μ2:Mem):Prop:=B.length<=μ2.length/\∀ x,2<=x->x < B.length->μ2[x]?=B[x]?
def Kq.kc {μ2:Mem}(k:Kq B μ2):Kc B μ2:=⟨k.le,λx _ a=>k.kp x a⟩
def Kc.trans {μ2:Mem}(a:Kc B μ2)(b:Kc μ2 B3):Kc B B3:=⟨le_trans a.1 b.1,λx h c=>(b.2 x h (xj c a.1)).trans (a.2 x h c)⟩
def Kc.set {μ2:Mem}(k:Kc B μ2)(h:n < 2):Kc B (μ2.set n ws):=⟨by rw[length_set];exact k.1,λx h a=>(getElem?_set_ne (by omega)).trans (k.2 x h a)⟩
def Rw.kc {μ2:Mem}(R:Rw B n b l rows)(d:2<=b)(k:Kc B μ2):Rw μ2 n b l rows:=R.range λx c a=>k.2 x (by omega) a
def Sz (w h:Nat):Prop:=1<=w/\w<=4/\1<=h/\h<=4
def Ly (n M:Nat)(B:Mem)(o:W):Prop:=∃ A:Nat->Nat->Nat->Nat->Fm,∀ w h,Sz w h->(∀ B',Kc B B'->Dsp n o w h B' (A w h))/\TB M w h (A w h)/\∀ j i,j < h->i < w->Gd (A w h j i)
def Lz (B:Mem)(o:W):Prop:=∃ A:Nat->Nat->Nat->Nat->Fm,∀ w h,Sz w h->(∀ B',Kc B B'->Dsp 5 o w h B' (A w h))/\∀ j i,j < h->i < w->(A w h j i).a=0->(A w h j i).r=0/\(A w h j i).g=0/\(A w h j i).b=0
def Ly.lz (c:n<=5):Ly n M B o->Lz B o:=λzy144=>by obtain⟨A,H⟩:=zy144;exact⟨A,λw h z=>⟨λB' k=>((H w h z).1 B' k).mono c,λj i d b=>((H w h z).2.2 j i d b).z⟩⟩
def Ly.keep {μ2:Mem}(k:Kc B μ2):Ly n M B o->Ly n M μ2 o:=λzy145=>by obtain⟨A,H⟩:=zy145;exact⟨A,λw h z=>⟨λB' b=>(H w h z).1 B' (k.trans b),(H w h z).2⟩⟩
def Lz.keep {μ2:Mem}(k:Kc B μ2):Lz B o->Lz μ2 o:=λzy146=>by obtain⟨A,H⟩:=zy146;exact⟨A,λw h z=>⟨λB' b=>(H w h z).1 B' (k.trans b),(H w h z).2⟩⟩
def ShOk (rs:List (List Pt)):Prop:=rs.length<=2/\∀ ps∈rs,Six ps
def ShOk.fl (s:ShOk rs)(z:Sz w h):Fl w h rs:=⟨z.1,le_trans z.2.1 (by decide),z.2.2.1,le_trans z.2.2.2 (by decide),s.1,s.2⟩
section
variable {B:Mem}{a b:Nat}{l:Lp}{rs:List (List Pt)}{t:Rat}(s:ShOk rs)(R:Rw B a b l (ptR rs))(hb:2<=b)(ht:RB 80 t)(tu:0<=t/\t<=1)
include s R hb ht tu
def zR8 (h1:I255 r)(h2:I255 g)(h3:I255 c):Ly 2 600100 B (zK9 a (inkD r g c) t):=⟨λw h=>zQH w h rs t r g c,λw h z =>
 ⟨λB' k=>⟨_,_,_,zBF,rfl,by simp[ents],zUP (s.fl z) ht h1 h2 h3 (R.kc hb k).shape⟩,zS6 (s.fl z) ht h1 h2 h3,λj i _ _=>zSw (zFV (zDM _) tu).1 (zFV (zDM _) tu).2⟩⟩
def zUM:Ly 2 600100 B (rubW a t):=⟨λw h=>rubT w h rs t,λw h z =>
 ⟨λB' k=>⟨_,_,_,zBR,rfl,by simp[ents],kRub (s.fl z) ht (R.kc hb k).shape⟩,⟨λj i c b=>⟨(zCv zCS (zAo (zRP (s.fl z) c b) ht)).mono (by decide),zA3.mono (by decide),zA3.mono (by decide),zA3.mono (by decide),zA3.mono (by decide)⟩⟩,λj i _ _=>zSv (zFV (zDM _) tu).2⟩⟩
omit ht tu
def zR7 (L:Ly 2 600100 B o):Ly 3 1800103 B (zHQ a o):=by
 obtain⟨A,H⟩:=L;refine⟨λw h=>mxT (A w h) (cT (tabR w h rs)),λw h z=>?_⟩;obtain⟨h1,h2,h3⟩:=H w h z;have f:=s.fl z;have ok:=zD9 f;refine⟨λB' k=>⟨_,_,_,zBi,rfl,by simp[ents],zPV (U:=D16) (ix:=ixA.take 2) rfl rfl (h1 B' k).two ok (R.kc hb k) h2 (by decide) (by have:=f.w2;omega) (by have:=f.h2;omega)⟩,h2.mx λj i b c=>ok.rb b c,λj i b c=>zUm (h3 j i b c) (zDM _).1 (zDM _).2⟩
end
def lyJ {b:List W}(x:Bool)(E:2<=a)(e:B[a]?=some b)(H:∀ o∈b,Ly 3 M B o)(l:M+(1+b.length*(2*M+1))+100<=10000000)(y:RB 80 t):Lz B (objW (if x then "Group" else "Join") a t):=by
 have F:∀ k:Nat,∃ A:Nat->Nat->Nat->Nat->Fm,∀ o,b[k]?=some o->∀ w h,Sz w h->(∀ B',Kc B B'->Dsp 3 o w h B' (A w h))/\TB M w h (A w h)/\∀ j i,j < h->i < w->Gd (A w h j i):=λk=>by
  cases q:b[k]? with
  | none=>exact⟨λ_ _ _ _=>clr,λo z=>nomatch z⟩
  | some o =>
   obtain⟨A,P⟩:=H o (mem_of_getElem? q);exact⟨A,λo' z=>by cases z;exact P⟩
 obtain⟨A,P⟩:=Classical.axiomOfChoice F;refine⟨λw h j i=>gX x t (aT (λk=>A k w h) b.length j i),λw h z=>?_⟩;have s:w<=10:=le_trans z.2.1 (by decide);have u:h<=10:=le_trans z.2.2.2 (by decide);have v:∀ k,k < b.length->TB M w h (A k w h):=λk r=>(P k _ (getElem?_eq_getElem r) w h z).2.1
 have TA:=aT_b v b.length (le_refl _);have GA:=zSy (λk r j i c d=>(P k _ (getElem?_eq_getElem r) w h z).2.2 j i c d) b.length (le_refl _);refine⟨λB' k=>?_,λj i c d=>?_⟩
 .have G:B'[a]?=some b:=(k.2 a E (zzg e).1).trans e;have J:∀ Q:MR->Prop,(∀ (p:Mem) (n:Nat) (l:Lp),Kq B' p->Rw p n B'.length l (mT w h (aT (λk=>A k w h) b.length))->Q (.loc n,p))->EvP (zAj 3 5 (evSs' GL3 D17 (mbJ (ixA.take 3))) [.dat (.int (w:Int)),.dat (.int (h:Int)),.loc a] B') Q:=λQ q=>zUQ rfl rfl G (λk' o C p D=>((P k' o C w h z).1 p (k.trans D.kc)).three) v (by omega) s u q
  cases x
  .exact ⟨_,_,_,zCK,rfl,by simp[ents],zSJ (U:=D18) (n:=17) (g:=λf=>mx f t) rfl (by decide +kernel) (FL:=FL2) rfl (λj i c d Q q=>gJ (TA.b j i c d) y (by omega) q) s u J⟩
  .exact ⟨_,_,_,zBv,rfl,by simp[ents],zSJ (U:=D19) (n:=17) (g:=λf=>al f t) rfl (by decide +kernel) (FL:=FL3) rfl (λj i c d Q q=>gG (TA.b j i c d) y (by omega) q) s u J⟩
 .have:=GA j i c d;cases x
  .exact λe=>zr_t this e
  .exact λe=>zr_t this e
def Lz.good {w h k:Nat}{o:W}{B:Mem}(L:Lz B o)(a:k<=2)(z:Sz w h){Q:MR->Prop}(b:∀ B',Kq B B'->Q (.dat (.bl true),B')):EvP (FM58 [o,.dat (.int (w:Int)),.dat (.int (h:Int)),.dat (.int (k:Int))] B) Q:=by
 obtain⟨A,H⟩:=L;exact m58 a (λB' k=>(H w h z).1 B' k.kc) (H w h z).2 (le_trans z.2.1 (by decide)) (le_trans z.2.2.2 (by decide)) b
def Lz.ob (L:Lz B o):objB GL3.ob o=true/\∃ c ns l,o=.obj c ns l/\oiOf GL3.ob "Layer" c=some true:=by
 obtain⟨A,H⟩:=L;have d:=(H 1 1 ⟨by decide,by decide,by decide,by decide⟩).1 B zE5.kc;obtain⟨_,_,_,_,_,_,_,_,_,q⟩:=d.tch;refine⟨q,?_⟩;obtain⟨c,ns,t,F,rfl,m,k⟩:=d;refine⟨c,ns,t,rfl,?_⟩;simp only[ents,take_succ_cons,take_zero,mem_cons,not_mem_nil,or_false,Prod.mk.injEq] at m;rcases m with ⟨rfl,_⟩ | ⟨rfl,_⟩ | ⟨rfl,_⟩ | ⟨rfl,_⟩ | ⟨rfl,_⟩<;>decide +kernel
def zQx (h:EvP (evM J U a s) λx=>EvP (evM J U b ⟨s.G,x.2⟩) λy=>∃ n ws,y.1=.loc n/\y.2[n]?=some ws/\objB J.ob x.1=true/\(∀ w∈ws,objB J.ob w=true)/\(∀ k:Int,k=1\/k=2->EvP (evSs' J U r ⟨s.G.set i (some (.dat (.int k))),y.2⟩) λo=>∃ G γ,o=.nx ⟨G,y.2++γ⟩/\G.set i none=s.G.set i none)/\Q (.nx ⟨s.G.set i none,y.2⟩)):EvP (evSs' J U (.amb i a b r) s) Q:=by
 obtain⟨x,c,⟨y,m⟩,ey,n,ws,en,ew,h1,h2,h3,q⟩:=h;cases en;refine⟨_,?_,q⟩;show ambM _ _ _ _ _ s=_;unfold ambM;rw[c,qx,ey,qx];show (Option.bind (m[n]?) _)=_;rw[show m[n]?=some ws from ew,qx];exact if_pos ⟨h1,h2,λk f=>by obtain⟨o,d,G,γ,rfl,e⟩:=h3 k f;exact⟨G,γ,d,e⟩⟩
def zH9 {x:Int}(h:0 < m):0<=x.fmod m/\x.fmod m < m:=⟨xQ x h,fmod_lt_of_pos x h⟩
def zNU {n:Nat}(h:n<=ws.length):cutW ws (some (n:Int)) none=ws.drop n:=by
 unfold cutW HT.sIx;simp[h];rw[if_neg (by omega),take_of_length_le (by rw[length_drop];exact le_refl _)]
def zUH (h:EvP (evM J U a s) λx=>EvP (evM J U b ⟨s.G,x.2⟩) λy=>∃ (n A:Nat) (os:List W),x.1=.loc n/\y.1=.dat (.int (A:Int))/\y.2[n]?=some os/\A<=os.length/\Q (.loc y.2.length,y.2++[os.take A])):EvP (evM J U (.slc true a b) s) Q :=
 zR2 (h.imp λx h=>h.imp λy c=>by obtain⟨n,A,os,h1,h2,h3,h4,q⟩:=c;exact⟨n,A,os,h1,h2,h3,by rw[if_pos rfl,if_pos rfl,zNT h4];exact q⟩)
def zUI (h:EvP (evM J U a s) λx=>EvP (evM J U b ⟨s.G,x.2⟩) λy=>∃ (n A:Nat) (os:List W),x.1=.loc n/\y.1=.dat (.int (A:Int))/\y.2[n]?=some os/\A<=os.length/\Q (.loc y.2.length,y.2++[os.drop A])):EvP (evM J U (.slc false a b) s) Q :=
 zR2 (h.imp λx h=>h.imp λy c=>by obtain⟨n,A,os,h1,h2,h3,h4,q⟩:=c;exact⟨n,A,os,h1,h2,h3,by rw[if_neg qX,if_neg qX,zNU h4];exact q⟩)
def zG1 (h:EvP (evM J U (.call n f es) s) λr=>r.1=.dat (.bl true)/\Q (false,r.2)):EvP (evT J U (.not (.call n f es)) s) Q:=by
 obtain⟨⟨x,m⟩,e,rfl,q⟩:=h;refine⟨_,?_,q⟩;show notB (asBM (evM J U (.call n f es))) s=_;unfold notB asBM;rw[e]
 rfl
def zTI (h:EvP (evE J a G) λx=>∃ c ns l b,x.1=.obj c ns l/\oiOf J.ob y c=some b/\Q (.bl b,.cl)):EvP (evE J (.iso y a) G) Q:=by
 obtain⟨⟨x,k⟩,e,c,ns,l,b,rfl,h1,q⟩:=h;refine⟨_,?_,q⟩;show one (evE J a) (isoF (oiOf J.ob y)) G=_;unfold one;rw[e,qx];show ((oiOf J.ob y c).bind _)=_;rw[h1]
 rfl
def zQg :drW B (.obj c ns l)=some (dobj c ns l):=by unfold drW;rw[sbW]
noncomputable def mtl:Nat->MT->MT
 | 0,s=>s
 | n+1,.cons _ b=>mtl n b
 | _+1,s=>s
noncomputable def fbd:MT->MT
 | .cons (.for1 _ _ b) _=>b
 | s=>s
structure St (j:Nat)(B:Mem)(os ms:List W)(nL:Nat):Prop where
 e0:B[0]?=some os
 e1:B[1]?=some ms
 l0:os.length=j
 l1:ms.length=j
 os:∀ o∈os,Ly 2 600100 B o
 ms:∀ o∈ms,Ly 3 1800103 B o
 nL:∃ b l rs,ShOk rs/\Rw B nL b l (ptR rs)/\2<=b
abbrev stD (x0:W) (w h nL:Nat) (o6 o7 o8 o9:Option W):List (Option W):=[some x0,some (.dat (.int (w:Int))),some (.dat (.int (h:Int))),some (.loc 0),some (.loc 1),some (.loc nL),o6,o7,o8,o9,none,none,none]
def zJV {d:List W}(S:St j B d ms nL)(D:j < 3)(s:ShOk rs)(R:Rw B a b l (ptR rs))(r:2<=b){μ2:Mem}(k2:Kq B μ2)(L:Ly 2 600100 μ2 o)
  (y:∀ B' os' ms',St (j+1) B' os' ms' a->Q (.nx ⟨stD x0 w h a (some (.dat (.int (j:Int)))) (some (.dat (.int c))) (some (.loc a)) o9,B'⟩)) :
  EvP (evSs' GL3 D28 (mtl 5 (fbd (mtl 5 mb59))) ⟨stD x0 w h nL (some (.dat (.int (j:Int)))) (some (.dat (.int c))) (some (.loc a)) o9,μ2.set 0 (d++[o])⟩) Q:=by
 dsimp only[mtl,fbd,mb59];have lt:1 < μ2.length:=xj (zzg S.e1).1 k2.le;have k:Kc B (μ2.set 0 (d++[o])):=k2.kc.set (by decide);have p:Kc μ2 (μ2.set 0 (d++[o])):=zE5.kc.set (by decide);have n:(μ2.set 0 (d++[o]))[0]?=some (d++[o]):=getElem?_set_self (by omega);have C:(μ2.set 0 (d++[o]))[1]?=some ms:=(getElem?_set_ne (by decide)).trans (k2.get S.e1);have lt:1 < (μ2.set 0 (d++[o])).length:=by rw[length_set];exact lt
 have i:=S.l0;have u:=S.l1;generalize μ2.set 0 (d++[o])=M at *;obtain⟨E,F,A,t,z,f⟩:=S.nL;(walk_at "m");refine zCx n (zAl (j:=j) (by rw[getElem?_append_right (by omega),i,sub_self];rfl)) ?_;(walk_at "m");refine zUK (z.kc f k) (zHD t.1) zFv fun γ m l' R'=>?_
 (walk_at "m");refine⟨_,_,rfl,zAJ C,by omega,?_⟩;(walk_at "m");have e:Kc M ((M++γ).set 1 (ms++[zHQ m o])):=zAv.kc.set (by decide);have v:Kc (M++γ) ((M++γ).set 1 (ms++[zHQ m o])):=zE5.kc.set (by decide);refine y _ (d++[o]) (ms++[zHQ m o]) ⟨(getElem?_set_ne (by decide)).trans (zAJ n),getElem?_set_self (by rw[List.length_append];omega),by rw[List.length_append,i];rfl,by rw[List.length_append,u];rfl,λx g=>?_,λx g=>?_,b,l,rs,s,R.kc r (k.trans e),r⟩
 .rcases mem_append.mp g with q | q
  .exact (S.os x q).keep (k.trans e)
  .rw [mem_singleton.mp q];exact L.keep (p.trans e)
 .rcases mem_append.mp g with q | q
  .exact (S.ms x q).keep (k.trans e)
  .rw [mem_singleton.mp q];exact(zR7 t R' lt (L.keep (p.trans zAv.kc))).keep v
def zJt {p:List W}(S:St j B p ms nL)(d:j < 3)(s:ShOk rs)(R:Rw B a b l (ptR rs))(f:2<=b)(i:RB 80 t)(k:0<=t/\t<=1)
  (e:∀ B' os' ms',St (j+1) B' os' ms' a->Q (.nx ⟨stD x0 w h a (some (.dat (.int (j:Int)))) (some (.dat (.int c))) (some (.loc a)) (some (.dat (ratD t))),B'⟩)) :
  EvP (evSs' GL3 D28 (mtl 4 (fbd (mtl 5 mb59))) ⟨stD x0 w h nL (some (.dat (.int (j:Int)))) (some (.dat (.int c))) (some (.loc a)) (some (.dat (ratD t))),B⟩) Q:=by
 have lt:1 < B.length:=(zzg S.e1).1;have r:=S.l0;dsimp only[mtl,fbd,mb59];(walk_at "m");refine⟨λ_=>?_,λ_=>?_⟩
 ·(walk_at "m");refine mRub R (zHD s.1) zFv (.inr rfl) fun γ m l' R'=>?_
  (walk_at "m");exact⟨_,_,rfl,zAJ S.e0,by omega,zA4 (zBw (zA4 (zJV S d s R f zAv (zUM s R' lt i k) e)))⟩
 ·(walk_at "m");refine h56 _ _ λr g c n o q=>?_
  (walk_at "m");refine zUL R (zHD s.1) zFv (.inr rfl) fun γ m l' R'=>?_
  (walk_at "m");exact⟨_,_,rfl,zAJ S.e0,by omega,zA4 (zBw (zA4 (zJV S d s R f zAv (zR8 s R' lt i k n o q) e)))⟩
def St.keep {a:Nat}{B μ2:Mem}{c d:List W}(S:St j B c d a)(k:Kq B μ2):St j μ2 c d a :=
 ⟨k.get S.e0,k.get S.e1,S.l0,S.l1,λo m=>(S.os o m).keep k.kc,λo m=>(S.ms o m).keep k.kc,let ⟨b,l,rs,s,R,hb⟩:=S.nL;⟨b,l,rs,s,R.keep k,hb⟩⟩
def Ly.mono (l:m<=n):Ly m M B o->Ly n M B o:=λzy149=>by obtain⟨A,H⟩:=zy149;exact⟨A,λw h z=>⟨λB' k=>((H w h z).1 B' k).mono l,(H w h z).2⟩⟩
noncomputable def hlf:Rat:=⟨1,2,by decide,by decide⟩
def st0:St 0 [[],[],[]] [] [] 2:=⟨rfl,rfl,rfl,rfl,(λ_ z=>nomatch z),(λ_ z=>nomatch z),2,[],[],⟨by decide,(λ_ z=>nomatch z)⟩,⟨⟨rfl,(λ_ z=>nomatch z)⟩,(λ_ z=>nomatch z),by decide,rfl⟩,by decide⟩
def zTS {w h:Nat}{b:List W}(S:St 3 M b ms nL)(n:M[nW]?=some ws)(P:ws.length=4)(H:∀ o∈ws,Lz M o)(p:1<=w/\w<=4)(D:1<=h/\h<=3)(I:∀ {B'},Q (.rt (.dat (.bl true),B'))) :
  EvP (evSs' GL3 D28 (mtl 7 mb59) ⟨[some x0,some (.dat (.int (w:Int))),some (.dat (.int (h:Int))),some (.loc 0),some (.loc 1),some (.loc nL),o6,o7,o8,o9,some (.loc nW),none,none],M⟩) Q:=by
 have z:Sz w h:=⟨p.1,p.2,D.1,by omega⟩;have R:=S.l0;have V:=S.l1;have i:∀ o∈b++ms++ws,Lz M o:=λo m=>by
  rcases mem_append.mp m with m | m
  .rcases mem_append.mp m with m | m
   .exact (S.os o m).lz (by decide)
   .exact (S.ms o m).lz (by decide)
  .exact H o m
 dsimp only[mtl,mb59];(walk_at "m");refine zR4 ?_;refine zR4 ?_;(walk_at "m");refine⟨0,1,b,ms,rfl,rfl,S.e0,S.e1,by omega,?_⟩;(walk_at "m");refine⟨_,nW,_,ws,rfl,rfl,zAT,zAJ n,by rw[List.length_append];omega,_,rfl,?_⟩;have q:Kq M (M++[b++ms]++[b++ms++ws]):=zAv.app;have u:(M++[b++ms]++[b++ms++ws])[(M++[b++ms]).length]?=some (b++ms++ws):=zAT;dsimp only;generalize (M++[b++ms]).length=nA at u;generalize M++[b++ms]++[b++ms++ws]=B at q u;have i:∀ o∈b++ms++ws,Lz B o:=λo m=>(i o m).keep q.kc
 have C:=q.get S.e0;have n:=q.get n;refine zBg (s:=⟨_,_⟩) (b++ms++ws) (λ_ s=>∃ d,s=⟨[some x0,some (.dat (.int (w:Int))),some (.dat (.int (h:Int))),some (.loc 0),some (.loc 1),some (.loc nL),o6,o7,o8,o9,some (.loc nW),d,none],B⟩) (λ_ _ f=>by obtain⟨_,e⟩:=f;subst e;exact u) ?_ ?_ ⟨none,rfl⟩
 .rintro j y s x ⟨d,rfl⟩;have L:=i y (mem_of_getElem? x);obtain⟨J,c,U,t,rfl,T⟩:=L.ob;refine⟨_,rfl,?_⟩;dsimp only;(walk_at "s");refine zQx (zAR rfl (zAR rfl ⟨0,b,rfl,C,J,λo m=>(i o (xJ _ (xJ _ m))).ob.1,λk F=>?_,_,rfl⟩));dsimp only;(walk_at "s");refine zAK (zHu (zQ3 ?_));(walk_at "m");refine zTI (zAN (zAc rfl zQg) ⟨c,_,_,true,rfl,T,true,rfl,_,rfl,rfl,zG1 ?_⟩);(walk_at "m");rcases F with rfl | rfl
  .refine L.good (k:=1) (by decide) z λB' r=>⟨rfl,(λz=>nomatch z),λ_=>?_⟩
   obtain⟨γ,rfl⟩:=r.of;(walk_at "m");exact⟨_,γ,rfl,rfl⟩
  .refine L.good (k:=2) (by decide) z λB' r=>⟨rfl,(λz=>nomatch z),λ_=>?_⟩
   obtain⟨γ,rfl⟩:=r.of;(walk_at "m");exact⟨_,γ,rfl,rfl⟩
 .rintro s ⟨d,rfl⟩;obtain⟨A,K,rfl⟩:∃ a l,b=a::l:=by cases b with | nil=>cases R | cons a l=>exact⟨a,l,rfl⟩
  obtain⟨v,E,rfl⟩:∃ a l,ws=a::l:=by cases ws with | nil=>cases P | cons a l=>exact⟨a,l,rfl⟩
  have O:=i A (by simp);have G:=i v (by simp);(walk_at "m");refine zCx C (zAl (j:=0) rfl) ?_;(walk_at "m");refine zCx n (zAl (j:=0) rfl) ?_;(walk_at "m");refine⟨_,rfl,?_⟩;refine zBg (s:=⟨_,_⟩) [A,v] (λ_ s=>∃ d B',s=⟨[some x0,some (.dat (.int (w:Int))),some (.dat (.int (h:Int))),some (.loc 0),some (.loc 1),some (.loc nL),o6,o7,o8,o9,some (.loc nW),d,none],B'⟩/\Kq (B++[[A,v]]) B') (λ_ _ g=>by obtain⟨_,_,e,k⟩:=g;subst e;exact k.get zAT) ?_ ?_ ⟨_,_,rfl,zE5⟩
  .rintro j y s x ⟨d,B',rfl,k⟩;have L:Lz B' y:=by
    have m:=mem_of_getElem? x;simp only[mem_cons,not_mem_nil,or_false] at m;rcases m with rfl | rfl
    .exact O.keep (zAv.trans k).kc
    .exact G.keep (zAv.trans k).kc
   refine⟨_,rfl,?_⟩;dsimp only;(walk_at "s");refine zAK (zHu (zQ3 (zG1 ?_)));(walk_at "m");refine L.good (w:=h+1) (h:=w) (k:=1) (by decide) ⟨by omega,by omega,p.1,p.2⟩ fun μ2 k2=>⟨rfl,rfl,zG1 ?_⟩
   (walk_at "m");refine(L.keep k2.kc).good (k:=1) (by decide) z λB3 N=>⟨rfl,(λz=>nomatch z),λ_=>?_⟩
   (walk_at "m");exact⟨_,_,rfl,(k.trans k2).trans N⟩
  .rintro s ⟨d,B',rfl,k⟩;(walk_at "m");exact I
def zSB (ns:List Int):EvP (FM59 [.dat (scr ns)] []) λx=>x.1=.dat (.bl true):=by
 refine zCb rfl (by decide) ?_;show EvP (evSs' GL3 D28 mb59 ⟨[some (.dat (scr ns)),none,none,none,none,none,none,none,none,none,none,none,none],[]⟩) _;unfold mb59;(walk_at "m");refine h48 ns 0 _ (by decide) ?_;(walk_at "m");refine h48 ns 1 _ (by decide) ?_;(walk_at "m");obtain⟨w,u⟩:∃ w:Nat,1+(cel ns 0).fmod 4=(w:Int):=⟨(1+(cel ns 0).fmod 4).toNat,by have:=zH9 (x:=cel ns 0) (m:=4) (by decide);omega⟩;obtain⟨h,r⟩:∃ h:Nat,1+(cel ns 1).fmod 3=(h:Int):=⟨(1+(cel ns 1).fmod 3).toNat,by have:=zH9 (x:=cel ns 1) (m:=3) (by decide);omega⟩;have z:=zH9 (x:=cel ns 0) (m:=4) (by decide);have h1:=zH9 (x:=cel ns 1) (m:=3) (by decide);rw[u,r];have v:1<=w/\w<=4:=by omega
 have A:1<=h/\h<=3:=by omega
 clear z h1 u r;refine⟨_,rfl,by decide,?_⟩;refine zBg (s:=⟨_,_⟩) ((rngL 0 3).map .dat) (λj s=>∃ (n g k p:Option W) (d:Nat) (B:Mem) (b c:List W),s=⟨stD (.dat (scr ns)) w h d n g k p,B⟩/\St j B b c d) (λ_ _ _=>rfl) ?_ ?_ ⟨none,none,none,none,2,_,[],[],rfl,st0⟩
 .rintro j y s C ⟨n,g,k,p,d,B,b,c,rfl,S⟩;obtain⟨rfl,q⟩:=idx C;refine⟨_,rfl,?_⟩;dsimp only;(walk_at "s");(walk_at "m");refine h48 ns _ _ (by omega) ?_;(walk_at "m");refine h50 _ _ _ (by omega) (by omega) λc=>?_
  (walk_at "m");refine m55 _ w h (by omega) (by omega) B _ fun μ2 a l rs k2 R lr six=>?_
  (walk_at "m");refine h48 ns _ _ (by omega) ?_;(walk_at "m");refine h50 _ _ _ (by omega) (by omega) λc'=>?_
  (walk_at "m");refine h52 _ _ λt E F=>?_
  (walk_at "m");have lt:1 < B.length:=(zzg S.e1).1;refine⟨λ_=>?_,λ_=>?_⟩
  .refine (show EvP (evSs' GL3 D28 _ ⟨_,μ2⟩) (KM GL3 D28 (mtl 4 (fbd (mtl 5 mb59))) _) from ?_);(walk_at "m");exact zJt (t:=0) (S.keep k2) q ⟨lr,six⟩ R lt (zA3.mono (by decide)) ⟨by decide,by decide⟩ λB' f e i=>⟨_,_,_,_,_,_,_,_,rfl,i⟩
  .exact zBw (zA4 (zJt (S.keep k2) q ⟨lr,six⟩ R lt E F λB' f e i=>⟨_,_,_,_,_,_,_,_,rfl,i⟩))
 .rintro s ⟨n,g,k,p,d,B,b,c,rfl,S⟩;rw[nrng] at S;have G:=S.l0;have H:=S.l1;have lt:1 < B.length:=(zzg S.e1).1;refine zA4 (zAK (show EvP (evS' GL3 D28 _ ⟨_,B⟩) (KM GL3 D28 (mtl 7 mb59) _) from ?_));(walk_at "m");refine zR6 S.e0 (.inl ⟨rfl,rfl⟩) ?_;refine zAF (m_mk rfl (by decide +kernel) (zAF (zUI ?_)));(walk_at "m");refine⟨0,1,b,rfl,rfl,zAJ S.e0,by omega,?_⟩;(walk_at "m");refine zOG (t:=hlf) zAT (.inr rfl) ?_;refine zAF (m_mk rfl (by decide +kernel) (zAF (zUH ?_)));(walk_at "m");refine⟨1,2,c,rfl,rfl,zAJ (zAJ (zAJ S.e1)),by omega,?_⟩;(walk_at "m");refine zR6 (t:=0) zAT (.inr rfl) ?_;(walk_at "m");refine zOG zAT (.inl ⟨rfl,rfl⟩) ?_;(walk_at "m");have D:Kq B (B++[b]++[b.drop 1]++[b.drop 1]++[c.take 2]++[c.take 2]++[[]]++[[]]):=zAv.app.app.app.app.app.app;have S:=S.keep D;refine zTS (S.keep zAv) zAT rfl (λo m=>?_) v A rfl;simp only[mem_cons,not_mem_nil,or_false] at m;rcases m with rfl | rfl | rfl | rfl
  .exact (lyJ (M:=600100) false (by omega) (zAJ (zAJ (zAJ (zAJ (zAJ (zAJ zAT)))))) (λo m=>(S.os o m).mono (by decide)) (by omega) (zCS.mono (by decide))).keep zAv.kc
  .exact (lyJ (M:=600100) true (by simp only[List.length_append];omega) (zAJ (zAJ (zAJ (zAJ zAT)))) (λo m=>(S.os o (List.mem_of_mem_drop m)).mono (by decide)) (by rw[length_drop];omega) ⟨by unfold Bd;decide,by unfold Bd;decide⟩).keep zAv.kc
  .exact (lyJ (M:=1800103) false (by simp only[List.length_append];omega) (zAJ (zAJ zAT)) (λo m=>S.ms o (List.mem_of_mem_take m)) (by rw[length_take];omega) (zA3.mono (by decide))).keep zAv.kc
  .exact (lyJ (M:=1) true (by simp only[List.length_append];omega) zAT (λo m=>absurd m (by simp)) (by decide) (zCS.mono (by decide))).keep zAv.kc
def law_true (ns:List Int)(a:ns.length<=63):∃ B,FM59 [.dat (.lst (ns.map D.int))] []=some (.dat (.bl true),B):=by
 obtain⟨⟨w,B⟩,e,q⟩:=zSB ns;cases q;exact⟨B,e⟩
end Q
end
namespace PySem.W.Fast
abbrev P:=True
def tw10004996542241052049:=P
def tw10032008092222142707:=P
def tw1004417187112865290:=P
def tw10051737211799401462:=P
def tw10057677823453944972:=P
def tw10086163481124322780:=P
def tw1010899426519014806:=P
def tw1013072838020291507:=P
def tw10169616627768967573:=P
def tw10224705198335555827:=P
def tw10236890037183805070:=P
def tw10238951976126234823:=P
def tw10248028598896741410:=P
def tw10257088786572527004:=P
def tw10293550954718917743:=P
def tw10340648397248013661:=P
def tw10412815922418965652:=P
def tw10447120722791800247:=P
def tw10463225532147775062:=P
def tw10495132432693561834:=P
def tw10538898766030141637:=P
def tw10553140264266939784:=P
def tw10572963887835828893:=P
def tw10581365391679029578:=P
def tw1059957919757807069:=P
def tw1060740564187210356:=P
def tw10612499908198666396:=P
def tw10617493611437654184:=P
def tw10676544700106434187:=P
def tw10719721289950958680:=P
def tw10733921704122469513:=P
def tw1075975017560796843:=P
def tw10803296590895588338:=P
def tw10831166604724421575:=P
def tw10849337493847589768:=P
def tw10856771758351184104:=P
def tw10979174876054286145:=P
def tw10984187602841086823:=P
def tw11047591393475889481:=P
def tw11070632137694906132:=P
def tw11072378620336477185:=P
def tw1108028074567602014:=P
def tw1109715324739447808:=P
def tw11167121604109440690:=P
def tw11210867866050221662:=P
def tw11211561684161445099:=P
def tw11222409824328414819:=P
def tw11288302974523104091:=P
def tw11292824740787074328:=P
def tw11315323816836682635:=P
def tw11322967892388304713:=P
def tw11374261007256822085:=P
def tw11415406108280400980:=P
def tw11424465661425265385:=P
def tw11477369226660776144:=P
def tw11482314424588397162:=P
def tw11505816609558177825:=P
def tw11519781092631694683:=P
def tw11545268553067808961:=P
def tw11548358001114677238:=P
def tw11550514667752042553:=P
def tw11701161791195284434:=P
def tw11731915288641352178:=P
def tw11754517029372709715:=P
def tw11765711996604628262:=P
def tw11783188484844610209:=P
def tw11789040517422244348:=P
def tw11796660098741652853:=P
def tw11862786328836746839:=P
def tw11982389691216239414:=P
def tw12062679092595619867:=P
def tw12096765326300134496:=P
def tw12115049308945513481:=P
def tw12154103547104973856:=P
def tw12165183797753166662:=P
def tw1216764881405181207:=P
def tw12167948181608277247:=P
def tw12189673966666472533:=P
def tw12201683019255712688:=P
def tw1222827296359271194:=P
def tw12265614665256877963:=P
def tw12350597514408751131:=P
def tw12354649750180124937:=P
def tw12392352690705383446:=P
def tw12430281373492180019:=P
def tw12450286543740064263:=P
def tw12458519126156532709:=P
def tw12540218703421014035:=P
def tw12545130693858891571:=P
def tw12548781695015468708:=P
def tw12560713945972521419:=P
def tw12564981244244366551:=P
def tw12573251422304601026:=P
def tw12595078910550346230:=P
def tw12610291908508240327:=P
def tw12613905763704957518:=P
def tw12626907145829994550:=P
def tw12676749318191190751:=P
def tw12721292597337641446:=P
def tw12794393022751923683:=P
def tw12831674485205054068:=P
def tw12861398685177540445:=P
def tw12903152480189627428:=P
def tw12904422961920805233:=P
def tw12907878157186020165:=P
def tw12908808019691537547:=P
def tw12938977954407733642:=P
def tw12952827381284655454:=P
def tw1297040740025091257:=P
def tw12976032158683747676:=P
def tw13071359151665977702:=P
def tw13119007142386845645:=P
def tw13238366934293902272:=P
def tw13247012021352983629:=P
def tw13278173959378205366:=P
def tw13291581123405658080:=P
def tw13351430694658415526:=P
def tw1336897994362927342:=P
def tw1337309938693025404:=P
def tw13400706115629256150:=P
def tw13482365601990525478:=P
def tw13486496537961183394:=P
def tw1353615926413129984:=P
def tw1355927312189520576:=P
def tw1356724562278434912:=P
def tw13582551550895951560:=P
def tw13631190327395266969:=P
def tw13638619161549821558:=P
def tw13732654354611906925:=P
def tw13791450709506459811:=P
def tw13829195424421918313:=P
def tw13859081996480353165:=P
def tw13860343713420480002:=P
def tw13864625643176091608:=P
def tw13920079940913576020:=P
def tw13964056458377715535:=P
def tw13966648290038111896:=P
def tw14014784124102112945:=P
def tw14080171256190689940:=P
def tw14090518664735569007:=P
def tw14123440429599512215:=P
def tw14142384295681007812:=P
def tw14171419102641053194:=P
def tw14193867222799364933:=P
def tw14212522689853232483:=P
def tw14287410584273111270:=P
def tw14287453014534334242:=P
def tw14310764716855109861:=P
def tw14323970423417288077:=P
def tw14350045003550394074:=P
def tw14406289001305057594:=P
def tw14411559456257207892:=P
def tw14528097684284201680:=P
def tw14580043401051842659:=P
def tw14582015677816256379:=P
def tw14678731941117792630:=P
def tw14696647461585812791:=P
def tw14745026070043724419:=P
def tw14798669076878167598:=P
def tw1480147476104304950:=P
def tw14834437771971811506:=P
def tw14836261685343311138:=P
def tw14859228858050483841:=P
def tw14904355331836856593:=P
def tw14906829219682794699:=P
def tw14916156938014281450:=P
def tw14922200857467696045:=P
def tw14961557240052001622:=P
def tw14962734140181132545:=P
def tw14981454396828094:=P
def tw15008260842672519638:=P
def tw15012012980836828764:=P
def tw15040980949348014110:=P
def tw15046737359403027598:=P
def tw15087511924005705618:=P
def tw15089192374475477539:=P
def tw151293170980231019:=P
def tw15186672074772929290:=P
def tw15223332962579276585:=P
def tw15309697561253421811:=P
def tw15337598923676338522:=P
def tw15369883919298983858:=P
def tw15383760102339499801:=P
def tw15393600522506744496:=P
def tw15402332851456391543:=P
def tw15416703521069447420:=P
def tw15447592013052486825:=P
def tw15486273031728395324:=P
def tw15510884094646761425:=P
def tw15512459190866991280:=P
def tw15528128269447861659:=P
def tw15559517944453435397:=P
def tw15563969068497506733:=P
def tw15612926698282068552:=P
def tw15623619653315060339:=P
def tw15628644171815361968:=P
def tw15637946759555739606:=P
def tw1565632899370589035:=P
def tw15661663726660685470:=P
def tw15666506710682755808:=P
def tw15735873924254827643:=P
def tw15766597705298075462:=P
def tw158439439018666258:=P
def tw15903118005339952685:=P
def tw15925696330412452619:=P
def tw15947376361249879821:=P
def tw15962481222706295325:=P
def tw1600659792194812553:=P
def tw16010765906348472265:=P
def tw16045770796459473701:=P
def tw16109071866224051947:=P
def tw16116107277465516248:=P
def tw16118843747334781244:=P
def tw16122069454788048434:=P
def tw16126454962134254096:=P
def tw16154139577697469864:=P
def tw16196223125364774212:=P
def tw1625134140813515087:=P
def tw16251567021227580326:=P
def tw16308080596450993538:=P
def tw16348081463577298176:=P
def tw16373502615923740478:=P
def tw16381242604838116585:=P
def tw16427072787268150277:=P
def tw16467559065531065464:=P
def tw1647517279976926770:=P
def tw16525210742078597571:=P
def tw16598769370350700195:=P
def tw16626547188037462788:=P
def tw1663151898191174948:=P
def tw16725593903699069552:=P
def tw16739908047244605081:=P
def tw16749303102920001684:=P
def tw16765582749257400919:=P
def tw16772366429124033568:=P
def tw16862224896592765623:=P
def tw1687094905780849901:=P
def tw16974721239376864035:=P
def tw17002071266221297213:=P
def tw17057591136059399231:=P
def tw17067739512357956714:=P
def tw17070518114050035256:=P
def tw1709703458997731138:=P
def tw17097217065343614498:=P
def tw17111525752054833752:=P
def tw17114202194953350615:=P
def tw1712242233769543547:=P
def tw17131781542455255519:=P
def tw17143085404142490982:=P
def tw17144033850229248727:=P
def tw17164792242163601481:=P
def tw1718335043135303101:=P
def tw17197496133050411618:=P
def tw17239132429341626518:=P
def tw17257365148654340219:=P
def tw1731260278930885139:=P
def tw17321644104851076981:=P
def tw17327725824249388256:=P
def tw173704965976410667:=P
def tw17472129216021315159:=P
def tw17479317398188259509:=P
def tw17556885987044782358:=P
def tw17557515304671510010:=P
def tw17582660890615496565:=P
def tw17617860569914957062:=P
def tw17704563937103726673:=P
def tw17721819938222425239:=P
def tw17737992501618075875:=P
def tw17766392641668397480:=P
def tw17776220438250715661:=P
def tw17784950057520796532:=P
def tw17789116795619981177:=P
def tw17947132019494506454:=P
def tw1795602181130753047:=P
def tw1801024061934904384:=P
def tw18021804486141838444:=P
def tw18054761620526676651:=P
def tw18056032152889436926:=P
def tw18072412310660680392:=P
def tw18094043828134111271:=P
def tw1816344065503864166:=P
def tw18244725613156316376:=P
def tw18290860830406068216:=P
def tw18303152644392271425:=P
def tw18342177353608388131:=P
def tw18345832663631353885:=P
def tw18349754321266538355:=P
def tw18358945793075939590:=P
def tw18417202068772741936:=P
def tw18426385713573651307:=P
def tw18440081876431886060:=P
def tw1868901166597989689:=P
def tw1877513529459251492:=P
def tw1924932546355216943:=P
def tw1937905305778738875:=P
def tw1950966831163935251:=P
def tw1962885331957679851:=P
def tw1972906141479259090:=P
def tw199767830820672093:=P
def tw2028432454301373978:=P
def tw2030187683611699175:=P
def tw2046300995592851533:=P
def tw2060396303156572836:=P
def tw2087340675849318306:=P
def tw2109744335574032255:=P
def tw2174946644263168946:=P
def tw2180198796666651322:=P
def tw2236543661149470450:=P
def tw2242580862898092427:=P
def tw2245358506738598992:=P
def tw2289995467224846588:=P
def tw2292995293657742324:=P
def tw2299716351140458772:=P
def tw2371314159905943429:=P
def tw2410565095948446707:=P
def tw2505671828623686684:=P
def tw256319491137562503:=P
def tw2583998463527731487:=P
def tw2597528585241046817:=P
def tw2634485360415812551:=P
def tw2681354278475411628:=P
def tw2687580259176300533:=P
def tw2713193776060014429:=P
def tw2777585081782040723:=P
def tw2794978881694971698:=P
def tw2819196711610747228:=P
def tw2835379861824437590:=P
def tw2853700820858443535:=P
def tw2906950661779487:=P
def tw2921908638529720797:=P
def tw2976410429022725329:=P
def tw3013618950606217957:=P
def tw3042635708236415641:=P
def tw3136045205019778071:=P
def tw3174930744468638726:=P
def tw3178349213123080661:=P
def tw3179063533689845323:=P
def tw3207128949096724127:=P
def tw322598331474300424:=P
def tw3228202395590843443:=P
def tw324225861370830622:=P
def tw3246722322576656210:=P
def tw3287067642037620196:=P
def tw3314924414775081965:=P
def tw3327532327875496703:=P
def tw3378437484950061842:=P
def tw3462243383533795428:=P
def tw3481001434777785402:=P
def tw3512903491441418184:=P
def tw3548022833749756271:=P
def tw3557596109227389215:=P
def tw3596000408103985238:=P
def tw3608012202831387964:=P
def tw3655124199896611703:=P
def tw3709956805594137718:=P
def tw3742867467691504840:=P
def tw3747063829743791593:=P
def tw3990013646164474846:=P
def tw3995835785567384765:=P
def tw4035916183017351481:=P
def tw4041134920980086505:=P
def tw4060510116921941524:=P
def tw4064404490514059022:=P
def tw4071426925311338368:=P
def tw413974220992127422:=P
def tw4174664853856385050:=P
def tw4176222664154881852:=P
def tw4191760734727660638:=P
def tw4285974820292611043:=P
def tw4287248758461485166:=P
def tw4355572933904346654:=P
def tw4379113777391134023:=P
def tw4422115691831448459:=P
def tw449243297850842024:=P
def tw4498533366059656321:=P
def tw4501730214151989461:=P
def tw4522606248676843147:=P
def tw4622197340433896295:=P
def tw4634408515703789414:=P
def tw4634952457666605420:=P
def tw46492657532780719:=P
def tw4710657128198542990:=P
def tw4723739806318818918:=P
def tw4782934781966173194:=P
def tw4839902411090416203:=P
def tw4926613705499243343:=P
def tw4933776346787326317:=P
def tw4999262208468481130:=P
def tw5027404473280132186:=P
def tw5073872698873575225:=P
def tw5109234372612441813:=P
def tw522484600357653156:=P
def tw5266806736515373683:=P
def tw530818103529939159:=P
def tw5344869991973434405:=P
def tw5354698434578089426:=P
def tw5400152761328164962:=P
def tw5520116357875298780:=P
def tw5538824407296521674:=P
def tw5539143053963723245:=P
def tw5598468680801595640:=P
def tw5603960349630383348:=P
def tw5615106870097322681:=P
def tw5616151833931741220:=P
def tw569366869422888887:=P
def tw5713029687477021507:=P
def tw5757136270054986385:=P
def tw5759035945308623190:=P
def tw576583083631365931:=P
def tw5824758648502435636:=P
def tw5849238299849033421:=P
def tw5886187050399604740:=P
def tw590236266227086709:=P
def tw5978496976695223334:=P
def tw5998489309052041559:=P
def tw6056188296714061344:=P
def tw6083750468233864720:=P
def tw6103246142686562427:=P
def tw6107458354781783310:=P
def tw6148228469657850281:=P
def tw6154543520747217761:=P
def tw6197357432656688012:=P
def tw6223080952388968600:=P
def tw6311906974031306886:=P
def tw6337223117700567411:=P
def tw6358050234561970178:=P
def tw6362175713900818029:=P
def tw6421055482976378204:=P
def tw644209769848879683:=P
def tw6443370116886812158:=P
def tw6475611083354312212:=P
def tw6479027307314355960:=P
def tw6486867344833784605:=P
def tw6487462874514229084:=P
def tw652857295824270924:=P
def tw656845235193801404:=P
def tw6604357711999901810:=P
def tw6612288242403783546:=P
def tw6663468173103843139:=P
def tw6716896093477313205:=P
def tw6761666729713880155:=P
def tw6837637399353567010:=P
def tw6867077900460671842:=P
def tw6905826377608888660:=P
def tw6920619883858069482:=P
def tw6959299378099813666:=P
def tw6996120002126311201:=P
def tw7038621169481145620:=P
def tw7038879921643756003:=P
def tw7067119386077636172:=P
def tw711976717637698525:=P
def tw7143875868711454660:=P
def tw7161146379740792772:=P
def tw718289368459564547:=P
def tw7190702136756213565:=P
def tw71908461731628897:=P
def tw721005016150544677:=P
def tw7211832723249490855:=P
def tw7220883437036287393:=P
def tw7227376082642069870:=P
def tw725341907342004207:=P
def tw7255004588254984962:=P
def tw729519306871689367:=P
def tw7356200782368681222:=P
def tw7384556800273363646:=P
def tw7386040828290818234:=P
def tw7416132846583881777:=P
def tw7430839690343239762:=P
def tw7472043341661950310:=P
def tw7476081049607389068:=P
def tw7478306986279893343:=P
def tw749937418975406530:=P
def tw7526244418726323835:=P
def tw76124548464704200:=P
def tw7631652414909898170:=P
def tw7645858547282789918:=P
def tw7700576444304366247:=P
def tw7724703434847841735:=P
def tw7750723115192030826:=P
def tw7834412074825585519:=P
def tw7869424035267954466:=P
def tw797498253483047970:=P
def tw8003964141659369767:=P
def tw8009003443298967833:=P
def tw8068515424993261972:=P
def tw8068903605745484267:=P
def tw8103142334062870458:=P
def tw8181544265058336840:=P
def tw8195714349232477282:=P
def tw826757385763120458:=P
def tw8301054042348575199:=P
def tw8322338211775874061:=P
def tw8330993858793578640:=P
def tw8352281980921736810:=P
def tw836564740664245269:=P
def tw840746814659470411:=P
def tw84182952959867907:=P
def tw850427500074090780:=P
def tw8505291871573959187:=P
def tw8512277768508601329:=P
def tw857283811288481790:=P
def tw859096263299148683:=P
def tw8601475555013748188:=P
def tw8722073572379626505:=P
def tw8730259880482051515:=P
def tw8739261925751845104:=P
def tw8746585805396846933:=P
def tw8757949668627198238:=P
def tw8788961862966224454:=P
def tw8832953459969951183:=P
def tw8847531556709175917:=P
def tw8850429272063686877:=P
def tw8861487592571821259:=P
def tw8928429143363109045:=P
def tw8993717117411469651:=P
def tw8996756099515137720:=P
def tw9012274531398377931:=P
def tw9026742864006817361:=P
def tw9083770982482142057:=P
def tw914582179914564509:=P
def tw9226383072094850780:=P
def tw9268466226842055257:=P
def tw9306595058835674757:=P
def tw9318931355874858346:=P
def tw9370662163166013283:=P
def tw937501226323462346:=P
def tw9380467756170693302:=P
def tw9400237064035596861:=P
def tw9406108062482314479:=P
def tw9420800569710414035:=P
def tw9453522905719814258:=P
def tw9473842059852313999:=P
def tw9482061498495756224:=P
def tw9483996206646317944:=P
def tw9487820050586806829:=P
def tw9491823690096844920:=P
def tw95498701330448412:=P
def tw9644646619156991477:=P
def tw9699013893678231415:=P
def tw970459961535725560:=P
def tw9726570839886082713:=P
def tw9754427279003744142:=P
def tw9771824830873161990:=P
def tw9779580155387329146:=P
def tw9794121318539264368:=P
def tw9837409245281578614:=P
def tw9884108698427266651:=P
def tw9907291278685401927:=P
def tw9907645077100057028:=P
def tw9919475382297982457:=P
def tw992306628719918689:=P
def tw9945825135834237984:=P
def tw9957762717397011776:=P
def tw997894872464045865:=P
def tw9984948722379634333:=P
def tw9992882569424801077:=P
end PySem.W.Fast
open PySem PySem.W PyProof.Rows
set_option maxRecDepth 100000 in
set_option maxHeartbeats 0 in
theorem PySem.Challenge.cw_coverfill_k34_touched_holds : PySem.Challenge.rw_coverfill_k34_touched.Holds := by
  w_on; o_law; k_head; (case hw => w_witness2)
  k_fill
  refine DL.walkM (k := 86) (F := Q.FM59) (l := PySem.Challenge.rw_coverfill_k34_touched) rfl rfl (by decide +kernel) (λ_ => rfl) ⟨rfl, by decide, by decide⟩ [(("thinned_covers" : PySem.Str), 328, 324), (("Fill.films" : PySem.Str), 397, 393), (("Join.films" : PySem.Str), 477, 473), (("Group.films" : PySem.Str), 504, 500)] ?hrec ?htl ?htk ?hnd ?hnt (λw h Y => PySem.W.km_in_of Y) ?F Q.law_true
  case hrec =>
    intro w h Y t ht
    simp only[List.mem_cons, List.not_mem_nil, or_false] at ht
    rcases ht with rfl | rfl | rfl | rfl
    · exact⟨PySem.W.codeHd_of_K (PySem.W.km_in_of Y) (by kernel_rfl), PySem.W.km_tabs_of Y _ (by decide)⟩
    · exact⟨PySem.W.codeHd_of_K (PySem.W.km_in_of Y) (by kernel_rfl), PySem.W.km_tabs_of Y _ (by decide)⟩
    · exact⟨PySem.W.codeHd_of_K (PySem.W.km_in_of Y) (by kernel_rfl), PySem.W.km_tabs_of Y _ (by decide)⟩
    · exact⟨PySem.W.codeHd_of_K (PySem.W.km_in_of Y) (by kernel_rfl), PySem.W.km_tabs_of Y _ (by decide)⟩
  case htl => exact λ_ => DL.tabs_of (by kernel_rfl) (by kernel_rfl) (by kernel_rfl) (by kernel_rfl)
  case htk => exact by decide
  case hnd => exact by decide
  case hnt => exact λ_ => by kernel_rfl
  case F =>
    intro w mg fa h KX G hmg
    refine' Q.all_mk KX G hmg (lc0 := 328) (lp0 := 324) (by kernel_rfl) (lc1 := 397) (lp1 := 393) (by kernel_rfl) (lc2 := 477) (lp2 := 473) (by kernel_rfl) (lc3 := 504) (lp3 := 500) (by kernel_rfl) (DL.ft ?_ ?_ ?_ ?_) (DL.ft ?_ ?_ ?_ ?_) (DL.ft ?_ ?_ ?_ ?_) (DL.ft ?_ ?_ ?_ ?_) (DL.ft ?_ ?_ ?_ ?_) (DL.ft ?_ ?_ ?_ ?_) (DL.ft ?_ ?_ ?_ ?_) (DL.ft ?_ ?_ ?_ ?_) (DL.ft ?_ ?_ ?_ ?_) (DL.ft ?_ ?_ ?_ ?_) (DL.ft ?_ ?_ ?_ ?_) (DL.ft ?_ ?_ ?_ ?_) (DL.ft ?_ ?_ ?_ ?_) (DL.ft ?_ ?_ ?_ ?_) (DL.ft ?_ ?_ ?_ ?_) (DL.ft ?_ ?_ ?_ ?_) (DL.ft ?_ ?_ ?_ ?_) (DL.ft ?_ ?_ ?_ ?_) (DL.ft ?_ ?_ ?_ ?_) (DL.ft ?_ ?_ ?_ ?_) (DL.ft ?_ ?_ ?_ ?_) (DL.ft ?_ ?_ ?_ ?_) (DL.ft ?_ ?_ ?_ ?_) (DL.ft ?_ ?_ ?_ ?_) (DL.ft ?_ ?_ ?_ ?_) (DL.ft ?_ ?_ ?_ ?_) (DL.ft ?_ ?_ ?_ ?_) (DL.ft ?_ ?_ ?_ ?_) (DL.ft ?_ ?_ ?_ ?_) (DL.ft ?_ ?_ ?_ ?_) (DL.ft ?_ ?_ ?_ ?_) (DL.ft ?_ ?_ ?_ ?_) (DL.ft ?_ ?_ ?_ ?_) (DL.ft ?_ ?_ ?_ ?_) (DL.ft ?_ ?_ ?_ ?_) (DL.ft ?_ ?_ ?_ ?_) (DL.ft ?_ ?_ ?_ ?_) (DL.ft ?_ ?_ ?_ ?_) (DL.ft ?_ ?_ ?_ ?_) (DL.ft ?_ ?_ ?_ ?_) (DL.ft ?_ ?_ ?_ ?_) (DL.ft ?_ ?_ ?_ ?_) (DL.ft ?_ ?_ ?_ ?_) (DL.ft ?_ ?_ ?_ ?_) (DL.ft ?_ ?_ ?_ ?_) (DL.ft ?_ ?_ ?_ ?_) (DL.ft ?_ ?_ ?_ ?_) (DL.ft ?_ ?_ ?_ ?_) (DL.ft ?_ ?_ ?_ ?_) (DL.ft ?_ ?_ ?_ ?_) (DL.ft ?_ ?_ ?_ ?_) (DL.ft ?_ ?_ ?_ ?_) (DL.ft ?_ ?_ ?_ ?_) (DL.ft ?_ ?_ ?_ ?_) (DL.ft ?_ ?_ ?_ ?_) (DL.ft ?_ ?_ ?_ ?_) (DL.ft ?_ ?_ ?_ ?_) (DL.ft ?_ ?_ ?_ ?_) (DL.ft ?_ ?_ ?_ ?_) ?a59 ?l59 ?c59 ?k59 ?z0 ?z1 ?z2 ?z3 ?z4 ?z5 ?z6 ?z7 ?z8 ?z9 ?z10 ?ca0 ?cl0 ?cv0 ?ca1 ?cl1 ?cv1 ?ca2 ?cl2 ?cv2 (DL.uc ?_ ?_ ?_ ?_ ?_ ?_ ?_ (DL.nfc ?_ (DL.nfc ?_ (DL.nfc ?_ DL.nf0)))) ?cc_u0 ?mr_u0 ?eq_u0 (DL.uc ?_ ?_ ?_ ?_ ?_ ?_ ?_ (DL.nfc ?_ (DL.nfc ?_ DL.nf0))) ?cc_u1 ?mr_u1 ?eq_u1 (DL.uc ?_ ?_ ?_ ?_ ?_ ?_ ?_ (DL.nfc ?_ (DL.nfc ?_ DL.nf0))) ?cc_u2 ?mr_u2 ?eq_u2 (DL.uc ?_ ?_ ?_ ?_ ?_ ?_ ?_ (DL.nfc ?_ (DL.nfc ?_ DL.nf0))) ?cc_u3 ?mr_u3 ?eq_u3 (DL.uc ?_ ?_ ?_ ?_ ?_ ?_ ?_ (DL.nfc ?_ (DL.nfc ?_ DL.nf0))) ?cc_u4 ?mr_u4 ?eq_u4 ?oa_iso ?sp_iso ?tk_iso ?ki_u0 ?ki_u1 ?ki_u2 ?ki_u3 ?ki_u4 ?m_q0 ?i_q0 ?l_q0 ?c_q0 ?k_q0 ?lT_q0 (DL.fq ?_ ?_ ?_ ?_ ?_) ?m_q2 ?i_q2 ?l_q2 ?c_q2 ?k_q2 ?lT_q2 (DL.fq ?_ ?_ ?_ ?_ ?_) ?m_q4 ?i_q4 ?l_q4 ?c_q4 ?k_q4 (DL.fq ?_ ?_ ?_ ?_ ?_) ?m_q6 ?i_q6 ?l_q6 ?c_q6 ?k_q6 ?lT_q6 (DL.fq ?_ ?_ ?_ ?_ ?_) ?m_q8 ?i_q8 ?l_q8 ?c_q8 ?k_q8 ?lT_q8 (DL.fq ?_ ?_ ?_ ?_ ?_) (DL.fq ?_ ?_ ?_ ?_ ?_) (DL.fq ?_ ?_ ?_ ?_ ?_) (DL.fq ?_ ?_ ?_ ?_ ?_) (DL.fq ?_ ?_ ?_ ?_ ?_) (DL.fq ?_ ?_ ?_ ?_ ?_)
    all_goals try k_is
    all_goals try k_is
    all_goals first | rfl | decide +kernel | k_exc | kit_is | kts_exm
