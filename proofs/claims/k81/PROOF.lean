import PyProof.Rows.All
import Wide.All
import OpenK.AllK
import Wide.FinOn
import Lean
import PyProof.EqAt
import PyProof.EqKinds
import PyProof.TupleCall
import PySem.Challenge.RW_rootspan_k81_root_papers
set_option Elab.async false
set_option linter.all false
set_option maxRecDepth 100000
local macro_rules | `(tactic|omega)=>`(tactic|first |lia |omega (splitDisjunctions:=true))
noncomputable section
namespace Al
def GO:=@List.length_map
def GP:=@Nat.le_refl
def GQ:=@List.length_pos_iff
def GR:=@Nat.zero_le
def GS:=@Int.le_of_lt
def GT:=@List.mem_map
def GU:=@List.mem_cons_of_mem
def GV:=@Rat.le_of_lt
def GW:=@Nat.le_trans
def GX:=@List.mem_cons
def GY:=@List.mem_cons_self
def GZ:=@List.length_append
def G0:=@List.size_toArray
def G1:=@List.mem_singleton
def G2:=@Int.mul_pos
def G3:=@Rat.mul_nonneg
def G4:=@Int.mul_ne_zero
def G5:=@Nat.lt_of_lt_of_le
def G6:=@Nat.ne_of_lt
def G7:=@Int.mul_zero
def G8:=@List.map_append
def G9:=@Int.one_mul
def Hg:=@Rat.intCast_mul
def Hh:=@Rat.div_mul_cancel
def Hi:=@Rat.intCast_lt_intCast
def Hj:=@Int.natAbs_mul
def Hk:=@Int.mul_eq_zero
def Hl:=@List.length_cons
def Hm:=@List.length_range
def Hn:=@Rat.mul_le_mul_of_nonneg_right
def Ho:=@Int.zero_mul
def Hq:=@Int.pow_succ
def Hr:=@Rat.mul_pos
def Hs:=@Int.mul_one
def Ht:=@List.mem_append_right
def Hu:=@List.getElem_mem
def Hv:=@Int.mul_comm
def Hw:=@Int.natAbs_natCast
def HA:=@List.length_eq_zero_iff
def HB:=@List.take_length
def HC:=@List.map_cons
def HD:=@Int.mul_le_mul_of_nonneg_right
def HE:=@Rat.le_total
def HF:=@Rat.not_lt
def HG:=@Nat.le_of_not_lt
def HH:=@Int.mul_nonneg
def HI:=@Nat.mul_le_mul_right
def HJ:=@Nat.lt_irrefl
def HK:=@List.mem_append
def HL:=@List.length_take
def HM:=@List.take_add_one
def HN:=@Int.add_zero
def HP:=@Int.mul_assoc
def HQ:=@List.map_map
def HR:=@Rat.intCast_add
def HS:=@Nat.le_of_lt
def HU:=@Nat.lt_succ_self
def HV:=@Int.le_refl
def HW:=@Int.natAbs_pos
def HX:=@List.replicate_succ
def HY:=@List.lookup_cons
def HZ:=@List.getElem_of_mem
def H0:=@Nat.sub_zero
def Ia:=@Nat.dvd_refl
def Ib:=@List.map_congr_left
def Ic:=@Int.lt_or_gt_of_ne
def Ie:=@Rat.not_le
def Ig:=@List.mem_append_left
def Ih:=@Bool.false_ne_true
def Ii:=@Nat.le_of_eq
def Ij:=@List.nodup_cons
def Ik:=@List.length_drop
def Il:=@List.length_set
def Im:=@Int.zero_add
def Io:=@Nat.gcd_dvd_left
def Iq:=@Int.ofNat_dvd_left
def Ir:=@Int.mul_le_mul
def Is:=@Int.mul_lt_mul_of_pos_right
def Iu:=@Nat.le_zero
def Iv:=@Rat.mul_le_mul_of_nonneg_left
def Iw:=@List.map_nil
def Ix:=@List.all_eq_true
def Iy:=@Int.ne_of_gt
def Iz:=@Nat.gcd_dvd_right
def IA:=@Nat.dvd_trans
def IB:=@Int.natCast_nonneg
def IC:=@Int.lt_of_mul_lt_mul_right
def ID:=@Int.lt_or_le
def IE:=@Int.natAbs_sub_le
def IF:=@Nat.mul_le_mul_left
def IG:=@List.mem_range
def IH:=@List.append_nil
def II:=@List.flatten_cons
def IJ:=@Bool.eq_iff_iff
def IK:=@Nat.le_mul_of_pos_left
def IL:=@Int.natCast_mul
def IM:=@Nat.mul_le_mul
def IN:=@List.pairwise_map
def IP:=@List.eq_nil_of_length_eq_zero
def IQ:=@Rat.intCast_inj
def IR:=@Rat.mul_lt_mul_of_pos_right
def IS:=@Rat.intCast_sub
def IT:=@List.drop_zero
def IU:=@List.take_zero
def IV:=@List.length_replicate
def IW:=@Nat.pow_le_pow_right
def IX:=@Nat.lt_of_le_of_lt
def IY:=@Int.eq_of_mul_eq_mul_left
def IZ:=@Int.emod_lt_of_pos
def I0:=@Int.mul_nonneg_of_nonpos_of_nonpos
def I9:=@Int.mul_neg_of_neg_of_pos
def Ja:=@List.drop_eq_getElem_cons
def Jb:=@Int.mul_neg_of_pos_of_neg
def Jc:=@Int.mul_le_mul_of_nonneg_left
end Al
open Al
namespace PySem.W.Fast
def tw1875196511816524872:=()
def tw6816863416307718767:=()
def tw6234865207343201211:=()
def tw16050444428042649673:=()
def tw8190697717174485994:=()
def tw476159204125238992:=()
def tw16945638390189721324:=()
def tw1811203138883639953:=()
def tw864071494919638556:=()
def tw6824634795188932762:=()
def tw3968449141499072493:=()
def tw13083287737724004580:=()
def tw2706088468500621219:=()
def tw5274478131883431124:=()
def tw17632804696959799074:=()
def tw9244613188877081231:=()
def tw5732892410832150184:=()
def tw14281386385401687411:=()
def tw16445060507676577284:=()
def tw5685797871599404536:=()
def tw6809076669229700465:=()
def tw4374563754808272838:=()
def tw665677900161774833:=()
def tw5183262386399085035:=()
def tw6201794539534039785:=()
def tw2750582370959841576:=()
def tw16808780399996441413:=()
def tw12467662347479213218:=()
def tw1120961393974726234:=()
def tw15077707660694154958:=()
def tw17529349284497198732:=()
def tw16352448648813909482:=()
def tw15120787536808397656:=()
def tw9170485915486559843:=()
def tw8184675511382635210:=()
def tw3348547439932907789:=()
def tw3570475486147957267:=()
def tw5733436089769294745:=()
def tw11968770224625782832:=()
def tw13319504692659455522:=()
def tw15319165442300320474:=()
end PySem.W.Fast
namespace L2
open PySem PySem.Spec PyProof.Rows
abbrev Key:=Sum Int Str
noncomputable def sT:Key->Value->Bool
 |.inl k,v=>Value.isInt k v
 |.inr x,v=>Value.isStrOf x v
noncomputable def Bb(w:World):Key->Int
 |.inl k=>hashInt k
 |.inr x=>hashStr w x
theorem dD:∀{k:Key} {v:Value},sT k v=true->(∃i t,k=Sum.inl i/\v=Value.int i t)\/(∃x t,k=Sum.inr x/\v=Value.str x t)
 |.inl i,v,h=>by obtain⟨t,e⟩:=Value.isInt_shape (k:=i) (v:=v) h;exact .inl ⟨i,t,rfl,e⟩
 |.inr x,v,h=>by obtain⟨t,e⟩:=Value.isStrOf_shape (x:=x) (v:=v) h;exact .inr ⟨x,t,rfl,e⟩
theorem Ba(a b:Int):decide ((Sum.inl a:Key)=Sum.inl b)=(a == b):=by
 by_cases e:a=b
 ·subst e;simp
 ·have h:¬(Sum.inl a:Key)=Sum.inl b:=λq=>e (Sum.inl.inj q)
  rw[decide_eq_false h];exact(beq_eq_false_iff_ne.mpr e).symm
theorem A7(a b:Str):decide ((Sum.inr a:Key)=Sum.inr b)=decide (a=b):=by
 by_cases e:a=b
 ·subst e;simp
 ·have h:¬(Sum.inr a:Key)=Sum.inr b:=λq=>e (Sum.inr.inj q)
  rw[decide_eq_false h,decide_eq_false e]
theorem A9(a:Int)(b:Str):decide ((Sum.inl a:Key)=Sum.inr b)=false:=decide_eq_false (λq=>nomatch q)
theorem A8(a:Str)(b:Int):decide ((Sum.inr a:Key)=Sum.inl b)=false:=decide_eq_false (λq=>nomatch q)
noncomputable def sn(prog:Program)(w:World):PySem.KeyKind prog w Key where
 is:=sT
 hash:=Bb w
 inj:=λv a b ha hb=>by
  rcases dD ha with⟨i,t,rfl,rfl⟩ |⟨x,t,rfl,rfl⟩
  ·rcases dD hb with⟨j,u,rfl,e⟩ |⟨y,u,rfl,e⟩
   ·injection e with e1 _;rw[e1]
   ·exact nomatch e
  ·rcases dD hb with⟨j,u,rfl,e⟩ |⟨y,u,rfl,e⟩
   ·exact nomatch e
   ·injection e with e1 _;rw[e1]
 byValue:=λk v h=>by rcases dD h with⟨i,t,rfl,rfl⟩ |⟨x,t,rfl,rfl⟩<;>rfl
 pyHash:=λhv h=>by
  rcases dD hv with⟨i,t,rfl,rfl⟩ |⟨x,t,rfl,rfl⟩
  ·exact wpAny_pyHash_int h
  ·exact wpAny_pyHash_str h
 eqBool:=λhu hv h=>by
  rcases dD hu with⟨i,t,rfl,rfl⟩ |⟨x,t,rfl,rfl⟩
  ·rcases dD hv with⟨j,u,rfl,rfl⟩ |⟨y,u,rfl,rfl⟩
   ·rw[Ba]at h;exact wpAny_eqBool_int h
   ·rw[A9]at h;exact SeqAt.EqAt.int_str i t y u _ _ _ _ h
  ·rcases dD hv with⟨j,u,rfl,rfl⟩ |⟨y,u,rfl,rfl⟩
   ·rw[A8]at h;exact SeqAt.EqAt.str_int x t j u _ _ _ _ h
   ·rw[A7]at h;exact wpAny_eqBool_str h
 «strs»:=λk x t v h=>by
  rcases dD h with⟨i,u,rfl,e⟩ |⟨y,u,rfl,e⟩
  ·exact nomatch e
  ·injection e with e1 _
   subst e1;cases v<;>rfl
inductive V where
 |non |bl (b:Bool) |int (i:Int) |str (x:Str) |byt (b:Array UInt8) |flt (b:UInt64) |ref (a:Addr) |ty (n:String)
 deriving DecidableEq
noncomputable def RelV:V->Value->Prop
 |.non,u=>u=Value.none
 |.bl b,u=>u=Value.bool b
 |.int i,u=>∃t,u=Value.int i t
 |.str x,u=>∃t,u=Value.str x t
 |.byt b,u=>∃t,u=Value.bytes b t
 |.flt b,u=>∃t,u=Value.float b t
 |.ref a,u=>u=Value.ref a
 |.ty n,u=>u=Value.type n
abbrev Vals:List V->List Value->Prop:=Paired RelV
theorem Vals.length{xs:List V}{us:List Value}(r:Vals xs us):xs.length=us.length:=Paired.length r
theorem Vals.get:∀{xs:List V} {us:List Value} {i:Nat} {x:V},Vals xs us->xs[i]?=some x->∃u,us[i]?=some u/\RelV x u
 |_,_,_,_,.nil,e=>by simp at e
 |_,_,0,_,.cons r _,e=>by simp at e;subst e;exact⟨_,rfl,r⟩
 |_,_,i+1,x,.cons _ t,e=>by obtain⟨u,h1,h2⟩:=Vals.get (i:=i) (x:=x) t (by simpa using e);exact⟨u,by simpa using h1,h2⟩
theorem Vals.set{x:V}{u:Value}(r:RelV x u):∀{xs:List V} {us:List Value} (i:Nat),Vals xs us->Vals (xs.set i x) (us.set i u)
 |_,_,_,.nil=>.nil
 |_,_,0,.cons _ t=>.cons r t
 |_,_,i+1,.cons q t=>.cons q (Vals.set r i t)
theorem Vals.append:∀{xs ys:List V} {us ws:List Value},Vals xs us->Vals ys ws->Vals (xs++ys) (us++ws)
 |_,_,_,_,.nil,s=>s
 |_,_,_,_,.cons r t,s=>.cons r (Vals.append t s)
theorem Vals.take:∀{xs:List V} {us:List Value} (n:Nat),Vals xs us->Vals (xs.take n) (us.take n)
 |_,_,0,_=>.nil
 |_,_,_+1,.nil=>.nil
 |_,_,n+1,.cons r t=>.cons r (Vals.take n t)
theorem Vals.drop:∀{xs:List V} {us:List Value} (n:Nat),Vals xs us->Vals (xs.drop n) (us.drop n)
 |_,_,0,r=>r
 |_,_,_+1,.nil=>.nil
 |_,_,n+1,.cons _ t=>Vals.drop n t
theorem Vals.none_of:∀{xs:List V} {us:List Value} {i:Nat},Vals xs us->xs[i]?=none->us[i]?=none:=λ{xs us i} r e=>by have h1:=r.length;have h2:xs.length<=i:=List.getElem?_eq_none_iff.mp e;exact List.getElem?_eq_none_iff.mpr (by omega)
noncomputable def RelO:Option V->Option Value->Prop
 |some v,some u=>RelV v u
 |none,none=>True
 |_,_=>False
noncomputable def KV{κ:Type}:List (κ×V)->List (κ×Value)->Prop:=Paired λ(p:κ×V) (q:κ×Value)=>p.1=q.1/\RelV p.2 q.2
noncomputable def kV:Key->V
 |.inl i=>.int i
 |.inr x=>.str x
inductive HO where
 |lst (xs:List V)
 |tup (xs:List V)
 |dK (kvs:List (Key×V)) |dT (kvs:List (List Key×V))
 |set (S:Int->Bool) (n:Nat)
 |ins (C dx:Addr) (fs:List (Str×V))
 |own (x:Addr)
 |xd (fs:List (Str×V))
 |met (f x:Addr)
 |rng (lo hi:Int)
 |frz (o:Obj) (u:HO)
 |tbl (ps:Array Value)
 |ext (φ:Heap->Prop)
abbrev Hp:=Addr->Option HO
noncomputable def upd(H:Hp)(a:Addr)(o:HO):Hp:=λb=>if b=a then some o else H b
theorem ar{H:Hp}{a:Addr}{o:HO}:upd H a o a=some o:=by unfold upd;rw[if_pos rfl]
theorem upd_ne{H:Hp}{a b:Addr}{o:HO}(h:b≠a):upd H a o b=H b:=by unfold upd;rw[if_neg h]
theorem ip{H:Hp}{a:Addr}{o u:HO}:upd (upd H a o) a u=upd H a u:=by funext b;unfold upd;split<;>rfl
theorem aN{H:Hp}{a b:Addr}{o:HO}(h:H a=some o)(h':H b=none):a≠b:=by intro e;subst e;rw[h]at h';cases h'
section
variable (P:Program)(w:World)
noncomputable def ObjOk(H:Hp)(h:Heap)(a:Addr):HO->Prop
 |.lst xs=>xs.length<=sizeLine/\∃(its:List Value) (n:Nat),Vals xs its/\h.get? a=some { cls:=.type "list",data:=.seq its.toArray n }
 |.tup xs=>xs.length<=sizeLine/\∃its:List Value,Vals xs its/\IsTup h a its.toArray
 |.dK kvs=>kvs.length<=sizeLine/\(a == sysModules)=false/\∃vs,KV kvs vs/\h.DictOf (sn P w) a vs
 |.dT kvs=>kvs.length<=sizeLine/\(a == sysModules)=false/\∃xs:List (List Key×Addr×Value),
  Paired (λ(p:List Key×V) (q:List Key×Addr×Value)=>p.1=q.1/\H q.2.1=some (.tup (p.1.map kV))/\RelV p.2 q.2.2) kvs xs /\
  ∃o es ep,h.get? a=some o/\o.ExactDict/\o.data=.dict es ep/\es.toList=xs.map (entryOfKey (tupleKind (sn P w)))/\(xs.map (·.1)).Nodup
 |.set S n=>h.SetOf (intKind P w) a S n
 |.ins C dx fs=>H dx=some (.own a)/\fs.length<=1000/\dx≠a/\h.get? a=some (PySem.W.instObj C dx) /\
  ∃mA,h.Ns1 dx mA/\(∀f,RelO (fs.lookup f) (mA f))/\PySem.Within mA (fs.map (·.1))
 |.own _=>∃o,h.get? a=some o
 |.xd fs=>∃mA,h.Ns1 a mA/\∀f,RelO (fs.lookup f) (mA f)
 |.rng lo hi=>∃t u v,h.get? a=some { cls:=.type "range",data:=.fields #[.int lo t,.int hi u,.int 1 v] }
 |.frz o u=>h.get? a=some o/\ObjOk H h a u
 |.tbl ps=>h.get? a=some { cls:=.none,data:=.fields ps }
 |.met f x=>h.get? a=some (PySem.W.methodObj (.ref f) (.ref x))
 |.ext φ=>φ h/\(∃o,h.get? a=some o)/\∀h1 h2:Heap,φ h1->(∀o,h1.get? a=some o->h2.get? a=some o)->φ h2
def HOk(H:Hp)(h:Heap):Prop:=∀a o,H a=some o->ObjOk P w H h a o
end
section
variable {P:Program}{w:World}{H H':Hp}{h h':Heap}{a:Addr}{o:HO}
theorem ObjOk.lt(x:ObjOk P w H h a o):a<h.objs.size:=by
 cases o with
 |lst xs=>obtain⟨_,_,_,_,e⟩:=x;exact Heap.lt_size e
 |tup xs=>obtain⟨_,_,_,p⟩:=x;exact p.lt
 |dK kvs=>obtain⟨_,_,_,_,o,_,_,e,_⟩:=x;exact Heap.lt_size e
 |dT kvs=>obtain⟨_,_,_,_,o,_,_,e,_⟩:=x;exact Heap.lt_size e
 |set S n=>obtain⟨o,_,_,_,e,_⟩:=x;exact Heap.lt_size e
 |ins C dx fs=>obtain⟨_,_,_,e,_⟩:=x;exact Heap.lt_size e
 |own y=>obtain⟨_,e⟩:=x;exact Heap.lt_size e
 |xd fs=>obtain⟨_,⟨_,_,_,e,_⟩,_⟩:=x;exact Heap.lt_size e
 |rng lo hi=>obtain⟨_,_,_,e⟩:=x;exact Heap.lt_size e
 |frz ob u=>obtain⟨e,_⟩:=x;exact Heap.lt_size e
 |tbl ps=>exact Heap.lt_size (show h.get? a=some _ from x)
 |met f y=>exact Heap.lt_size (show h.get? a=some _ from x)
 |ext φ=>obtain⟨_,⟨_,e⟩,_⟩:=x;exact Heap.lt_size e
theorem Paired.mapP{α β:Type}{F G:α->β->Prop}:∀{l₁:List α} {l₂:List β},Paired F l₁ l₂->(∀a b,F a b->G a b)->Paired G l₁ l₂
 |_,_,.nil,_=>.nil
 |_,_,.cons r t,f=>.cons (f _ _ r) (Paired.mapP t f)
theorem ObjOk.stay(x:ObjOk P w H h a o)(k:∀b u,(b=a\/H b=some (.own a))->h.get? b=some u->h'.get? b=some u)
 (ho:∀b,H b=some (.own a)->H' b=some (.own a)) (ht:∀b xs,H b=some (.tup xs)->H' b=some (.tup xs)):ObjOk P w H' h' a o:=by
 induction o with
 |lst xs=>obtain⟨z,its,n,r,e⟩:=x;exact⟨z,its,n,r,k _ _ (.inl rfl) e⟩
 |tup xs=>obtain⟨z,its,r,ob,e,c⟩:=x;exact⟨z,its,r,ob,k _ _ (.inl rfl) e,c⟩
 |dK kvs=>obtain⟨z,y,vs,r,ob,es,ep,e,c⟩:=x;exact⟨z,y,vs,r,ob,es,ep,k _ _ (.inl rfl) e,c⟩
 |dT kvs =>obtain⟨z,y,xs,r,ob,es,ep,e,c⟩:=x;exact⟨z,y,xs,Paired.mapP r λp q z=>⟨z.1,ht _ _ z.2.1,z.2.2⟩,ob,es,ep,k _ _ (.inl rfl) e,c⟩
 |set S n=>obtain⟨ob,es,ep,t,e,c⟩:=x;exact⟨ob,es,ep,t,k _ _ (.inl rfl) e,c⟩
 |ins C dx fs =>obtain⟨d,z,ne,e,mA,⟨od,es,ep,e2,c⟩,r⟩:=x;exact⟨ho _ d,z,ne,k _ _ (.inl rfl) e,mA,⟨od,es,ep,k _ _ (.inr d) e2,c⟩,r⟩
 |own y=>obtain⟨ob,e⟩:=x;exact⟨ob,k _ _ (.inl rfl) e⟩
 |xd fs=>obtain⟨mA,⟨od,es,ep,e,c⟩,r⟩:=x;exact⟨mA,⟨od,es,ep,k _ _ (.inl rfl) e,c⟩,r⟩
 |rng lo hi=>obtain⟨t,u,v,e⟩:=x;exact⟨t,u,v,k _ _ (.inl rfl) e⟩
 |frz ob u ih=>obtain⟨e,q⟩:=x;exact⟨k _ _ (.inl rfl) e,ih q⟩
 |tbl ps =>have e:h.get? a=some { cls:=.none,data:=.fields ps }:=x;show h'.get? a=some { cls:=.none,data:=.fields ps };exact k a _ (.inl rfl) e
 |met f y =>have e:h.get? a=some (PySem.W.methodObj (.ref f) (.ref y)):=x;show h'.get? a=some (PySem.W.methodObj (.ref f) (.ref y));exact k a _ (.inl rfl) e
 |ext φ=>obtain⟨p,⟨o,e⟩,st⟩:=x;exact⟨st _ _ p λo q=>k _ _ (.inl rfl) q,⟨o,k _ _ (.inl rfl) e⟩,st⟩
theorem HOk.lt(x:HOk P w H h)(e:H a=some o):a<h.objs.size:=(x a o e).lt
theorem HOk.fresh(x:HOk P w H h)(e:h.objs.size<=a):H a=none:=by
 cases q:H a with
 |none=>rfl
 |some u=>exact absurd (G5 (x.lt q) e) (HJ _)
theorem HOk.kept(x:HOk P w H h)(k:∀b u,h.get? b=some u->h'.get? b=some u):HOk P w H h':=λa o e =>(x a o e).stay (λb u _ q=>k b u q) (λ_ q=>q) λ_ _ q=>q
theorem HOk.laid(x:HOk P w H h)(k:∀b u,h.get? b=some u->h'.get? b=some u)(hp:h.objs.size<=a)(new:ObjOk P w (upd H a o) h' a o):HOk P w (upd H a o) h':=λb u e=>by
 have hn:=x.fresh hp;by_cases hb:b=a
 ·subst hb;rw[ar]at e;cases e;exact new
 ·rw[upd_ne hb]at e;exact(x b u e).stay (λc v _ q=>k c v q) (λc q=>by rw[upd_ne (aN q hn)];exact q) λc xs q=>by rw[upd_ne (aN q hn)];exact q
end
def Rd(H:Hp)(a:Addr)(u:HO):Prop:=H a=some u\/∃o,H a=some (.frz o u)
theorem Rd.of{H:Hp}{a:Addr}{u:HO}(h:H a=some u):Rd H a u:=.inl h
theorem Rd.ok{P:Program}{w:World}{H:Hp}{h:Heap}{a:Addr}{u:HO}(r:Rd H a u)(x:HOk P w H h):ObjOk P w H h a u:=by
 rcases r with r |⟨o,r⟩
 ·exact x a u r
 ·obtain⟨_,q⟩:=x a _ r;exact q
noncomputable def Mut:Option HO->Prop
 |some (.lst _)=>True
 |some (.dK _)=>True
 |some (.dT _)=>True
 |some (.set _ _)=>True
 |some (.ins _ _ _)=>True
 |some (.ext _)=>True
 |_=>False
section
variable {P:Program}{w:World}{H:Hp}{h h':Heap}{x e:Addr}{o':HO}
theorem HOk.write(ok:HOk P w H h)(mu:Mut (H x))(he:e=x\/H e=some (.own x))(k:∀b u,b≠e->h.get? b=some u->h'.get? b=some u)(heo:∃u,h'.get? e=some u)
 (new:ObjOk P w (upd H x o') h' x o'):HOk P w (upd H x o') h':=λb u q=>by
 have nown:∀c y,H c=some (.own y)->c≠x:=λc y r z=>by subst z;rw[r]at mu;exact mu
 have ntup:∀c xs,H c=some (.tup xs)->c≠x:=λc xs r z=>by subst z;rw[r]at mu;exact mu
 by_cases hb:b=x
 ·subst hb;rw[ar]at q;cases q;exact new
 ·rw[upd_ne hb]at q;by_cases hbe:b=e
  ·have q':H b=some (.own x):=by
    rcases he with z |z
    ·exact absurd (hbe.trans z) hb
    ·rw[hbe];exact z
   rw[q]at q';cases q';obtain⟨v,hv⟩:=heo;exact⟨v,by rw[hbe];exact hv⟩
  ·refine(ok b u q).stay (λc v hc r=>k c v ?_ r) (λc r=>by rw[upd_ne (nown c b r)];exact r) λc xs r=>by rw[upd_ne (ntup c xs r)];exact r
   rcases hc with rfl |hc
   ·exact hbe
   ·rintro rfl;rcases he with z |z
    ·exact nown c b hc z
    ·rw[hc]at z;cases z;exact hb rfl
end
structure Un(fs ex:List Addr)(H H':Hp)(h h':Heap):Prop where
 keep:∀b o,h.get? b=some o->H b=none->b∉fs->b∉ex->h'.get? b=some o
 slot:∀b o,h.get? b=some o->H b=none->b∈fs->b∉ex->∃sl,h'.get? b=some { o with slots:=sl }
 free:∀b o,h.get? b=some o->H b=none->b∉ex->H' b=none
 there:∀b o,h.get? b=some o->b∉ex->∃o',h'.get? b=some o'
 tups:∀b xs,H b=some (.tup xs)->H' b=some (.tup xs)
 frzs:∀b o u,H b=some (.frz o u)->H' b=some (.frz o u)
 tbls:∀b ps,H b=some (.tbl ps)->∃more,H' b=some (.tbl (ps++more))
section
variable {fs fs' ex ex':List Addr}{H H1 H2:Hp}{h h1 h2 h':Heap}{a x e:Addr}{o:HO}
theorem Un.any(u:Un fs ex H H1 h h1){b:Addr}{ob:Obj}(q:h.get? b=some ob)(n:H b=none)(hx:b∉ex):∃sl,h1.get? b=some { ob with slots:=sl }:=by
 by_cases hb:b∈fs
 ·exact u.slot b ob q n hb hx
 ·exact⟨ob.slots,u.keep b ob q n hb hx⟩
theorem Un.trans(a:Un fs ex H H1 h h1)(b:Un fs ex H1 H2 h1 h2):Un fs ex H H2 h h2 where
 keep:=λc ob q n hc hx=>b.keep c ob (a.keep c ob q n hc hx) (a.free c ob q n hx) hc hx
 slot:=λc ob q n hc hx=>by obtain⟨sl,e1⟩:=a.slot c ob q n hc hx;obtain⟨sl',e2⟩:=b.slot c _ e1 (a.free c ob q n hx) hc hx;exact⟨sl',e2⟩
 free:=λc ob q n hx=>by obtain⟨o',e1⟩:=a.there c ob q hx;exact b.free c o' e1 (a.free c ob q n hx) hx
 there:=λc ob q hx=>by obtain⟨o',e1⟩:=a.there c ob q hx;exact b.there c o' e1 hx
 tups:=λc xs q=>b.tups c xs (a.tups c xs q)
 frzs:=λc ob xs q=>b.frzs c ob xs (a.frzs c ob xs q)
 tbls:=λc ps q=>by obtain⟨m1,e1⟩:=a.tbls c ps q;obtain⟨m2,e2⟩:=b.tbls c _ e1;exact⟨m1++m2,by rw[e2,Array.append_assoc]⟩
theorem Un.kept(k:∀b u,h.get? b=some u->h'.get? b=some u):Un fs ex H H h h' :=
 ⟨λb ob q _ _ _=>k b ob q,λb ob q _ _ _=>⟨ob.slots,k b ob q⟩,λ_ _ _ n _=>n,λb ob q _=>⟨ob,k b ob q⟩,λ_ _ q=>q,λ_ _ _ q=>q,λ_ ps q=>⟨#[],by rw[q];simp⟩⟩
theorem Un.refl:Un fs ex H H h h:=Un.kept λ_ _ q=>q
theorem Un.laid(k:∀b u,h.get? b=some u->h'.get? b=some u)(hp:h.objs.size<=a)(hn:H a=none):Un fs ex H (upd H a o) h h' where
 keep:=λb u q _ _ _=>k b u q
 slot:=λb u q _ _ _=>⟨u.slots,k b u q⟩
 free:=λb u q n _=>by rw[upd_ne (G6 (G5 (Heap.lt_size q) hp))];exact n
 there:=λb u q _=>⟨u,k b u q⟩
 tups:=λb xs q=>by rw[upd_ne (aN q hn)];exact q
 frzs:=λb u xs q=>by rw[upd_ne (aN q hn)];exact q
 tbls:=λb ps q=>⟨#[],by rw[upd_ne (aN q hn),q];simp⟩
theorem Un.write(mu:Mut (H x))(he:e=x\/H e=some (.own x))(k:∀b u,b≠e->h.get? b=some u->h'.get? b=some u)(heo:∃u,h'.get? e=some u):Un fs ex H (upd H x o) h h':=by
 have hx:∀b,H b=none->b≠x:=λb n z=>by subst z;rw[n]at mu;exact mu
 have hb:∀b,H b=none->b≠e:=λb n z=>by
  subst z;rcases he with r |r
  ·exact hx b n r
  ·rw[n]at r;cases r
 have hm:∀b u,H b=some u->¬Mut (some u)->b≠x:=λb u q nm z=>by subst z;rw[q]at mu;exact nm mu
 refine⟨λb u q n _ _=>k b u (hb b n) q,λb u q n _ _=>⟨u.slots,k b u (hb b n) q⟩,λb u q n _=>by rw[upd_ne (hx b n)];exact n,λb u q _=>?_,
  λb xs q=>by rw[upd_ne (hm b _ q λz=>z)];exact q,λb u xs q=>by rw[upd_ne (hm b _ q λz=>z)];exact q,λb ps q=>⟨#[],by rw[upd_ne (hm b _ q λz=>z),q];simp⟩⟩
 by_cases hbe:b=e
 ·subst hbe;exact heo
 ·exact⟨u,k b u hbe q⟩
theorem Un.mono(u:Un fs ex H H1 h h1)(hs:∀b∈fs,b∈fs')(hx:∀b∈ex,b∈ex'):Un fs' ex' H H1 h h1 :=
 ⟨λb ob q n hb he=>u.keep b ob q n (λz=>hb (hs b z)) λz=>he (hx b z),λ_ _ q n _ he=>u.any q n λz=>he (hx _ z),λb ob q n he=>u.free b ob q n λz=>he (hx b z),λb ob q he=>u.there b ob q λz=>he (hx b z),u.tups,u.frzs,u.tbls⟩
end
noncomputable def trk(h:Heap)(H:Hp):List Addr:=(List.range h.objs.size).filter λa=>(H a).isSome
noncomputable def dd(h:Heap)(H:Hp):Heap:=PySem.W.hideAll h (trk h H)
theorem BO(h:Heap)(H:Hp):(dd h H).objs.size=h.objs.size:=PySem.W.hideAll_size _ _
theorem BP{h:Heap}{H:Hp}{b:Addr}{o:Obj}(e:h.get? b=some o)(n:H b=none):(dd h H).get? b=some o :=
 PySem.W.hideAll_get _ e λhm=>by have q:(H b).isSome=true:=(List.mem_filter.mp hm).2;rw[n]at q;simp at q
theorem zT{h:Heap}{H:Hp}{b:Addr}{o:Obj}(e:(dd h H).get? b=some o):h.get? b=some o/\H b=none:=by
 have e':h.get? b=some o:=PySem.W.of_hideAll (trk h H) e;refine⟨e',?_⟩;cases q:H b with
 |none=>rfl
 |some x =>have hm:b∈trk h H:=List.mem_filter.mpr ⟨IG.mpr (Heap.lt_size e'),by simp[q]⟩;have z:(dd h H).get? b=none:=PySem.W.hideAll_none (trk h H) hm;rw[z]at e;cases e
noncomputable def D1(g h:Heap)(L:Addr):List (Addr×Obj):=(List.range h.objs.size).filterMap λa=>if a=L\/(g.get? a).isSome=true then none else(h.get? a).map λo=>(a,o)
noncomputable def rest(g h:Heap)(L d:Addr):List (Addr×Obj):=(D1 g h L).filter λp=>decide (p.1≠d)
structure Mod(K:PySem.W.Frag)(mg:Str->Option Value)(base:Heap):Prop where
 kin:K.In base
 glob:base.Ns mainGlobals mg
 blt:∃mb,base.Ns builtinsNs mb/\∀x:Str,x≠"__name__"->mb x=bootBuiltins x
 nolimit:base.NoLimit
structure Cx where
 prog:Program
 w:World
 K:PySem.W.Frag
 mg:Str->Option Value
 base:Heap
 A:Around
 N:List Str
 s₀:Shared
 H₀:Hp
 env:Env
 outer:List Env
 stack:List Env
 ex:List Addr
 fn:Str->Bool
 calm:Bool
 pn:List (Addr×Obj)
 xe:Value->Shared->Prop
noncomputable def frs(l:List Env):List Addr:=l.filterMap (·.frame)
abbrev Cx.fs(X:Cx):List Addr:=frs X.outer
def Vis(sc:Scope)(x:Str):Prop:=sc.names.lookup x=some .local\/sc.names.lookup x=some .cell\/sc.names.lookup x=some .free
def Loc(sc:Scope)(x:Str):Prop:=sc.names.lookup x=some .local\/sc.names.lookup x=some .cell
noncomputable def D6(env:Env)(h:Heap)(m:Str->Option Value)(x:Str)(u:Value):Prop :=
 (env.kindOf x=some .local/\m x=some u)\/((env.kindOf x=some .cell\/env.kindOf x=some .free)/\∃c,env.cells.lookup x=some c/\h.IsCell c (some u))
structure Cx.Ok(X:Cx):Prop where
 mod:Mod X.K X.mg X.base
 kind:X.env.scope.kind=.function
 glob:X.env.globals=mainGlobals
 blt:X.env.builtins=builtinsNs
 above:X.s₀.heap.objs.size<=X.env.locals
 inj:∀x y c,X.env.cells.lookup x=some c->X.env.cells.lookup y=some c->x=y
 has:∀x,(X.env.kindOf x=some .cell\/X.env.kindOf x=some .free)->∃c,X.env.cells.lookup x=some c
 cab:∀x c,X.fn x=true->X.env.cells.lookup x=some c->X.s₀.heap.objs.size<=c
 hd:X.calm=true->X.A.handled=none
 frames:X.A.frames=some X.stack
 stk:X.stack=X.outer\/(X.stack=X.env::X.outer/\X.env.frame=some X.env.locals)
 exf:∀b∈X.ex,b≠X.env.locals/\∀x c,X.env.cells.lookup x=some c->c≠b
 bs:∀b o,X.base.get? b=some o->X.s₀.heap.get? b=some o/\X.H₀ b=none
 bsz:X.base.objs.size<=X.s₀.heap.objs.size
 noex:∀b o,X.base.get? b=some o->b∉X.ex
 exfs:∀b∈X.ex,b∉X.fs
 funs:X.s₀.heap.FunFrames X.base X.outer
 frf:∀b∈X.fs,X.H₀ b=none
structure Inv(X:Cx)(pins:List (Addr×Obj))(σ:List (Option V))(H:Hp)(s:Shared):Prop where
 ok:X.Ok
 os:s.os=X.s₀.os
 bare:AllBare s.gens
 base:Un X.fs X.ex X.H₀ H X.s₀.heap s.heap
 loc:∃m,s.heap.Ns X.env.locals m/\∀(i:Nat) (x:Str) (v:V),X.N[i]?=some x->σ[i]?=some (some v)->Vis X.env.scope x->∃u,RelV v u/\D6 X.env s.heap m x u
 cell:∀x c,X.env.cells.lookup x=some c->∃v,s.heap.IsCell c v
 free:H X.env.locals=none
 freeC:∀x c,X.env.cells.lookup x=some c->H c=none
 pin:∀p∈X.pn++pins,s.heap.get? p.1=some p.2/\H p.1=none/\p.1≠X.env.locals/\p.1∉X.fs/\∀v,p.2.data≠.cell v
 hok:HOk X.prog X.w H s.heap
 len:σ.length=X.N.length
section
variable {X:Cx}{pins:List (Addr×Obj)}{σ:List (Option V)}{H H':Hp}{s:Shared}{h':Heap}
theorem Cx.Ok.nofr(ok:X.Ok){b:Addr}{o:Obj}(e:X.base.get? b=some o):b∉X.fs:=λhb=>by have:=(ok.funs.mem hb).1;rw[e]at this;cases this
theorem Inv.bs(I:Inv X pins σ H s):∀b o,X.base.get? b=some o->s.heap.get? b=some o/\H b=none:=λb o e =>⟨I.base.keep b o (I.ok.bs b o e).1 (I.ok.bs b o e).2 (I.ok.nofr e) (I.ok.noex b o e),I.base.free b o (I.ok.bs b o e).1 (I.ok.bs b o e).2 (I.ok.noex b o e)⟩
theorem Inv.bk(I:Inv X pins σ H s):∀b o,X.base.get? b=some o->s.heap.get? b=some o:=λb o e=>(I.bs b o e).1
theorem Inv.mod(I:Inv X pins σ H s):Mod X.K X.mg X.base:=I.ok.mod
theorem Inv.kIn(I:Inv X pins σ H s):X.K.In s.heap:=I.ok.mod.kin.keeps I.bk
theorem Inv.nolimit(I:Inv X pins σ H s):s.heap.NoLimit:=I.ok.mod.nolimit.keeps I.bk
theorem Inv.fr(I:Inv X pins σ H s):∃m,Fr X.base X.env.locals s.heap m :=
 let⟨m,hn,_⟩:=I.loc
 ⟨m,hn,I.bk,GW I.ok.bsz I.ok.above⟩
theorem Inv.lt(I:Inv X pins σ H s):X.env.locals<s.heap.objs.size:=let⟨_,hn,_⟩:=I.loc;hn.lt
theorem Inv.sz(I:Inv X pins σ H s):X.s₀.heap.objs.size<=s.heap.objs.size:=GW I.ok.above (HS I.lt)
theorem Inv.nofs(I:Inv X pins σ H s){a:Addr}(h:s.heap.objs.size<=a):a∉X.fs:=λhb=>by obtain⟨_,o,ho,_⟩:=I.ok.funs.mem hb;exact absurd (G5 (Heap.lt_size ho) (GW I.sz h)) (HJ _)
theorem Inv.cne(I:Inv X pins σ H s):∀x c,X.env.cells.lookup x=some c->c≠X.env.locals:=λx c e z=>by obtain⟨v,o,ho,hd⟩:=I.cell x c e;obtain⟨m,⟨o',es,ep,ho',hd',_⟩,_⟩:=I.loc;rw[z,ho']at ho;cases ho;rw[hd']at hd;cases hd
theorem Inv.funs(I:Inv X pins σ H s):s.heap.FunFrames X.base X.outer:=by
 have all:∀(l:List Env),(∀b∈frs l,b∈X.fs)->X.s₀.heap.FunFrames X.base l->s.heap.FunFrames X.base l:=by
  intro l
  induction l with
  |nil=>intro _ _;trivial
  |cons env r ih =>
   intro hs hl;obtain⟨hk,⟨L,o,hf,hn,ho,hd⟩,hr⟩:=hl;have hL:L∈X.fs:=hs L (by unfold frs;rw[List.filterMap_cons,hf];exact GY);obtain⟨sl,e⟩:=I.base.slot L o ho (I.ok.frf L hL) hL λz=>I.ok.exfs L z hL
   exact⟨hk,⟨L,_,hf,hn,e,hd⟩,ih (λb hb=>hs b (by unfold frs;rw[List.filterMap_cons,hf];exact GU _ hb)) hr⟩
 exact all X.outer (λ_ hb=>hb) I.ok.funs
theorem Inv.stack(I:Inv X pins σ H s):s.heap.FunFrames X.base X.stack:=by
 rcases I.ok.stk with e |⟨e,hf⟩
 ·rw[e];exact I.funs
 ·rw[e];obtain⟨m,hn,_⟩:=I.loc;refine .cons (by rw[I.ok.kind];decide) hf hn ?_ I.funs;exact Heap.get?_none_of_le (GW I.ok.bsz I.ok.above)
theorem Inv.stkSub(I:Inv X pins σ H s):∀b∈frs X.stack,b∈X.env.locals::X.fs:=λb hb=>by
 rcases I.ok.stk with e |⟨e,hf⟩
 ·rw[e]at hb;exact GU _ hb
 ·rw[e]at hb;unfold frs at hb
  rw[List.filterMap_cons,hf]at hb;exact hb
theorem Inv.stkFree(I:Inv X pins σ H s):∀b∈frs X.stack,H b=none:=λb hb=>by
 rcases GX.mp (I.stkSub b hb)with e |hb
 ·rw[e];exact I.free
 ·obtain⟨_,o,ho,_⟩:=I.ok.funs.mem hb;exact I.base.free b o ho (I.ok.frf b hb) λz=>I.ok.exfs b z hb
theorem Inv.step{g':Array GenState}{t':Nat}{d':Drawn}{ch:List Addr}(I:Inv X pins σ H s)
 (hch:∀b∈ch,(b∈X.ex\/X.s₀.heap.objs.size<=b)/\b≠X.env.locals/\(∀x c,X.env.cells.lookup x=some c->c≠b)/\∀p∈X.pn++pins,p.1≠b)
 (keep:∀b o,b≠X.env.locals->b∉X.fs->b∉ch->s.heap.get? b=some o->H b=none->h'.get? b=some o)
 (slot:∀b o,b≠X.env.locals->b∈X.fs->b∉ch->s.heap.get? b=some o->H b=none->∃sl,h'.get? b=some { o with slots:=sl }) (free:∀b o,b∉ch->s.heap.get? b=some o->H b=none->H' b=none)
 (there:∀b o,b∉ch->s.heap.get? b=some o->∃o',h'.get? b=some o')
 (tups:∀b xs,H b=some (.tup xs)->H' b=some (.tup xs)) (frzs:∀b o u,H b=some (.frz o u)->H' b=some (.frz o u)) (tbls:∀b ps,H b=some (.tbl ps)->∃more,H' b=some (.tbl (ps++more)))
 (ns:∀m,s.heap.Ns X.env.locals m->h'.Ns X.env.locals m) (hok:HOk X.prog X.w H' h') (hg:AllBare g') :
 Inv X pins σ H' { s with heap:=h',gens:=g',drawn:=d',toks:=t' }:=by
 have neL:∀b o,X.s₀.heap.get? b=some o->b≠X.env.locals:=λb o e=>G6 (G5 (Heap.lt_size e) I.ok.above)
 have neC:∀b o,X.s₀.heap.get? b=some o->b∉X.ex->b∉ch:=λb o e hx hb=>by
  rcases(hch b hb).1 with z |z
  ·exact hx z
  ·exact absurd (G5 (Heap.lt_size e) z) (HJ _)
 have cellK:∀x c,X.env.cells.lookup x=some c->∀v,s.heap.IsCell c v->h'.IsCell c v:=λx c e v ⟨o,ho,hd⟩=>by
  have nch:c∉ch:=λz=>(hch c z).2.2.1 x c e rfl
  by_cases hc:c∈X.fs
  ·obtain⟨sl,q⟩:=slot c o (I.cne x c e) hc nch ho (I.freeC x c e);exact⟨_,q,hd⟩
  ·exact⟨o,keep c o (I.cne x c e) hc nch ho (I.freeC x c e),hd⟩
 refine⟨I.ok,I.os,hg,⟨λb o e n hb hx=>?_,λb o e n hb hx=>?_,λb o e n hx=>?_,λb o e hx=>?_,λb xs e=>tups b xs (I.base.tups b xs e),λb o xs e=>frzs b o xs (I.base.frzs b o xs e),λb ps e=>?_⟩,?_,λx c e=>?_,?_,λx c e=>?_,λp hp=>?_,hok,I.len⟩
 ·exact keep b o (neL b o e) hb (neC b o e hx) (I.base.keep b o e n hb hx) (I.base.free b o e n hx)
 ·obtain⟨sl,e1⟩:=I.base.slot b o e n hb hx;obtain⟨sl',e2⟩:=slot b _ (neL b o e) hb (neC b o e hx) e1 (I.base.free b o e n hx);exact⟨sl',e2⟩
 ·obtain⟨o',e1⟩:=I.base.there b o e hx;exact free b o' (neC b o e hx) e1 (I.base.free b o e n hx)
 ·obtain⟨o',e1⟩:=I.base.there b o e hx;exact there b o' (neC b o e hx) e1
 ·obtain⟨m1,e1⟩:=I.base.tbls b ps e;obtain⟨m2,e2⟩:=tbls b _ e1;exact⟨m1++m2,by rw[e2,Array.append_assoc]⟩
 ·obtain⟨m,hn,hl⟩:=I.loc;refine⟨m,ns m hn,λi x v e1 e2 e3=>?_⟩;obtain⟨u,r,l⟩:=hl i x v e1 e2 e3;refine⟨u,r,?_⟩;rcases l with l |⟨k,c,e,z⟩
  ·exact .inl l
  ·exact .inr ⟨k,c,e,cellK x c e _ z⟩
 ·obtain⟨v,z⟩:=I.cell x c e;exact⟨v,cellK x c e v z⟩
 ·obtain⟨m,⟨o,_,_,ho,_⟩,_⟩:=I.loc;exact free _ o (λz=>(hch _ z).2.1 rfl) ho I.free
 ·obtain⟨v,o,ho,hd⟩:=I.cell x c e;exact free c o (λz=>(hch c z).2.2.1 x c e rfl) ho (I.freeC x c e)
 ·obtain⟨e,n,ne,nf,d⟩:=I.pin p hp;have nch:p.1∉ch:=λz=>(hch p.1 z).2.2.2 p hp rfl
  exact⟨keep p.1 p.2 ne nf nch e n,free p.1 p.2 nch e n,ne,nf,d⟩
theorem Inv.un{t':Nat}(I:Inv X pins σ H s)(u:Un X.fs [] H H' s.heap h')(hok:HOk X.prog X.w H' h'):Inv X pins σ H' { s with heap:=h',toks:=t' }:=by
 obtain⟨m,⟨o,es,ep,ho,r⟩,_⟩:=id I.loc;obtain⟨sl,hL⟩:=u.any ho I.free (by simp)
 exact I.step (g':=s.gens) (d':=s.drawn) (ch:=[]) (λ_ z=>nomatch z) (λb o _ hb _ e n=>u.keep b o e n hb (by simp)) (λb o _ hb _ e n=>u.slot b o e n hb (by simp)) (λb o _ e n=>u.free b o e n (by simp)) (λb o _ e=>u.there b o e (by simp)) u.tups u.frzs u.tbls (λm' hm=>by
  obtain⟨o',es',ep',ho',r'⟩:=hm;rw[ho]at ho';cases ho'
  exact⟨_,es',ep',hL,r'⟩) hok I.bare
theorem Inv.call{g':Array GenState}{t':Nat}{d':Drawn}{ch:List Addr}(I:Inv X pins σ H s)(u:Un (frs X.stack) ch H H' s.heap h')(hok:HOk X.prog X.w H' h')(hg:AllBare g')
 (hch:∀b∈ch,(b∈X.ex\/X.s₀.heap.objs.size<=b)/\b≠X.env.locals/\(∀x c,X.env.cells.lookup x=some c->c≠b)/\∀p∈X.pn++pins,p.1≠b) :
 Inv X pins σ H' { s with heap:=h',gens:=g',drawn:=d',toks:=t' }:=by
 obtain⟨m,⟨o,es,ep,ho,r⟩,_⟩:=id I.loc;obtain⟨sl,hL⟩:=u.any ho I.free λz=>(hch _ z).2.1 rfl
 exact I.step (ch:=ch) hch (λb o hL hb hc e n=>u.keep b o e n (λz=>(GX.mp (I.stkSub b z)).elim hL hb) hc) (λb o _ _ hc e n=>u.any e n hc) (λb o hc e n=>u.free b o e n hc) (λb o hc e=>u.there b o e hc) u.tups u.frzs u.tbls (λm' hm=>by
  obtain⟨o',es',ep',ho',r'⟩:=hm;rw[ho]at ho';cases ho'
  exact⟨_,es',ep',hL,r'⟩) hok hg
theorem Inv.turned{t':Nat}{it:Addr}(I:Inv X pins σ H s)(k:∀b o,b≠it->s.heap.get? b=some o->h'.get? b=some o)(hn:H it=none)(hL:it≠X.env.locals)
 (h1:it∈X.ex\/X.s₀.heap.objs.size<=it) (h2:∀x c,X.env.cells.lookup x=some c->c≠it) (h3:∀p∈X.pn++pins,p.1≠it):Inv X pins σ H { s with heap:=h',toks:=t' }:=by
 have nit:∀b u,H b=some u->b≠it:=λb u e z=>by rw[z,hn]at e;cases e
 refine I.step (g':=s.gens) (d':=s.drawn) (ch:=[it]) (λb hb=>?_) (λb o _ _ hc e _=>k b o (λz=>hc (by simp[z])) e) (λb o _ _ hc e _=>⟨o.slots,k b o (λz=>hc (by simp[z])) e⟩) (λ_ _ _ _ n=>n)
  (λb o hc e=>⟨o,k b o (λz=>hc (by simp[z])) e⟩) (λ_ _ e=>e) (λ_ _ _ e=>e) (λb ps e=>⟨#[],by rw[e];simp⟩) (λm hm=>?_) (λb u e=>?_) I.bare
 ·have e:b=it:=by simpa using hb
  subst e;exact⟨h1,hL,h2,h3⟩
 ·obtain⟨o,es,ep,ho,r⟩:=hm;exact⟨o,es,ep,k _ o (Ne.symm hL) ho,r⟩
 ·refine(I.hok b u e).stay (λc v hc q=>k c v ?_ q) (λ_ q=>q) λ_ _ q=>q
  rcases hc with z |z
  ·rw[z];exact nit b u e
  ·exact nit c _ z
theorem Inv.tok(I:Inv X pins σ H s)(t:Nat):Inv X pins σ H { s with toks:=t }:=I.un (h':=s.heap) (t':=t) Un.refl I.hok
theorem Inv.kept{t':Nat}(I:Inv X pins σ H s)(k:∀b u,s.heap.get? b=some u->h'.get? b=some u):Inv X pins σ H { s with heap:=h',toks:=t' }:=I.un (Un.kept k) (I.hok.kept k)
theorem Inv.laid{a:Addr}{o:HO}{t':Nat}(I:Inv X pins σ H s)(k:∀b u,s.heap.get? b=some u->h'.get? b=some u)(hp:s.heap.objs.size<=a)(new:ObjOk X.prog X.w (upd H a o) h' a o) :
 Inv X pins σ (upd H a o) { s with heap:=h',toks:=t' }:=I.un (Un.laid k hp (I.hok.fresh hp)) (I.hok.laid k hp new)
theorem Inv.write{x e:Addr}{o:HO}{t':Nat}(I:Inv X pins σ H s)(mu:Mut (H x))(he:e=x\/H e=some (.own x))(k:∀b u,b≠e->s.heap.get? b=some u->h'.get? b=some u)(heo:∃u,h'.get? e=some u)
 (new:ObjOk X.prog X.w (upd H x o) h' x o):Inv X pins σ (upd H x o) { s with heap:=h',toks:=t' }:=I.un (Un.write mu he k heo) (I.hok.write mu he k heo new)
theorem Inv.pins_of{pins':List (Addr×Obj)}(I:Inv X pins σ H s)(h:∀p∈pins',s.heap.get? p.1=some p.2/\H p.1=none/\p.1≠X.env.locals/\p.1∉X.fs/\∀v,p.2.data≠.cell v):Inv X pins' σ H s :=
 ⟨I.ok,I.os,I.bare,I.base,I.loc,I.cell,I.free,I.freeC,λp hp=>(HK.mp hp).elim (λz=>I.pin p (Ig _ z)) (h p),I.hok,I.len⟩
theorem rR{N:List Str}(hN:N.Nodup){i j:Nat}{x:Str}(a:N[i]?=some x)(b:N[j]?=some x):i=j:=by obtain⟨h1,e1⟩:=List.getElem?_eq_some_iff.mp a;obtain⟨h2,e2⟩:=List.getElem?_eq_some_iff.mp b;exact(List.getElem_inj hN).mp (e1.trans e2.symm)
theorem o4{M:Model}{A:Around}{E:Value->Shared->Prop}{i:Nat}{x:Str}{v:V}{u:Value}{Q:Unit->Shared->Prop}(I:Inv X pins σ H s)(hN:X.N.Nodup)(hi:X.N[i]?=some x)(hx:Loc X.env.scope x)(r:RelV v u)
 (h:∀s',Inv X pins (σ.set i (some v)) H s'->(∃a,Heap.SameBut a s.heap s'.heap/\(a=X.env.locals\/X.env.cells.lookup x=some a))->Q () s') (hf:X.fn x=true\/X.env.scope.names.lookup x=some .local:=by first |exact .inl rfl |exact .inr rfl |assumption):wpAny M A (storeName X.env x u) Q E s:=by
 obtain⟨m,hn,hl⟩:=id I.loc;have hcls:(X.env.scope.kind == .class || (X.env.scope.kind == .module&&X.env.locals != X.env.globals))=false:=by rw[I.ok.kind];rfl
 have hiσ:i<σ.length:=by rw[I.len];exact(List.getElem?_eq_some_iff.mp hi).1
 have cne:=I.cne
 have tracked:∀{a:Addr} {h':Heap},(∃o,s.heap.get? a=some o/\H a=none)->Heap.SameBut a s.heap h'->HOk X.prog X.w H h':=λ{a h'} ha hs b ob e=>by
  obtain⟨_,_,hfree⟩:=ha;refine(I.hok b ob e).stay (λc w' hc q=>(hs.2 c ?_).trans q) (λ_ q=>q) λ_ _ q=>q
  rintro rfl;rcases hc with rfl |hc
  ·rw[hfree]at e;cases e
  ·rw[hfree]at hc;cases hc
 rcases hx with hk |hk
 ·refine wpAny_storeName_local hk hn (λh' hn' hs=>?_) hcls;obtain⟨oL,_,_,hoL,_⟩:=id hn;refine h _ ⟨I.ok,I.os,I.bare,⟨λb o e n hb hx=>?_,λb o e n hb hx=>?_,I.base.free,λb o e hx=>?_,I.base.tups,I.base.frzs,I.base.tbls⟩,⟨_,hn',λj y v' e1 e2 e3=>?_⟩,λy c e=>?_,I.free,I.freeC,λp hp=>?_,tracked ⟨oL,hoL,I.free⟩ hs,by simpa using I.len⟩ ⟨_,hs,.inl rfl⟩
  ·exact(hs.2 b (G6 (G5 (Heap.lt_size e) I.ok.above))).trans (I.base.keep b o e n hb hx)
  ·obtain⟨sl,e1⟩:=I.base.slot b o e n hb hx;exact⟨sl,(hs.2 b (G6 (G5 (Heap.lt_size e) I.ok.above))).trans e1⟩
  ·obtain⟨o',e1⟩:=I.base.there b o e hx;exact⟨o',(hs.2 b (G6 (G5 (Heap.lt_size e) I.ok.above))).trans e1⟩
  ·by_cases hj:j=i
   ·subst hj;rw[hi]at e1;cases e1;rw[List.getElem?_set_self hiσ]at e2;cases e2;exact⟨u,r,.inl ⟨hk,by simp⟩⟩
   ·rw[List.getElem?_set_ne (Ne.symm hj)]at e2;obtain⟨u',r',q⟩:=hl j y v' e1 e2 e3;refine⟨u',r',?_⟩;rcases q with⟨k,e⟩ |⟨k,c,e,z⟩
    ·refine .inl ⟨k,?_⟩;have:y≠x:=λe=>hj (rR hN e1 (e ▸ hi))
     simp[this,e]
    ·exact .inr ⟨k,c,e,z.sameBut hs (cne y c e)⟩
  ·obtain⟨w',z⟩:=I.cell y c e;exact⟨w',z.sameBut hs (cne y c e)⟩
  ·obtain⟨e,n,ne,nf,d⟩:=I.pin p hp;exact⟨(hs.2 p.1 ne).trans e,n,ne,nf,d⟩
 ·have hfn:X.fn x=true:=by
   rcases hf with z |z
   ·exact z
   ·rw[z]at hk;cases hk
  obtain⟨c,hc⟩:=I.ok.has x (.inl hk);obtain⟨w',z⟩:=I.cell x c hc;refine wpAny_storeName_cell I.ok.kind hk hc z (λh' hc' hs=>?_);obtain⟨oc,hoc,hocd⟩:=id z;refine h { s with heap:=h' } ⟨I.ok,I.os,I.bare,⟨λb o e n hb hx=>?_,λb o e n hb hx=>?_,I.base.free,λb o e hx=>?_,I.base.tups,I.base.frzs,I.base.tbls⟩,⟨m,hn.sameBut hs (Ne.symm (cne x c hc)),λj y v' e1 e2 e3=>?_⟩,λy c' e=>?_,I.free,I.freeC,λp hp=>?_,tracked ⟨oc,hoc,I.freeC x c hc⟩ hs,by simpa using I.len⟩ ⟨c,hs,.inr hc⟩
  ·exact(hs.2 b (G6 (G5 (Heap.lt_size e) (I.ok.cab x c hfn hc)))).trans (I.base.keep b o e n hb hx)
  ·obtain⟨sl,e1⟩:=I.base.slot b o e n hb hx;exact⟨sl,(hs.2 b (G6 (G5 (Heap.lt_size e) (I.ok.cab x c hfn hc)))).trans e1⟩
  ·obtain⟨o',e1⟩:=I.base.there b o e hx;exact⟨o',(hs.2 b (G6 (G5 (Heap.lt_size e) (I.ok.cab x c hfn hc)))).trans e1⟩
  ·by_cases hj:j=i
   ·subst hj;rw[hi]at e1;cases e1;rw[List.getElem?_set_self hiσ]at e2;cases e2;exact⟨u,r,.inr ⟨.inl hk,c,hc,hc'⟩⟩
   ·rw[List.getElem?_set_ne (Ne.symm hj)]at e2;obtain⟨u',r',q⟩:=hl j y v' e1 e2 e3;refine⟨u',r',?_⟩;rcases q with q |⟨k,c',e,z'⟩
    ·exact .inl q
    ·refine .inr ⟨k,c',e,z'.sameBut hs ?_⟩;rintro rfl;exact hj (rR hN e1 (I.ok.inj _ _ _ e hc ▸ hi))
  ·by_cases hcc:c'=c
   ·subst hcc;exact⟨_,hc'⟩
   ·obtain⟨w2,z2⟩:=I.cell y c' e;exact⟨w2,z2.sameBut hs hcc⟩
  ·obtain⟨e,n,ne,nf,d⟩:=I.pin p hp;refine⟨(hs.2 p.1 ?_).trans e,n,ne,nf,d⟩;intro q;rw[q,hoc]at e;have q':oc=p.2:=Option.some.inj e;exact d w' (by rw[<- q'];exact hocd)
theorem o5{M:Model}{A:Around}{E:Value->Shared->Prop}{i:Nat}{x:Str}{v:V}{u:Value}{Q:Unit->Shared->Prop}(I:Inv X pins σ H s)(hN:X.N.Nodup)(hi:X.N[i]?=some x)(hx:Loc X.env.scope x)(r:RelV v u)
 (h:∀s',Inv X pins (σ.set i (some v)) H s'->Q () s') (hf:X.fn x=true\/X.env.scope.names.lookup x=some .local:=by first |exact .inl rfl |exact .inr rfl |assumption):wpAny M A (storeName X.env x u) Q E s :=
 o4 I hN hi hx r (λs' I' _=>h s' I') hf
theorem Inv.call'{s':Shared}{ch:List Addr}(I:Inv X pins σ H s)(ho:s'.os=s.os)(u:Un (frs X.stack) ch H H' s.heap s'.heap)(hok:HOk X.prog X.w H' s'.heap)(hg:AllBare s'.gens)
 (hch:∀b∈ch,(b∈X.ex\/X.s₀.heap.objs.size<=b)/\b≠X.env.locals/\(∀x c,X.env.cells.lookup x=some c->c≠b)/\∀p∈X.pn++pins,p.1≠b):Inv X pins σ H' s':=by
 obtain⟨h',g',d',t',o'⟩:=s';have e:o'=s.os:=ho;subst e;exact I.call (g':=g') (t':=t') (d':=d') u hok hg hch
end
abbrev XK:=Value->Option Addr->Hp->Prop
abbrev St:=List (Option V)
abbrev VK:=V->Hp->Prop
abbrev TE:=St->Hp->VK->Prop
abbrev TT:=St->Hp->(Bool->Hp->Prop)->Prop
abbrev TA:=St->Hp->(List V->Hp->Prop)->Prop
structure Ends where
 nx:St->Hp->Prop
 rt:VK
 bk:St->Hp->Prop:=λ_ _=>False
 ct:St->Hp->Prop:=λ_ _=>False
abbrev TS:=Ends->St->Hp->Prop
def EP(X:Cx)(pins:List (Addr×Obj))(σ:St)(Q:VK)(u:Value)(s':Shared):Prop:=∃v H',Inv X pins σ H' s'/\RelV v u/\Q v H'
def TP(X:Cx)(pins:List (Addr×Obj))(σ:St)(Q:Bool->Hp->Prop)(b:Bool)(s':Shared):Prop:=∃H',Inv X pins σ H' s'/\Q b H'
def AP(X:Cx)(pins:List (Addr×Obj))(σ:St)(Q:List V->Hp->Prop)(us:List Value)(s':Shared):Prop:=∃vs H',Inv X pins σ H' s'/\Vals vs us/\Q vs H'
noncomputable def SP(X:Cx)(pins:List (Addr×Obj))(D:Ends)(f:Flow)(s':Shared):Prop :=
 match f with
 |.next=>∃σ' H',Inv X pins σ' H' s'/\D.nx σ' H'
 |.brk=>∃σ' H',Inv X pins σ' H' s'/\D.bk σ' H'
 |.cont=>∃σ' H',Inv X pins σ' H' s'/\D.ct σ' H'
 |.ret u=>∃v σ' H',Inv X pins σ' H' s'/\RelV v u/\D.rt v H'
noncomputable def PE(X:Cx)(e:Expr)(t:TE):Prop :=
 ∀(pins:List (Addr×Obj)) (s:Shared) (σ:St) (H:Hp) (Q:VK),Inv X pins σ H s->t σ H Q->wpAny (model X.prog X.w) X.A (eval e X.env) (EP X pins σ Q) X.xe s
noncomputable def PT(X:Cx)(e:Expr)(t:TT):Prop :=
 ∀(pins:List (Addr×Obj)) (s:Shared) (σ:St) (H:Hp) (Q:Bool->Hp->Prop),Inv X pins σ H s->t σ H Q->wpAny (model X.prog X.w) X.A (isTrue e X.env (eval e X.env)) (TP X pins σ Q) X.xe s
noncomputable def PW(X:Cx)(e:Expr)(t:TT):Prop :=
 ∀(whole:Sem Value) (pins:List (Addr×Obj)) (s:Shared) (σ:St) (H:Hp) (Q:Bool->Hp->Prop),Inv X pins σ H s->t σ H Q->wpAny (model X.prog X.w) X.A (isTrue e X.env whole) (TP X pins σ Q) X.xe s
theorem PW.pt{X:Cx}{e:Expr}{t:TT}(h:PW X e t):PT X e t:=h _
noncomputable def PA(X:Cx)(es:List Expr)(t:TA):Prop :=
 ∀(pos:Pos) (pins:List (Addr×Obj)) (s:Shared) (σ:St) (H:Hp) (Q:List V->Hp->Prop),Inv X pins σ H s->t σ H Q->wpAny (model X.prog X.w) X.A (spliced (backTo pos (starEach es X.env))) (AP X pins σ Q) X.xe s
noncomputable def PS(X:Cx)(st:Stmt)(t:TS):Prop :=
 ∀(pins:List (Addr×Obj)) (s:Shared) (σ:St) (H:Hp) (D:Ends),Inv X pins σ H s->t D σ H->wpAny (model X.prog X.w) X.A (exec st X.env) (SP X pins D) X.xe s
noncomputable def PSs(X:Cx)(st:List Stmt)(t:TS):Prop :=
 ∀(pins:List (Addr×Obj)) (s:Shared) (σ:St) (H:Hp) (D:Ends),Inv X pins σ H s->t D σ H->wpAny (model X.prog X.w) X.A (execs st X.env) (SP X pins D) X.xe s
theorem thn{α:Type}{t:Sem α}{Q Q':α->Shared->Prop}{M:Model}{A:Around}{E:Value->Shared->Prop}{s:Shared}(h:wpAny M A t Q E s)(hQ:∀a s,Q a s->Q' a s):wpAny M A t Q' E s:=wpAny_mono h hQ λ_ _ x=>x
section
variable {X:Cx}
def oR(i:Nat):TE:=λσ H Q=>∃v,σ[i]?=some (some v)/\Q v H
def tC(v:V):TE:=λ_ H Q=>Q v H
theorem yA{i:Nat}{x:Str}{pos:Pos}(hN:X.N[i]?=some x)(hv:Vis X.env.scope x)(hd:(x == ("__debug__":Str))=false:=by decide)(hcd:(x == ("__classdict__":Str))=false:=by decide):PE X (.Name x pos) (oR i):=by
 intro pins s σ H Q I h;obtain⟨v,e,h⟩:=h;obtain⟨m,hn,hl⟩:=I.loc;obtain⟨u,r,l⟩:=hl i x v hN e hv;have fin:EP X pins σ Q u s:=⟨v,H,I,r,h⟩;rcases l with⟨hk,hm⟩ |⟨hk,c,hc,hcell⟩
 ·exact wpAny_Name (wpAny_loadName_local I.ok.kind hk hn hm fin) hd
 ·rcases hk with hk |hk
  ·exact wpAny_Name (wpAny_loadName_cell I.ok.kind hk hc hcell fin) hd
  ·exact wpAny_Name (wpAny_loadName_free I.ok.kind hk hc hcell fin hcd) hd
theorem ac{i j pos}:PE X (.Constant (.int i) j pos) (tC (.int i)):=λ_ _ _ H _ I h=>wpAny_Constant_int ⟨.int i,H,I.tok _,⟨_,rfl⟩,h⟩
theorem cn{b j pos}:PE X (.Constant (.bool b) j pos) (tC (.bl b)):=λ_ _ _ H _ I h=>Constant_bool ⟨.bl b,H,I,rfl,h⟩
def Gl(X:Cx)(x:Str):Prop:=X.env.kindOf x=some .globalImplicit
theorem sR{E:Value->Shared->Prop}{pins:List (Addr×Obj)}{s:Shared}{σ:St}{H:Hp}{x:Str}{u:Value}{pos:Pos}{Q:Value->Shared->Prop}(I:Inv X pins σ H s)(hg:Gl X x)(hm:X.mg x=some u)(h:Q u s)
 (hd:(x == ("__debug__":Str))=false:=by decide):wpAny (model X.prog X.w) X.A (eval (.Name x pos) X.env) Q E s :=
 Calls.Name_function_global I.ok.kind hg (Calls.loadGlobal_global (by rw[I.ok.glob];exact I.mod.glob.keeps I.bk) hm h) hd
theorem dR{E:Value->Shared->Prop}{pins:List (Addr×Obj)}{s:Shared}{σ:St}{H:Hp}{x:Str}{u:Value}{pos:Pos}{Q:Value->Shared->Prop}(I:Inv X pins σ H s)(hg:Gl X x)(hm:X.mg x=none)(hv:bootBuiltins x=some u)(h:Q u s)
 (hn:x≠"__name__":=by decide) (hd:(x == ("__debug__":Str))=false:=by decide):wpAny (model X.prog X.w) X.A (eval (.Name x pos) X.env) Q E s:=by
 obtain⟨mb,h1,h2⟩:=I.mod.blt;exact Calls.Name_function_global I.ok.kind hg (Calls.loadGlobal_builtin (by rw[I.ok.glob];exact I.mod.glob.keeps I.bk) hm (by rw[I.ok.blt];exact h1.keeps I.bk) ((h2 x hn).trans hv) h) hd
theorem dL{x:Str}{v:V}{u:Value}{pos:Pos}(hg:Gl X x)(hm:X.mg x=none)(hv:bootBuiltins x=some u)(r:RelV v u)(hn:x≠"__name__":=by decide)(hd:(x == ("__debug__":Str))=false:=by decide):PE X (.Name x pos) (tC v) :=
 λ_ _ _ H _ I h=>dR I hg hm hv ⟨v,H,I,r,h⟩ hn hd
variable {a b:Expr}{ta tb:TE}{pos:Pos}
def tB(t:TE):TT:=λσ H Q=>t σ H λx H1=>∃c,x=.bl c/\Q c H1
theorem cu{e:Expr}{t:TE}(h:PE X e t)(he:∀whole,isTrue e X.env whole=(do let v <- whole;standAt e.pos;holding [v] (truthy v)):=by intro _;rfl):PT X e (tB t):=by intro pins s σ H Q I hw;refine isTrue_plain (thn (h pins s σ H _ I hw) λv s1 ⟨x,H1,I1,r1,q1⟩=>?_) (he _);obtain⟨d,rfl,q⟩:=q1;cases r1;exact wpAny_truthy_bool ⟨H1,I1,q⟩
variable {tA tB':TT}{rest:List Expr}
def o0(t u:TT):TT:=λσ H Q=>t σ H λc H1=>if c=true then u σ H1 Q else Q false H1
def tOr(t u:TT):TT:=λσ H Q=>t σ H λc H1=>if c=true then Q true H1 else u σ H1 Q
def oU(t:TT):TT:=λσ H Q=>t σ H λc H1=>Q (!c) H1
theorem du(ha:PT X a tA):PW X (.BoolOp .And [a] pos) tA:=by
 intro wh pins s σ H Q I h;refine isTrue_and (thn (ha pins s σ H Q I h) λc s1 e=>?_);cases c with
 |true=>exact isTrue_and_nil e
 |false=>exact e
theorem cr(ha:PT X a tA):PW X (.BoolOp .Or [a] pos) tA:=by
 intro wh pins s σ H Q I h;refine isTrue_or (thn (ha pins s σ H Q I h) λc s1 e=>?_);cases c with
 |false=>exact isTrue_or_nil e
 |true=>exact e
theorem c9(ha:PT X a tA)(hb:PW X (.BoolOp .And (b::rest) pos) tB'):PW X (.BoolOp .And (a::b::rest) pos) (o0 tA tB'):=by
 intro wh pins s σ H Q I h;refine isTrue_and (thn (ha pins s σ H _ I h) λc s1 ⟨H1,I1,q1⟩=>?_);cases c with
 |true=>exact hb wh pins s1 σ H1 Q I1 q1
 |false=>exact⟨H1,I1,q1⟩
theorem bO(ha:PT X a tA)(hb:PW X (.BoolOp .Or (b::rest) pos) tB'):PW X (.BoolOp .Or (a::b::rest) pos) (tOr tA tB'):=by
 intro wh pins s σ H Q I h;refine isTrue_or (thn (ha pins s σ H _ I h) λc s1 ⟨H1,I1,q1⟩=>?_);cases c with
 |true=>exact⟨H1,I1,q1⟩
 |false=>exact hb wh pins s1 σ H1 Q I1 q1
theorem cv(ha:PT X a tA):PT X (.UnaryOp .Not a pos) (oU tA):=by intro pins s σ H Q I h;exact isTrue_not (ha pins s σ H (λc H1=>Q (!c) H1) I h)
def oZ(ta tb:TE):TE:=λσ H Q=>ta σ H λx H1=>∃c,x=.bl c/\if c=true then tb σ H1 Q else Q (.bl false) H1
def oS(ta tb:TE):TE:=λσ H Q=>ta σ H λx H1=>∃c,x=.bl c/\if c=true then Q (.bl true) H1 else tb σ H1 Q
def oT(ta:TE):TE:=λσ H Q=>ta σ H λx H1=>∃c,x=.bl c/\Q (.bl (!c)) H1
theorem gH{op}{t:TE}(h:PE X a t):PE X (.BoolOp op [a] pos) t:=λpins s σ H Q I hw=>BoolOp_one (h pins s σ H Q I hw)
theorem fX(ha:PE X a ta)(hb:PE X (.BoolOp .And (b::rest) pos) tb):PE X (.BoolOp .And (a::b::rest) pos) (oZ ta tb):=by
 intro pins s σ H Q I h;refine BoolOp_and (thn (ha pins s σ H _ I h) λv s1 ⟨x,H1,I1,r1,q1⟩=>?_);obtain⟨c,rfl,q1⟩:=q1;cases r1;refine wpAny_truthy_bool ?_;cases c with
 |true=>exact hb pins s1 σ H1 Q I1 q1
 |false=>exact⟨.bl false,H1,I1,rfl,q1⟩
theorem yB(ha:PE X a ta)(hb:PE X (.BoolOp .Or (b::rest) pos) tb):PE X (.BoolOp .Or (a::b::rest) pos) (oS ta tb):=by
 intro pins s σ H Q I h;refine BoolOp_or (thn (ha pins s σ H _ I h) λv s1 ⟨x,H1,I1,r1,q1⟩=>?_);obtain⟨c,rfl,q1⟩:=q1;cases r1;refine wpAny_truthy_bool ?_;cases c with
 |false=>exact hb pins s1 σ H1 Q I1 q1
 |true=>exact⟨.bl true,H1,I1,rfl,q1⟩
theorem yC(ha:PE X a ta):PE X (.UnaryOp .Not a pos) (oT ta):=by intro pins s σ H Q I h;refine UnaryOp_ (thn (ha pins s σ H _ I h) λv s1 ⟨x,H1,I1,r1,q1⟩=>?_);obtain⟨c,rfl,q1⟩:=q1;cases r1;exact not_of (wpAny_truthy_bool ⟨.bl (!c),H1,I1,rfl,q1⟩)
def tIf(t:TT)(ta tb:TE):TE:=λσ H Q=>t σ H λc H1=>if c=true then ta σ H1 Q else tb σ H1 Q
theorem yE{c:Expr}(hc:PT X c tA)(ha:PE X a ta)(hb:PE X b tb):PE X (.IfExp c a b pos) (tIf tA ta tb):=by
 intro pins s σ H Q I h;refine wpAny_IfExp (thn (hc pins s σ H _ I h) λd s1 ⟨H1,I1,q1⟩=>?_);cases d with
 |true=>exact ha pins s1 σ H1 Q I1 q1
 |false=>exact hb pins s1 σ H1 Q I1 q1
end
noncomputable def SqL(K:PySem.W.Frag)(H:Hp)(a:Addr)(xs:List V):Prop :=
 Rd H a (.lst xs) \/
  ∃(o:Obj) (its:Array Value) (n:Nat),K.lookup a=some o/\o.cls=.type "list"/\o.dict=none/\o.data=.seq its n/\its.size<=sizeLine/\Vals xs its.toList
noncomputable def SqT(K:PySem.W.Frag)(H:Hp)(a:Addr)(xs:List V):Prop :=
 Rd H a (.tup xs) \/
  ∃(o:Obj) (its:Array Value) (n:Nat),K.lookup a=some o/\o.cls=.type "tuple"/\o.data=.seq its n/\its.size<=sizeLine/\Vals xs its.toList
noncomputable def D3:Value->Option V
 |.none=>some .non
 |.bool b=>some (.bl b)
 |.int i _=>some (.int i)
 |.str x _=>some (.str x)
 |.bytes b _=>some (.byt b)
 |.float b _=>some (.flt b)
 |.ref a=>some (.ref a)
 |.type n=>some (.ty n)
 |_=>none
theorem RelV.abs{x:V}{u:Value}(r:RelV x u):D3 u=some x:=by
 cases x with
 |non=>cases r;rfl
 |bl _=>cases r;rfl
 |int _=>obtain⟨t,rfl⟩:=r;rfl
 |str _=>obtain⟨t,rfl⟩:=r;rfl
 |byt _=>obtain⟨t,rfl⟩:=r;rfl
 |flt _=>obtain⟨t,rfl⟩:=r;rfl
 |ref _=>cases r;rfl
 |ty _=>cases r;rfl
theorem RelV.inj{x y:V}{u:Value}(r:RelV x u)(q:RelV y u):x=y:=Option.some.inj (r.abs.symm.trans q.abs)
theorem Vals.inj:∀{xs ys:List V} {us:List Value},Vals xs us->Vals ys us->xs=ys
 |_,_,_,.nil,.nil=>rfl
 |_,_,_,.cons r t,.cons r' t'=>by rw[r.inj r',Vals.inj t t']
section
variable {X:Cx}{pins:List (Addr×Obj)}{σ:St}{H:Hp}{s:Shared}{a:Addr}{xs ys:List V}
theorem SqL.of{K:PySem.W.Frag}(h:H a=some (.lst xs)):SqL K H a xs:=.inl (.inl h)
theorem SqT.of{K:PySem.W.Frag}(h:H a=some (.tup xs)):SqT K H a xs:=.inl (.inl h)
theorem Inv.list(I:Inv X pins σ H s)(h:SqL X.K H a xs):∃its:List Value,Vals xs its/\PlainL s.heap a its.toArray/\xs.length<=sizeLine:=by
 rcases h with h |⟨o,its,n,hk,hc,hd,hs,hz,r⟩
 ·obtain⟨z,its,n,r,e⟩:=h.ok I.hok;exact⟨its,r,⟨_,n,e,rfl,rfl,rfl⟩,z⟩
 ·refine⟨its.toList,r,⟨o,n,I.kIn a o hk,hc,hd,by simpa using hs⟩,?_⟩;have e:=r.length;simp only[Array.length_toList]at e;omega
theorem Inv.tuple(I:Inv X pins σ H s)(h:SqT X.K H a xs):∃its:List Value,Vals xs its/\IsTup s.heap a its.toArray/\xs.length<=sizeLine:=by
 rcases h with h |⟨o,its,n,hk,hc,hs,hz,r⟩
 ·obtain⟨z,its,r,p⟩:=h.ok I.hok;exact⟨its,r,p,z⟩
 ·refine⟨its.toList,r,⟨o,I.kIn a o hk,hc,n,by simpa using hs⟩,?_⟩;have e:=r.length;simp only[Array.length_toList]at e;omega
theorem Inv.list_inj(I:Inv X pins σ H s)(h:SqL X.K H a xs)(h':SqL X.K H a ys):xs=ys:=by
 obtain⟨its,r,⟨o,n,e,_,_,d⟩,_⟩:=I.list h;obtain⟨its',r',⟨o',n',e',_,_,d'⟩,_⟩:=I.list h';rw[e]at e';cases e';rw[d]at d'
 injection d' with d1 _
 have:its=its':=by simpa using congrArg Array.toList d1
 subst this;exact r.inj r'
end
abbrev Cx.wish(X:Cx)(E:Value->Shared->Prop):Cx:={ X with xe:=E }
abbrev Cx.nox(X:Cx):Cx:=X.wish λ_ _=>False
theorem Cx.Ok.wish{X:Cx}(ok:X.Ok)(E:Value->Shared->Prop):(X.wish E).Ok :=
 ⟨ok.mod,ok.kind,ok.glob,ok.blt,ok.above,ok.inj,ok.has,ok.cab,ok.hd,ok.frames,ok.stk,ok.exf,ok.bs,ok.bsz,ok.noex,ok.exfs,ok.funs,ok.frf⟩
theorem Cx.Ok.unwish{X:Cx}{E:Value->Shared->Prop}(ok:(X.wish E).Ok):X.Ok :=
 ⟨ok.mod,ok.kind,ok.glob,ok.blt,ok.above,ok.inj,ok.has,ok.cab,ok.hd,ok.frames,ok.stk,ok.exf,ok.bs,ok.bsz,ok.noex,ok.exfs,ok.funs,ok.frf⟩
section
variable {X:Cx}{pins:List (Addr×Obj)}{σ:St}{H:Hp}{s:Shared}{E:Value->Shared->Prop}
theorem Inv.wish(I:Inv X pins σ H s)(E:Value->Shared->Prop):Inv (X.wish E) pins σ H s:=⟨I.ok.wish E,I.os,I.bare,I.base,I.loc,I.cell,I.free,I.freeC,I.pin,I.hok,I.len⟩
theorem Inv.unwish(I:Inv (X.wish E) pins σ H s):Inv X pins σ H s:=⟨I.ok.unwish,I.os,I.bare,I.base,I.loc,I.cell,I.free,I.freeC,I.pin,I.hok,I.len⟩
theorem SP.unwish{D:Ends}{f:Flow}{s':Shared}(h:SP (X.wish E) pins D f s'):SP X pins D f s':=by
 cases f with
 |next=>obtain⟨σ',H',I,q⟩:=h;exact⟨σ',H',I.unwish,q⟩
 |brk=>obtain⟨σ',H',I,q⟩:=h;exact⟨σ',H',I.unwish,q⟩
 |cont=>obtain⟨σ',H',I,q⟩:=h;exact⟨σ',H',I.unwish,q⟩
 |ret u=>obtain⟨v,σ',H',I,r,q⟩:=h;exact⟨v,σ',H',I.unwish,r,q⟩
theorem PE.nox{e:Expr}{t:TE}(h:PE X.nox e t):PE X e t:=λpins s σ H Q I hw =>wpAny_mono (h pins s σ H Q (I.wish _) hw) (λ_ _ ⟨v,H',I',r,q⟩=>⟨v,H',I'.unwish,r,q⟩) λ_ _ z=>False.elim z
theorem PT.nox{e:Expr}{t:TT}(h:PT X.nox e t):PT X e t:=λpins s σ H Q I hw =>wpAny_mono (h pins s σ H Q (I.wish _) hw) (λ_ _ ⟨H',I',q⟩=>⟨H',I'.unwish,q⟩) λ_ _ z=>False.elim z
theorem PSs.nox{st:List Stmt}{t:TS}(h:PSs X.nox st t):PSs X st t:=λpins s σ H D I hw =>wpAny_mono (h pins s σ H D (I.wish _) hw) (λ_ _ q=>q.unwish) λ_ _ z=>False.elim z
end
section
variable {X:Cx}{st:Stmt}{rest:List Stmt}{t u:TS}{e:Expr}{te:TE}{pos:Pos}
def oW:TS:=λD σ H=>D.nx σ H
def bU(t u:TS):TS:=λD σ H=>t { D with nx:=u D } σ H
theorem aO:PSs X [] oW:=λ_ _ σ H _ I h=>wpAny_execs_nil ⟨σ,H,I,h⟩
theorem af(h1:PS X st t)(h2:PSs X rest u):PSs X (st::rest) (bU t u):=by
 intro pins s σ H D I h;refine wpAny_execs_cons (thn (h1 pins s σ H { D with nx:=u D } I h) λf s1 q=>?_);cases f with
 |next =>obtain⟨σ',H',I',q⟩:=q;exact h2 pins s1 σ' H' D I' q
 |ret v=>exact q
 |brk=>exact q
 |cont=>exact q
theorem ai(h1:PS X st t):PSs X [st] t:=by
 intro pins s σ H D I h;refine wpAny_execs_cons (thn (h1 pins s σ H D I h) λf s1 q=>?_);cases f with
 |next=>exact wpAny_execs_nil q
 |ret v=>exact q
 |brk=>exact q
 |cont=>exact q
theorem Inv.quiet{pins:List (Addr×Obj)}{σ:St}{H:Hp}{s:Shared}(I:Inv X pins σ H s):interactive X.env=false:=by simp[interactive,I.ok.kind]
def jP(te:TE):TS:=λD σ H=>te σ H λ_ H1=>D.nx σ H1
theorem dH(he:PE X e te)(hs:swapsWith e none pos.line X.env=pure false:=by rfl):PS X (.Expr e pos) (jP te):=by intro pins s σ H D I h;exact wpAny_Expr_any (thn (he pins s σ H _ I h) λv s1 ⟨x,H1,I1,r1,q1⟩=>⟨σ,H1,I1,q1⟩) I.quiet hs
def jO(te:TE):TS:=λD σ H=>te σ H D.rt
theorem au(he:PE X e te):PS X (.Return (some e) pos) (jO te):=by intro pins s σ H D I h;exact wpAny_Return_some (thn (he pins s σ H _ I h) λv s1 ⟨x,H1,I1,r1,q1⟩=>⟨x,σ,H1,I1,r1,q1⟩)
def ix(c:TT)(t u:TS):TS:=λD σ H=>c σ H λb H1=>if b=true then t D σ H1 else u D σ H1
theorem aP{c:Expr}{a b:List Stmt}{tc:TT}(hc:PT X c tc)(ha:PSs X a t)(hb:PSs X b u):PS X (.If c a b pos) (ix tc t u):=by
 intro pins s σ H D I h;refine wpAny_If (thn (hc pins s σ H _ I h) λd s1 ⟨H1,I1,q1⟩=>?_);cases d with
 |true=>exact ha pins s1 σ H1 D I1 q1
 |false=>exact hb pins s1 σ H1 D I1 q1
def wq:TS:=λ_ _ _=>False
theorem rd:PS X st wq:=λ_ _ _ _ _ _ h=>h.elim
end
abbrev TG:=V->St->Hp->(St->Hp->Prop)->Prop
abbrev TGs:=List V->St->Hp->(St->Hp->Prop)->Prop
noncomputable def PG(X:Cx)(target:Expr)(t:TG):Prop :=
 ∀(pins:List (Addr×Obj)) (s:Shared) (σ:St) (H:Hp) (v:V) (u:Value) (Q:St->Hp->Prop),Inv X pins σ H s->RelV v u->t v σ H Q ->
  wpAny (model X.prog X.w) X.A (assign target X.env u) (λ_ s'=>∃σ' H',Inv X pins σ' H' s'/\Q σ' H') X.xe s
noncomputable def PGs(X:Cx)(ts:List Expr)(t:TGs):Prop :=
 ∀(pins:List (Addr×Obj)) (s:Shared) (σ:St) (H:Hp) (vs:List V) (us:List Value) (Q:St->Hp->Prop),Inv X pins σ H s->Vals vs us->t vs σ H Q ->
  wpAny (model X.prog X.w) X.A (assignInOrder ((assignEach ts X.env).map (·.2)) us) (λ_ s'=>∃σ' H',Inv X pins σ' H' s'/\Q σ' H') X.xe s
abbrev nU:=V->V->V->Hp->(Hp->Prop)->Prop
noncomputable def vx(X:Cx)(t:nU):Prop :=
 ∀(pins:List (Addr×Obj)) (s:Shared) (σ:St) (H:Hp) (o i v:V) (ov iv u:Value) (Q:Hp->Prop),Inv X pins σ H s->RelV o ov->RelV i iv->RelV v u->t o i v H Q ->
  wpAny (model X.prog X.w) X.A (setItem ov iv u) (λ_ s'=>∃H',Inv X pins σ H' s'/\Q H') X.xe s
section
variable {X:Cx}{pos:Pos}
def dY(i:Nat):TG:=λv σ H Q=>Q (σ.set i (some v)) H
theorem aR{i:Nat}{x:Str}(hN:X.N.Nodup)(hi:X.N[i]?=some x)(hx:Loc X.env.scope x)(hf:X.fn x=true\/X.env.scope.names.lookup x=some .local:=by first |exact .inl rfl |exact .inr rfl |assumption):PG X (.Name x pos) (dY i):=by intro pins s σ H v u Q I r h;exact wpAny_assign_Name (o5 I hN hi hx r (λs' I'=>⟨_,H,I',h⟩) hf)
noncomputable def Ca:TGs:=λvs σ H Q=>vs=[]/\Q σ H
noncomputable def Cb(t:TG)(u:TGs):TGs:=λvs σ H Q=>∃v r,vs=v::r/\t v σ H λσ' H'=>u r σ' H' Q
theorem dJ:PGs X [] Ca:=by intro pins s σ H vs us Q I r h;obtain⟨e,h⟩:=h;subst e;cases r;exact assignInOrder_nil ⟨σ,H,I,h⟩
theorem cm{e:Expr}{es:List Expr}{t:TG}{u:TGs}(h1:PG X e t)(h2:PGs X es u)
 (hs:(assignEach (e::es) X.env).map (·.2)=assign e X.env::(assignEach es X.env).map (·.2):=by rfl):PGs X (e::es) (Cb t u):=by
 intro pins s σ H vs us Q I r h;obtain⟨v,vr,e1,h⟩:=h;subst e1;cases r with
 |cons r rr =>rw[hs];refine assignInOrder_cons (thn (h1 pins s σ H _ _ _ I r h) λ_ s1 ⟨σ1,H1,I1,q1⟩=>?_);exact h2 pins s1 σ1 H1 _ _ Q I1 rr q1
def tR(K:PySem.W.Frag)(n:Nat)(t:TGs):TG:=λv σ H Q=>∃a xs,v=.ref a/\SqT K H a xs/\xs.length=n/\t xs σ H Q
theorem eZ{es:List Expr}{k:Nat}{t:TGs}{n:Nat}(hc:X.calm=true)(h:PGs X es t)
 (hn:(assignEach es X.env).length=n:=by rfl) (hst:(assignEach es X.env).findIdx? (·.1)=none:=by rfl):PG X (.Tuple es k pos) (tR X.K n t):=by
 intro pins s σ H v u Q I r hw;obtain⟨a,xs,e1,hq,hl,hw⟩:=hw;subst e1;cases r;obtain⟨its,rv,ht,hz⟩:=I.tuple hq;refine assign_Tuple_tuple (I.ok.hd hc) ht (by simp[hn,<- hl,rv.length]) hst λh' hx=>?_
 have I1:Inv X pins σ H { s with heap:=h' }:=I.kept (t':=s.toks) λb o e=>hx b o (G6 (Heap.lt_size e)) e
 exact h pins _ σ H xs _ Q I1 (by simpa using rv) hw
def B9(to ti:TE)(t:nU):TG:=λv σ H Q=>to σ H λo H1=>ti σ H1 λi H2=>t o i v H2 λH3=>Q σ H3
theorem iV{o i:Expr}{to ti:TE}{t:nU}(ho:PE X o to)(hi:PE X i ti)(hs:vx X t)
 (ha:∀v,assign (.Subscript o i pos) X.env v=(do
   let ov <- holding [v] (eval o X.env)
   let iv <- holding [v,ov] (eval i X.env)
   standAt pos
   holding [v,ov,iv] (setItem ov iv v)
   release [v,ov,iv] []):=by intro _;rfl):PG X (.Subscript o i pos) (B9 to ti t):=by
 intro pins s σ H v u Q I r h;rw[ha];refine wpAny_bind (wpAny_holding (thn (ho pins s σ H _ I h) λov s1 ⟨x,H1,I1,r1,q1⟩=>?_));refine wpAny_bind (wpAny_holding (thn (hi pins s1 σ H1 _ I1 q1) λiv s2 ⟨y,H2,I2,r2,q2⟩=>?_));refine wpAny_bind (wpAny_standAt (wpAny_bind (wpAny_holding (thn (hs pins s2 σ H2 x y v ov iv u _ I2 r1 r2 r q2) λ_ s3 ⟨H3,I3,q3⟩=>?_))));exact wpAny_release ⟨σ,H3,I3,q3⟩
def eL(te:TE)(g:TG):TS:=λD σ H=>te σ H λx H1=>g x σ H1 D.nx
theorem iT{tg e:Expr}{te:TE}{g:TG}(he:PE X e te)(hg:PG X tg g)(hs:swapsWithSole [tg] e pos.line X.env=pure false:=by rfl)(hw:swappedStores [tg] e X.env=pure none:=by rfl)
 (h1:(assignEach [tg] X.env).map (·.2)=[assign tg X.env]:=by rfl):PS X (.Assign [tg] e pos) (eL te g):=by
 intro pins s σ H D I h;refine wpAny_Assign_stores (thn (he pins s σ H _ I h) λv s1 ⟨x,H1,I1,r1,q1⟩=>?_) hs hw;rw[h1];exact thn (hg pins s1 σ H1 x v _ I1 r1 q1) λ_ s2 q=>q
theorem aj{i:Nat}{x:Str}{e:Expr}{te:TE}{pos':Pos}(hN:X.N.Nodup)(hi:X.N[i]?=some x)(hx:Loc X.env.scope x)(he:PE X e te)(hs:swapsWith e (some (.Name x pos')) pos.line X.env=pure false:=by rfl)(hf:X.fn x=true\/X.env.scope.names.lookup x=some .local:=by first |exact .inl rfl |exact .inr rfl |assumption) :
 PS X (.Assign [.Name x pos'] e pos) (eL te (dY i)):=by
 intro pins s σ H D I h;refine wpAny_Assign_Name (thn (he pins s σ H _ I h) λv s1 ⟨y,H1,I1,r1,q1⟩=>?_) hs;exact o5 I1 hN hi hx r1 (λs2 I2=>⟨_,H1,I2,q1⟩) hf
end
section
variable {X:Cx}{pos:Pos}
def wj(c:TT)(tb:TS):TS:=λD σ H=>∃W:Nat->St->Hp->Prop,(∃m,W m σ H)/\∀m σ H,W m σ H ->
 c σ H λb H1=>if b=true then ∃N:St->Hp->Prop,(∀σ' H',N σ' H'->∃m',m'<m/\W m' σ' H')/\tb { D with nx:=N,ct:=N,bk:=D.nx } σ H1 else D.nx σ H1
theorem fS{c:Expr}{body:List Stmt}{tc:TT}{tb:TS}(hp:PassesOwn (model X.prog X.w) X.A X.env X.xe)(hc:PT X c tc)(hb:PSs X body tb):PS X (.While c body [] pos) (wj tc tb):=by
 intro pins s σ H D I h;obtain⟨W,⟨m0,w0⟩,turn⟩:=h;refine wpAny_While (codeAny_whileLoop (λn s'=>∃σ' H',Inv X pins σ' H' s'/\W n σ' H') ?_ m0 ⟨σ,H,I,w0⟩);rintro n s1 ⟨σ1,H1,I1,w1⟩;refine wpAny_passesOwn hp (thn (hc pins s1 σ1 H1 _ I1 (turn n σ1 H1 w1)) λb s2 ⟨H2,I2,q2⟩=>?_);cases b with
 |true =>
  obtain⟨N,hN,q2⟩:=q2;rw[if_pos rfl];refine wpAny_passesOwn hp (thn (hb pins s2 σ1 H2 _ I2 q2) λf s3 q3=>?_);cases f with
  |next =>obtain⟨σ3,H3,I3,n3⟩:=q3;obtain⟨m',hm,w3⟩:=hN σ3 H3 n3;exact⟨m',hm,σ3,H3,I3,w3⟩
  |cont =>obtain⟨σ3,H3,I3,n3⟩:=q3;obtain⟨m',hm,w3⟩:=hN σ3 H3 n3;exact⟨m',hm,σ3,H3,I3,w3⟩
  |brk=>exact q3
  |ret v=>exact q3
 |false =>rw[if_neg Ih];exact wpAny_execs_nil ⟨σ1,H2,I2,q2⟩
end
structure It where
 go:Nat->Hp->Prop
 yld:Nat->Hp->V->Hp->Prop
 stop:Nat->Hp->Prop
noncomputable def dl(X:Cx)(pins:List (Addr×Obj))(H:Hp)(b:Addr):Prop :=
 H b=none/\b≠X.env.locals/\b∉X.fs/\(b∈X.ex\/X.s₀.heap.objs.size<=b)/\(∀x c,X.env.cells.lookup x=some c->c≠b)/\∀p∈X.pn++pins,p.1≠b
theorem Inv.fpOk{X:Cx}{pins:List (Addr×Obj)}{σ:St}{H H':Hp}{s:Shared}{b:Addr}(I:Inv X pins σ H s)(hb:s.heap.objs.size<=b)(hn:H' b=none):dl X pins H' b:=by
 refine⟨hn,Nat.ne_of_gt (G5 I.lt hb),I.nofs hb,.inr (GW I.sz hb),λx c e z=>?_,λp hp z=>?_⟩
 ·obtain⟨v,q⟩:=I.cell x c e;exact absurd (G5 q.lt (by rw[z];exact hb)) (HJ _)
 ·exact absurd (G5 (Heap.lt_size (I.pin p hp).1) (by rw[z];exact hb)) (HJ _)
structure Turn(P:Program)(w:World)(K:PySem.W.Frag)(tg:Expr)(J:It)(fp:List Addr)(it:Addr)(tn:Nat->Heap->Prop):Prop where
 mem:it∈fp
 obj:∀i h,tn i h->∀b∈fp,∃o,h.get? b=some o/\∀v,o.data≠.cell v
 keep:∀i h h',tn i h->(∀b∈fp,∀o,h.get? b=some o->h'.get? b=some o)->tn i h'
 item:∀(X:Cx),X.prog=P->X.w=w->X.K=K->X.calm=true->∀(i:Nat) (pins:List (Addr×Obj)) (s:Shared) (σ:St) (H:Hp) (E:Value->Shared->Prop),Inv X pins σ H s->(∀b∈fp,dl X pins H b)->tn i s.heap->J.go i H ->
  wpAny (model P w) X.A (pyNext (.ref it)) (λr s1=>∃u,r=some u /\
   wpAny (model P w) X.A (letOwnedTupleGo tg (.ref it) u) (λ_ s2=>∃x H',Inv X pins σ H' s2/\RelV x u/\J.yld i H x H'/\tn (i+1) s2.heap/\∀b∈fp,H' b=none) E s1) E s
 done:∀(X:Cx),X.prog=P->X.w=w->X.K=K->X.calm=true->∀(i:Nat) (pins:List (Addr×Obj)) (s:Shared) (σ:St) (H:Hp) (E:Value->Shared->Prop),Inv X pins σ H s->(∀b∈fp,dl X pins H b)->tn i s.heap->J.stop i H ->
  wpAny (model P w) X.A (pyNext (.ref it)) (λr s1=>r=none/\Inv X pins σ H s1) E s
 self:∀(A:Around) (i:Nat) (s:Shared) (Q:Value->Shared->Prop) (E:Value->Shared->Prop),tn i s.heap->Q (.ref it) s->wpAny (model P w) A (pyIter (.ref it)) Q E s
abbrev TI:=St->Hp->(It->Hp->Prop)->Prop
noncomputable def PIE(X:Cx)(pins:List (Addr×Obj))(σ:St)(tg:Expr)(R:It->Hp->Prop)(itv:Value)(s2:Shared):Prop :=
 ∃(it:Addr) (fp:List Addr) (tn:Nat->Heap->Prop) (J:It) (H':Hp),itv=.ref it/\Inv X pins σ H' s2/\Turn X.prog X.w X.K tg J fp it tn/\tn 0 s2.heap/\(∀b∈fp,dl X pins H' b)/\R J H'
noncomputable def PI(X:Cx)(tg iter:Expr)(wi:TI):Prop :=
 ∀(pins:List (Addr×Obj)) (s:Shared) (σ:St) (H:Hp) (R:It->Hp->Prop),Inv X pins σ H s->wi σ H R ->
  wpAny (model X.prog X.w) X.A (eval iter X.env) (λv s1=>wpAny (model X.prog X.w) X.A (pyIter v) (PIE X pins σ tg R) X.xe s1) X.xe s
theorem jo{M:Model}{A:Around}{E:Value->Shared->Prop}{s:Shared}{tg:Expr}{it:Addr}{u:Value}{o:Obj}{n:String}{vs:Array Value}{Q:Unit->Shared->Prop}(ho:s.heap.get? it=some o)(hc:o.cls=.type n)(hd:o.data=.fields vs)
 (hn:["enumerate","zip","dict_itemiterator","dict_reverseitemiterator","odict_iterator","itertools.zip_longest","itertools.pairwise"].contains n=false) (hQ:Q () s):wpAny M A (letOwnedTupleGo tg (.ref it) u) Q E s:=by
 unfold letOwnedTupleGo
 cases tg<;>first
  |exact wpAny_pure hQ
  | (cases u<;>first
      |exact wpAny_pure hQ
      | (refine wpAny_bind (wpAny_load ho ?_)
         rw[hc,hd];show wpAny M A (if(["enumerate","zip","dict_itemiterator","dict_reverseitemiterator","odict_iterator","itertools.zip_longest","itertools.pairwise"].contains n&&vs[0]? == some (rawInt _))=true then _ else _) Q E s;rw[if_neg (by intro h;rw[hn,Bool.false_and]at h;cases h)]
         exact wpAny_pure hQ))
noncomputable def Itl(K:PySem.W.Frag)(a:Addr):It :=
 ⟨λi H=>∃xs x,SqL K H a xs/\xs[i]?=some x,λi H x H'=>H'=H/\∀xs,SqL K H a xs->xs[i]?=some x,λi H=>∃xs,SqL K H a xs/\xs.length<=i⟩
noncomputable def Itr(lo:Int)(n:Nat):It:=⟨λi _=>i<n,λi H x H'=>H'=H/\x=.int (lo+i),λi _=>n<=i⟩
theorem vZ{P:Program}{w:World}{K:PySem.W.Frag}{tg:Expr}(a it:Addr):Turn P w K tg (Itl K a) [it] it (λi h=>h.IsListIter it a i) where
 mem:=by simp
 obj:=λi h st b hb=>by
  have e:b=it:=by simpa using hb
  subst e;obtain⟨o,e,c,d⟩:=st;exact⟨o,e,λv z=>by rw[d]at z;cases z⟩
 keep:=λi h h' st k=>st.at λo e=>k it (by simp) o e
 item:=by
  intro X hP hw hK hc i pins s σ H E I hf st hg;subst hP hw hK;obtain⟨xs,x,hq,hx⟩:=hg;obtain⟨its,rv,p,hz⟩:=I.list hq;obtain⟨u,hu,ru⟩:=rv.get hx;obtain⟨f0,f1,f2,f3,f4,f5⟩:=hf it (by simp);refine wpAny_pyNext_list_item st p.isList (x:=u) (by simpa using hu) λh' st' sb=>?_
  have I1:Inv X pins σ H { s with heap:=h' }:=I.turned (t':=s.toks) (λb o hb e=>(sb.2 b hb).trans e) f0 f1 f3 f4 f5;obtain⟨o,e,c,d⟩:=id st';exact⟨u,rfl,jo (s:={ s with heap:=h' }) e c d (by decide) ⟨x,H,I1,ru,⟨rfl,λys hy=>by rw[I.list_inj hy hq];exact hx⟩,st',λb hb=>(hf b hb).1⟩⟩
 done:=by intro X hP hw hK hc i pins s σ H E I hf st hg;subst hP hw hK;obtain⟨xs,hq,hx⟩:=hg;obtain⟨its,rv,p,hz⟩:=I.list hq;obtain⟨f0,f1,f2,f3,f4,f5⟩:=hf it (by simp);have hl:=rv.length;exact wpAny_pyNext_list_end (I.ok.hd hc) st p.isList (by simp;omega) λh' eb=>⟨rfl,I.turned (t':=s.toks) (λb o hb e=>eb b o hb e) f0 f1 f3 f4 f5⟩
 self:=λ_ _ _ _ _ st h=>wpAny_pyIter_listiter st h
theorem vY{P:Program}{w:World}{K:PySem.W.Frag}{tg:Expr}(it:Addr)(lo:Int)(n:Nat):Turn P w K tg (Itr lo n) [it] it (λi h=>IsRangeIter h it (lo+(i:Nat)*1) ((n:Int)-(i:Nat)) 1) where
 mem:=by simp
 obj:=λi h st b hb=>by
  have e:b=it:=by simpa using hb
  subst e
  exact⟨_,st,λv z=>by
   have z':Data.fields _=Data.cell v:=z
   cases z'⟩
 keep:=λi h h' st k=>k it (by simp) _ st
 item:=by
  intro X hP hw hK hc i pins s σ H E I hf st hg;subst hP hw hK;obtain⟨f0,f1,f2,f3,f4,f5⟩:=hf it (by simp);have W:=Walks.range (prog:=X.prog) (w:=X.w) (I.ok.hd hc) it lo 1 n;refine W.item i s _ _ hg st λv h' tk hv st' kk=>?_
  obtain⟨t,rfl⟩:=hv;have I1:Inv X pins σ H { s with heap:=h',toks:=tk }:=I.turned (λb o hb e=>kk b o (by simpa using hb) e) f0 f1 f3 f4 f5;refine⟨_,rfl,jo (s:={ s with heap:=h',toks:=tk }) (n:="range_iterator") st' rfl rfl (by decide) ⟨.int (lo+i),H,I1,⟨t,?_⟩,⟨rfl,rfl⟩,st',λb hb=>(hf b hb).1⟩⟩;rw[Hs]
 done:=by intro X hP hw hK hc i pins s σ H E I hf st hg;subst hP hw hK;obtain⟨f0,f1,f2,f3,f4,f5⟩:=hf it (by simp);exact wpAny_pyNext_range_end (I.ok.hd hc) st (by have:n<=i:=hg;omega) λh' eb=>⟨rfl,I.turned (t':=s.toks) (λb o hb e=>eb b o hb e) f0 f1 f3 f4 f5⟩
 self:=λ_ _ _ _ _ st h=>wpAny_pyIter_rangeiter st h
section
variable {X:Cx}{tg:Expr}
def tF(K:PySem.W.Frag)(tl:TE):TI:=λσ H R=>tl σ H λx H1=>∃a,x=.ref a/\(∃xs,SqL K H1 a xs)/\R (Itl K a) H1
theorem yy{l:Expr}{tl:TE}(hl:PE X l tl):PI X tg l (tF X.K tl):=by
 intro pins s σ H R I h;refine thn (hl pins s σ H _ I h) λv s1 ⟨x,H1,I1,r1,q1⟩=>?_
 obtain⟨a,e,⟨xs,hq⟩,q⟩:=q1;subst e;cases r1;obtain⟨its,rv,p,hz⟩:=I1.list hq;refine wpAny_pyIter_list p.isList ?_;refine⟨s1.heap.objs.size,[s1.heap.objs.size],_,_,H1,rfl,I1.kept (t':=s1.toks) λb o e=>Heap.get?_push_of_some _ e,vZ a _,⟨_,Heap.get?_push_size _ rfl,rfl,rfl⟩,λb hb=>?_,q⟩;have e:b=s1.heap.objs.size:=by simpa using hb
 subst e;exact I1.fpOk (GP _) (I1.hok.fresh (GP _))
theorem qO{pins:List (Addr×Obj)}{σ:St}{H:Hp}{s:Shared}{R:It->Hp->Prop}{E:Value->Shared->Prop}{lo hi:Int}{t u v:Tok}{tk:Nat}(I:Inv X pins σ H s)(h1 : -(2^62)<=lo)(h2:lo<2^62)(h3 : -(2^62)<=hi)(h4:hi<2^62)
 (q:R (Itr lo (hi-lo).toNat) H):wpAny (model X.prog X.w) X.A (pyIter (.ref s.heap.objs.size)) (PIE X pins σ tg R) E { s with heap:=s.heap.push { cls:=.type "range",data:=.fields #[.int lo t,.int hi u,.int 1 v] },toks:=tk }:=by
 refine wpAny_pyIter_range (IsRange.new ..) (small_one h1 h2 h3 h4) ?_;have I1:Inv X pins σ H { s with heap:=s.heap.push { cls:=.type "range",data:=.fields #[.int lo t,.int hi u,.int 1 v] },toks:=tk }:=I.kept λb o e=>Heap.get?_push_of_some _ e
 refine⟨(s.heap.push { cls:=.type "range",data:=.fields #[.int lo t,.int hi u,.int 1 v] }).objs.size,[(s.heap.push { cls:=.type "range",data:=.fields #[.int lo t,.int hi u,.int 1 v] }).objs.size],_,_,H,rfl,
  I1.kept (t':=tk) λb o e=>Heap.get?_push_of_some _ e,vY _ lo (hi-lo).toNat,?_,λb hb=>?_,q⟩
 ·have e1:lo+((0:Nat):Int)*1=lo:=by simp
  have e2:(((hi-lo).toNat:Nat):Int)-((0:Nat):Int)=Builtin.Range.rangeSize lo hi 1:=by rw[rangeSize_one];split<;>omega
  show IsRangeIter _ _ (lo+((0:Nat):Int)*1) ((((hi-lo).toNat:Nat):Int)-((0:Nat):Int)) 1;rw[e1,e2];exact Heap.get?_push_size _ rfl
 ·have e:b=(s.heap.push { cls:=.type "range",data:=.fields #[.int lo t,.int hi u,.int 1 v] }).objs.size:=by simpa using hb
  subst e;exact I1.fpOk (GP _) (I1.hok.fresh (GP _))
def BL(ta:TA):TI:=λσ H R=>ta σ H λvs H1=>∃j:Int,vs=[.int j] /\ -(2^62)<=j/\j<2^62/\R (Itr 0 j.toNat) H1
def BK(ta:TA):TI:=λσ H R=>ta σ H λvs H1=>∃i j:Int,vs=[.int i,.int j]/\(-(2^62)<=i/\i<2^62 /\ -(2^62)<=j/\j<2^62)/\R (Itr i (j-i).toNat) H1
theorem fV{a:Expr}{ta:TA}{p pos:Pos}(hg:Gl X "range")(hm:X.mg "range"=none)(ha:PA X [a] ta)(hs:starEach [a] X.env=[(false,eval a X.env)]:=by rfl):PI X tg (.Call (.Name "range" p) [a] [] pos) (BL ta):=by
 intro pins s σ H R I h;refine Call_ (dR I hg hm boot_range (PyProof.Rows.callWith_type1 (thn (ha pos pins s σ H _ I h) λus s1 ⟨vs,H1,I1,r1,q1⟩=>?_) hs rfl));obtain⟨j,e,q1,q2,q⟩:=q1;subst e;cases r1 with
 |cons r rr =>cases rr;obtain⟨t,rfl⟩:=r;exact call_range_1 (qO I1 (by omega) (by omega) q1 q2 (by simpa using q))
theorem yx{a b:Expr}{ta:TA}{p pos:Pos}(hg:Gl X "range")(hm:X.mg "range"=none)(ha:PA X [a,b] ta)(hs:starEach [a,b] X.env=[(false,eval a X.env),(false,eval b X.env)]:=by rfl)(hs2:starEach [b] X.env=[(false,eval b X.env)]:=by rfl) :
 PI X tg (.Call (.Name "range" p) [a,b] [] pos) (BK ta):=by
 intro pins s σ H R I h;refine Call_ (dR I hg hm boot_range (PyProof.Rows.callWith_type1 (thn (ha pos pins s σ H _ I h) λus s1 ⟨vs,H1,I1,r1,q1⟩=>?_) (by rw[hs,hs2]) (by rw[hs2];rfl)));obtain⟨i,j,e,⟨q1,q2,q3,q4⟩,q⟩:=q1;subst e;cases r1 with
 |cons r rr =>
  cases rr with
  |cons r' rr =>cases rr;obtain⟨t,rfl⟩:=r;obtain⟨t',rfl⟩:=r';exact call_range_2 (qO I1 q1 q2 q3 q4 q)
def ww(wi:TI)(g:TG)(tb:TS):TS:=λD σ H=>wi σ H λJ H1=>∃W:Nat->Nat->St->Hp->Prop,(∃m,W 0 m σ H1)/\∀i m σ H,W i m σ H ->
 (J.stop i H/\D.nx σ H)\/(J.go i H/\∃N:St->Hp->Prop,(∀σ' H',N σ' H'->∃m',m'<m/\W (i+1) m' σ' H')/\∀x H',J.yld i H x H'->g x σ H' λσ2 H2=>tb { D with nx:=N,ct:=N,bk:=D.nx } σ2 H2)
noncomputable def iU(fp:List Addr)(h:Heap):List (Addr×Obj):=fp.filterMap λb=>(h.get? b).map λo=>(b,o)
theorem ja{fp:List Addr}{h:Heap}{b:Addr}{o:Obj}(hb:b∈fp)(e:h.get? b=some o):(b,o)∈iU fp h:=List.mem_filterMap.mpr ⟨b,hb,by rw[e];rfl⟩
theorem zS{fp:List Addr}{h:Heap}{p:Addr×Obj}(hp:p∈iU fp h):p.1∈fp/\h.get? p.1=some p.2:=by
 obtain⟨b,hb,e⟩:=List.mem_filterMap.mp hp;cases q:h.get? b with
 |none=>rw[q]at e;cases e
 |some o =>rw[q]at e;have e':(b,o)=p:=Option.some.inj e;subst e';exact⟨hb,q⟩
theorem Inv.pinned{pins:List (Addr×Obj)}{σ:St}{H:Hp}{s:Shared}{fp:List Addr}(I:Inv X pins σ H s)(hf:∀b∈fp,dl X pins H b)(ho:∀b∈fp,∃o,s.heap.get? b=some o/\∀v,o.data≠.cell v):Inv X (pins++iU fp s.heap) σ H s :=
 I.pins_of λp hp=>(HK.mp hp).elim (λz=>I.pin p (Ht _ z)) λz=>by obtain⟨hb,e⟩:=zS z;obtain⟨f0,f1,f2,_⟩:=hf p.1 hb;obtain⟨o,e',d⟩:=ho p.1 hb;rw[e]at e';cases e';exact⟨e,f0,f1,f2,d⟩
theorem Inv.unpinned{pins pl:List (Addr×Obj)}{σ:St}{H:Hp}{s:Shared}(I:Inv X (pins++pl) σ H s):Inv X pins σ H s:=I.pins_of λp hp=>I.pin p (Ht _ (Ig _ hp))
theorem bP{iter:Expr}{body:List Stmt}{wi:TI}{g:TG}{tb:TS}{pos:Pos}(hp:PassesOwn (model X.prog X.w) X.A X.env X.xe)(hc:X.calm=true)(hi:PI X tg iter wi)(hg:PG X tg g)(hb:PSs X body tb)
 (hs:∀x,foldedSetIterable iter X.env x=pure x:=by intro _;rfl):PS X (.For tg iter body [] pos) (ww wi g tb):=by
 intro pins s σ H D I h;refine wpAny_For (thn (hi pins s σ H _ I h) λv s1 h1=>thn h1 λitv s2 h2=>?_) hs;obtain⟨it,fp,tn,J,H2,e,I2,T,st2,f2,W,⟨m0,w0⟩,turn⟩:=h2;subst e;have stat:∀{H':Hp},(∀b∈fp,H' b=none)->∀b∈fp,dl X pins H' b:=λhn b hb=>⟨hn b hb,(f2 b hb).2⟩
 refine codeAny_forLoop_any (λn s'=>∃i σ' H',Inv X pins σ' H' s'/\tn i s'.heap/\(∀b∈fp,H' b=none)/\W i n σ' H') ?_ m0 ⟨0,σ,H2,I2,st2,λb hb=>(f2 b hb).1,w0⟩;rintro n s3 ⟨i,σ3,H3,I3,st3,fr3,w3⟩;rcases turn i n σ3 H3 w3 with⟨stop,qn⟩ |⟨go,N,hN,step⟩
 ·refine wpAny_passesOwn hp (thn (T.done X rfl rfl rfl hc i pins s3 σ3 H3 X.xe I3 (stat fr3) st3 stop) λr s4 ⟨hr,I4⟩=>?_);subst hr;exact wpAny_execs_nil ⟨σ3,H3,I4,qn⟩
 ·refine wpAny_passesOwn hp (thn (T.item X rfl rfl rfl hc i pins s3 σ3 H3 X.xe I3 (stat fr3) st3 go) λr s4 ⟨u,hr,h4⟩=>?_);subst hr;refine wpAny_passesOwn hp (thn h4 λ_ s5 ⟨x,H5,I5,r5,y5,st5,fr5⟩=>?_);have I5':=I5.pinned (stat fr5) (T.obj _ _ st5);refine wpAny_passesOwn hp (thn (hg _ s5 σ3 H5 x u _ I5' r5 (step x H5 y5)) λ_ s6 ⟨σ6,H6,I6,q6⟩=>?_);refine wpAny_passesOwn hp (thn (hb _ s6 σ6 H6 _ I6 q6) λf s7 q7=>?_)
  have again:∀{σ7:St} {H7:Hp},Inv X (pins++iU fp s5.heap) σ7 H7 s7->N σ7 H7->∃m,m<n/\∃i σ' H',Inv X pins σ' H' s7/\tn i s7.heap/\(∀b∈fp,H' b=none)/\W i m σ' H':=λ{σ7 H7} I7 n7=>by obtain⟨m',hm,w7⟩:=hN σ7 H7 n7;refine⟨m',hm,i+1,σ7,H7,I7.unpinned,T.keep _ _ _ st5 λb hb o e=>(I7.pin (b,o) (Ht _ (Ht _ (ja hb e)))).1,λb hb=>?_,w7⟩;obtain⟨o,e,d⟩:=T.obj _ _ st5 b hb;exact(I7.pin (b,o) (Ht _ (Ht _ (ja hb e)))).2.1
  cases f with
  |next=>obtain⟨σ7,H7,I7,n7⟩:=q7;exact again I7 n7
  |cont=>obtain⟨σ7,H7,I7,n7⟩:=q7;exact again I7 n7
  |brk=>obtain⟨σ7,H7,I7,q7⟩:=q7;exact⟨σ7,H7,I7.unpinned,q7⟩
  |ret v=>obtain⟨x7,σ7,H7,I7,r7,q7⟩:=q7;exact⟨x7,σ7,H7,I7.unpinned,r7,q7⟩
end
theorem df{K:PySem.W.Frag}{a:Addr}{xs:List V}{g:TG}{tb:TS}{D:Ends}{σ:St}{H:Hp}(Pv:Nat->St->Hp->Prop)(h0:Pv 0 σ H)(hl:∀i σ H,i<=xs.length->Pv i σ H->SqL K H a xs)
 (hs:∀i x σ H,xs[i]?=some x->Pv i σ H->g x σ H λσ2 H2=>tb { D with nx:=Pv (i+1),ct:=Pv (i+1),bk:=D.nx } σ2 H2) (hd:∀σ H,Pv xs.length σ H->D.nx σ H) :
 ∃W:Nat->Nat->St->Hp->Prop,(∃m,W 0 m σ H)/\∀i m σ H,W i m σ H ->
  ((Itl K a).stop i H/\D.nx σ H)\/((Itl K a).go i H/\∃N:St->Hp->Prop,(∀σ' H',N σ' H'->∃m',m'<m/\W (i+1) m' σ' H')/\∀x H',(Itl K a).yld i H x H'->g x σ H' λσ2 H2=>tb { D with nx:=N,ct:=N,bk:=D.nx } σ2 H2):=by
 refine⟨λi m σ H=>m=xs.length-i/\i<=xs.length/\Pv i σ H,⟨xs.length,by simp,GR _,h0⟩,?_⟩;rintro i m σ H ⟨rfl,hi,p⟩;have q:=hl i σ H hi p;by_cases hlt:i<xs.length
 ·refine .inr ⟨⟨xs,xs[i],q,by simp[hlt]⟩,Pv (i+1),λσ' H' p'=>⟨xs.length-(i+1),by omega,rfl,hlt,p'⟩,λx H' y=>?_⟩;obtain⟨e,y⟩:=y;subst e;exact hs i x σ _ (y xs q) p
 ·have e:i=xs.length:=by omega
  subst e;exact .inl ⟨⟨xs,q,GP _⟩,hd σ H p⟩
theorem mL{lo:Int}{n:Nat}{g:TG}{tb:TS}{D:Ends}{σ:St}{H:Hp}(Pv:Nat->St->Hp->Prop)(h0:Pv 0 σ H)
 (hs:∀i σ H,i<n->Pv i σ H->g (.int (lo+i)) σ H λσ2 H2=>tb { D with nx:=Pv (i+1),ct:=Pv (i+1),bk:=D.nx } σ2 H2) (hd:∀σ H,Pv n σ H->D.nx σ H) :
 ∃W:Nat->Nat->St->Hp->Prop,(∃m,W 0 m σ H)/\∀i m σ H,W i m σ H ->
  ((Itr lo n).stop i H/\D.nx σ H)\/((Itr lo n).go i H/\∃N:St->Hp->Prop,(∀σ' H',N σ' H'->∃m',m'<m/\W (i+1) m' σ' H')/\∀x H',(Itr lo n).yld i H x H'->g x σ H' λσ2 H2=>tb { D with nx:=N,ct:=N,bk:=D.nx } σ2 H2):=by
 refine⟨λi m σ H=>m=n-i/\i<=n/\Pv i σ H,⟨n,by simp,GR _,h0⟩,?_⟩;rintro i m σ H ⟨rfl,hi,p⟩;by_cases hlt:i<n
 ·refine .inr ⟨hlt,Pv (i+1),λσ' H' p'=>⟨n-(i+1),by omega,rfl,hlt,p'⟩,λx H' y=>?_⟩;obtain⟨e,y⟩:=y;subst e y;exact hs i σ _ hlt p
 ·have e:i=n:=by omega
  subst e;exact .inl ⟨GP _,hd σ H p⟩
abbrev R2:=V->V->Hp->VK->Prop
noncomputable def OpR(X:Cx)(f:Value->Value->Sem Value)(r:R2):Prop :=
 ∀(pins:List (Addr×Obj)) (s:Shared) (σ:St) (H:Hp) (x y:V) (v u:Value) (Q:VK),Inv X pins σ H s->RelV x v->RelV y u->r x y H Q ->
  wpAny (model X.prog X.w) X.A (f v u) (EP X pins σ Q) X.xe s
noncomputable def UnR(X:Cx)(f:Value->Sem Value)(r:V->Hp->VK->Prop):Prop :=
 ∀(pins:List (Addr×Obj)) (s:Shared) (σ:St) (H:Hp) (x:V) (v:Value) (Q:VK),Inv X pins σ H s->RelV x v->r x H Q ->
  wpAny (model X.prog X.w) X.A (f v) (EP X pins σ Q) X.xe s
noncomputable def CallR(X:Cx)(f:Value)(r:List V->Hp->VK->Prop):Prop :=
 ∀(pins:List (Addr×Obj)) (s:Shared) (σ:St) (H:Hp) (xs:List V) (us:List Value) (Q:VK),Inv X pins σ H s->Vals xs us->r xs H Q ->
  wpAny (model X.prog X.w) X.A (call f us) (EP X pins σ Q) X.xe s
def tOp(r:R2)(ta tb:TE):TE:=λσ H Q=>ta σ H λx H1=>tb σ H1 λy H2=>r x y H2 Q
def tUn(r:V->Hp->VK->Prop)(ta:TE):TE:=λσ H Q=>ta σ H λx H1=>r x H1 Q
def rI(C:Int->Int->Prop)(g:Int->Int->V):R2:=λx y H Q=>∃i j,x=.int i/\y=.int j/\C i j/\Q (g i j) H
def rI0(g:Int->Int->V):R2:=λx y H Q=>∃i j,x=.int i/\y=.int j/\Q (g i j) H
noncomputable def rU(g:Int->V):V->Hp->VK->Prop:=λx H Q=>∃i,x=.int i/\Q (g i) H
section
variable {X:Cx}{a b c:Expr}{ta tb tc:TE}{pos:Pos}
theorem nC(ha:PE X a ta)(hb:PE X b tb){pins:List (Addr×Obj)}{s:Shared}{σ:St}{H:Hp}{R:V->V->Hp->Prop}(I:Inv X pins σ H s)
 (h:ta σ H λx H1=>tb σ H1 λy H2=>R x y H2) {Q:Value->Shared->Prop} {f:Value->Value->Sem Value}
 (hf:∀v u s2 x y H2,Inv X pins σ H2 s2->RelV x v->RelV y u->R x y H2->wpAny (model X.prog X.w) X.A (f v u) Q X.xe s2) :
 wpAny (model X.prog X.w) X.A (eval a X.env) (λv s₁=>wpAny (model X.prog X.w) X.A (eval b X.env) (λu s₂=>wpAny (model X.prog X.w) X.A (f v u) Q X.xe s₂) X.xe s₁) X.xe s:=by
 refine thn (ha pins s σ H _ I h) λv s1 ⟨x,H1,I1,r1,q1⟩=>?_
 refine thn (hb pins s1 σ H1 _ I1 q1) λu s2 ⟨y,H2,I2,r2,q2⟩=>?_
 exact hf v u s2 x y H2 I2 r1 r2 q2
theorem ag{op:Operator}{r:R2}(ho:OpR X (binaryOp op) r)(ha:PE X a ta)(hb:PE X b tb):PE X (.BinOp a op b pos) (tOp r ta tb):=by intro pins s σ H Q I h;exact wpAny_BinOp (nC ha hb I h λv u s2 x y H2 I2 rx ry q=>ho pins s2 σ H2 x y v u Q I2 rx ry q)
theorem ce{op:UnaryOp}{r:V->Hp->VK->Prop}(ho:UnR X (unaryOp op) r)(ha:PE X a ta):PE X (.UnaryOp op a pos) (tUn r ta):=by intro pins s σ H Q I h;exact UnaryOp_ (thn (ha pins s σ H _ I h) λv s1 ⟨x,H1,I1,r1,q1⟩=>ho pins s1 σ H1 x v Q I1 r1 q1)
theorem opI{f:Value->Value->Sem Value}{C:Int->Int->Prop}{g:Int->Int->Int}
 (rule:∀(i j:Int) (t u:Tok) (s:Shared) (Q:Value->Shared->Prop) (E:Value->Shared->Prop),C i j->Q (.int (g i j) s.toks) { s with toks:=s.toks+1 }->wpAny (model X.prog X.w) X.A (f (.int i t) (.int j u)) Q E s) :
 OpR X f (rI C λi j=>.int (g i j)):=by
 intro pins s σ H x y v u Q I rx ry h;obtain⟨i,j,rfl,rfl,hc,q⟩:=h;obtain⟨t,rfl⟩:=rx;obtain⟨t',rfl⟩:=ry;exact rule i j t t' s _ _ hc ⟨.int (g i j),H,I.tok _,⟨_,rfl⟩,q⟩
theorem rG{f:Value->Value->Sem Value}{g:Int->Int->Int}
 (rule:∀(i j:Int) (t u:Tok) (s:Shared) (Q:Value->Shared->Prop) (E:Value->Shared->Prop),Q (.int (g i j) s.toks) { s with toks:=s.toks+1 }->wpAny (model X.prog X.w) X.A (f (.int i t) (.int j u)) Q E s) :
 OpR X f (rI0 λi j=>.int (g i j)):=by
 intro pins s σ H x y v u Q I rx ry h;obtain⟨i,j,rfl,rfl,q⟩:=h;obtain⟨t,rfl⟩:=rx;obtain⟨t',rfl⟩:=ry;exact rule i j t t' s _ _ ⟨.int (g i j),H,I.tok _,⟨_,rfl⟩,q⟩
theorem fZ{f:Value->Value->Sem Value}{g:Int->Int->Bool}
 (rule:∀(i j:Int) (t u:Tok) (s:Shared) (Q:Value->Shared->Prop) (E:Value->Shared->Prop),Q (.bool (g i j)) s->wpAny (model X.prog X.w) X.A (f (.int i t) (.int j u)) Q E s) :
 OpR X f (rI0 λi j=>.bl (g i j)):=by
 intro pins s σ H x y v u Q I rx ry h;obtain⟨i,j,rfl,rfl,q⟩:=h;obtain⟨t,rfl⟩:=rx;obtain⟨t',rfl⟩:=ry;exact rule i j t t' s _ _ ⟨.bl (g i j),H,I,rfl,q⟩
def CMul(i j:Int):Prop:=(-(2^64)<i/\i<2^64)\/(-(2^64)<j/\j<2^64)
theorem CMul.ok{i j:Int}(h:CMul i j):IntMulOk i j:=by
 rcases h with⟨h1,h2⟩ |⟨h1,h2⟩
 ·exact .of_left (intBits_le_64 h1 h2)
 ·exact .of_right (intBits_le_64 h1 h2)
theorem bh:OpR X (binaryOp .Add) (rI0 λi j=>.int (i+j)):=rG λ_ _ _ _ _ _ _ q=>add_int q
theorem aW:OpR X (binaryOp .Sub) (rI0 λi j=>.int (i-j)):=rG λ_ _ _ _ _ _ _ q=>sub_int q
theorem fY:OpR X (binaryOp .Mult) (rI CMul λi j=>.int (i*j)):=opI λ_ _ _ _ _ _ _ hc q=>mul_int q hc.ok
theorem yN:OpR X (binaryOp .Mod) (rI (λ_ j=>0<j) λi j=>.int (i%j)):=opI λi j _ _ _ _ _ hc q=>by have h1:(0:Int)<j:=hc;exact mod_int' (by omega) (by rw[Int.fmod_eq_emod_of_nonneg i (by omega)];exact q)
theorem unI{f:Value->Sem Value}{g:Int->Int}
 (rule:∀(i:Int) (t:Tok) (s:Shared) (Q:Value->Shared->Prop) (E:Value->Shared->Prop),Q (.int (g i) s.toks) { s with toks:=s.toks+1 }->wpAny (model X.prog X.w) X.A (f (.int i t)) Q E s) :
 UnR X f (rU λi=>.int (g i)):=by
 intro pins s σ H x v Q I rx h;obtain⟨i,rfl,q⟩:=h;obtain⟨t,rfl⟩:=rx;exact rule i t s _ _ ⟨.int (g i),H,I.tok _,⟨_,rfl⟩,q⟩
theorem b8:UnR X (unaryOp .USub) (rU λi=>.int (-i)):=unI λ_ _ _ _ _ q=>neg_int q
end
section
variable {X:Cx}{a b c:Expr}{ta tb tc:TE}{pos:Pos}
theorem cC:OpR X (compareOp .Lt) (rI0 λi j=>.bl (decide (i<j))):=fZ λ_ _ _ _ _ _ _ q=>lt_int q
theorem gJ:OpR X (compareOp .LtE) (rI0 λi j=>.bl (decide (i<=j))):=fZ λ_ _ _ _ _ _ _ q=>le_int q
theorem cW:OpR X (compareOp .Gt) (rI0 λi j=>.bl (decide (j<i))):=fZ λ_ _ _ _ _ _ _ q=>gt_int q
theorem lE:OpR X (compareOp .GtE) (rI0 λi j=>.bl (decide (j<=i))):=fZ λ_ _ _ _ _ _ _ q=>ge_int q
theorem OpR.or{f:Value->Value->Sem Value}{r r':R2}(h:OpR X f r)(h':OpR X f r'):OpR X f (λx y H Q=>r x y H Q\/r' x y H Q):=by
 intro pins s σ H x y v u Q I rx ry q;rcases q with q |q
 ·exact h pins s σ H x y v u Q I rx ry q
 ·exact h' pins s σ H x y v u Q I rx ry q
theorem aw(b:Expr){op:CmpOp}(h:op≠.In:=by decide)(h2:op≠.NotIn:=by decide):behindInMarks op b=false:=by
 have e1:(op == CmpOp.In)=false:=by cases op<;>first |rfl |exact absurd rfl h
 have e2:(op == CmpOp.NotIn)=false:=by cases op<;>first |rfl |exact absurd rfl h2
 cases b<;>simp[behindInMarks,e1,e2]
theorem cV{op:CmpOp}{r:R2}(ho:OpR X (compareOp op) r)(ha:PE X a ta)(hb:PE X b tb)(hm:behindInMarks op b=false):PE X (.Compare a [op] [b] pos) (tOp r ta tb):=by intro pins s σ H Q I h;exact wpAny_Compare1 (nC ha hb I h λv u s2 x y H2 I2 rx ry q=>ho pins s2 σ H2 x y v u Q I2 rx ry q) hm
def wm(t:TE):TT:=λσ H Q=>t σ H λx H'=>∃k,x=.bl k/\Q k H'
theorem aC{op:CmpOp}{r:R2}(ho:OpR X (compareOp op) r)(ha:PE X a ta)(hb:PE X b tb)(hm:behindInMarks op b=false):PT X (.Compare a [op] [b] pos) (wm (tOp r ta tb)):=by
 intro pins s σ H Q I h
 refine wpAny_isTrue_Compare1 (thn (ha pins s σ H _ I h) λv s1 ⟨x,H1,I1,r1,q1⟩=>thn (hb pins s1 σ H1 _ I1 q1) λu s2 ⟨y,H2,I2,r2,q2⟩ =>thn (ho pins s2 σ H2 x y v u _ I2 r1 r2 q2) λc s3 ⟨z,H3,I3,r3,k,e,q3⟩=>?_) hm
 subst e;cases r3;exact wpAny_truthy_bool ⟨H3,I3,q3⟩
theorem jf:(sizeLine:Nat)<2^63:=by rw[sizeLine_eq];decide
theorem fF{x:V}{us:List Value}(r:Vals [x] us):∃u,us=[u]/\RelV x u:=by
 cases r with
 |cons r1 r2=>cases r2;exact⟨_,rfl,r1⟩
theorem vR{x y:V}{us:List Value}(r:Vals [x,y] us):∃u w',us=[u,w']/\RelV x u/\RelV y w':=by
 cases r with
 |cons r1 r2 =>
  cases r2 with
  |cons r3 r4=>cases r4;exact⟨_,_,rfl,r1,r3⟩
theorem gi:CallR X (.builtin "abs") (λxs H Q=>∃i,xs=[.int i]/\Q (.int (if i<0 then -i else i)) H):=by intro pins s σ H xs us Q I r h;obtain⟨i,rfl,q⟩:=h;obtain⟨u,rfl,t,rfl⟩:=fF r;exact call_abs_int λu tk=>⟨.int (if i<0 then -i else i),H,I.tok _,⟨_,rfl⟩,q⟩
theorem uY(hc:X.calm=true):CallR X (.builtin "max") (λxs H Q=>∃i j,xs=[.int i,.int j]/\Q (.int (if j>i then j else i)) H):=by
 intro pins s σ H xs us Q I r h;obtain⟨i,j,rfl,q⟩:=h;obtain⟨u,w',rfl,⟨t,rfl⟩,⟨t',rfl⟩⟩:=vR r;refine max_two_ints (I.ok.hd hc) λh' tk k=>⟨_,H,I.kept k,?_,q⟩
 by_cases hj:j>i
 ·rw[if_pos hj,if_pos hj];exact⟨_,rfl⟩
 ·rw[if_neg hj,if_neg hj];exact⟨_,rfl⟩
theorem Du:CallR X (.type "int") (λxs H Q=>(∃i,xs=[.int i]/\Q (.int i) H)\/∃k,xs=[.bl k]/\Q (.int (if k then 1 else 0)) H):=by
 intro pins s σ H xs us Q I r h;rcases h with⟨i,rfl,q⟩ |⟨k,rfl,q⟩
 ·obtain⟨u,rfl,t,rfl⟩:=fF r;exact call_int_int ⟨.int i,H,I,⟨_,rfl⟩,q⟩
 ·obtain⟨u,rfl,r1⟩:=fF r;cases r1;exact call_int_bool ⟨.int (if k then 1 else 0),H,I.tok _,⟨_,rfl⟩,q⟩
end
structure ObjM(h:Heap)(x dx C:Addr)(mA:Str->Option Value):Prop where
 obj:h.get? x=some (PySem.W.instObj C dx)
 ns:h.Ns1 dx mA
 ne:dx≠x
theorem AY{h:Heap}{dx:Addr}{mA:Str->Option Value}(n:h.Ns1 dx mA):∃od,h.get? dx=some od/\∀name,PySem.W.lookIn name od=some (mA name):=by
 obtain⟨o,es,ep,ho,hd,hk,_,hm⟩:=n;refine⟨o,ho,λname=>?_⟩;have e:=hm name;unfold nsFind findBy at e
 rw[<- Array.find?_toList]at e;unfold PySem.W.lookIn;rw[hd];dsimp only
 split
 ·rename_i y q
  rw[q]at e;exact congrArg some e
 ·rename_i q
  rw[q]at e
  have a:es.toList.any (·.refKey)=false:=by rw[List.any_eq_false];intro y hy;obtain⟨z,t,hkey⟩:=hk y (Array.mem_toList_iff.mp hy);simp[DictEntry.refKey,hkey]
  have a':¬es.toList.any (·.refKey)=true:=by rw[a];exact Ih
  rw[if_neg a'];exact congrArg some e
theorem ObjM.look{h:Heap}{x dx C:Addr}{mA:Str->Option Value}(I:ObjM h x dx C mA):∃od,PySem.W.InstAt h x (PySem.W.instObj C dx) C (some od)/\∀name,PySem.W.lookIn name od=some (mA name) :=
 let⟨od,ho,hl⟩:=AY I.ns
 ⟨od,⟨I.obj,rfl,rfl,ho⟩,hl⟩
section
variable {prog:Program}{w:World}{A:Around}{E:Value->Shared->Prop}{s:Shared}{K:PySem.W.Frag}{x dx C f:Addr}{mA:Str->Option Value}{name:Str}{v:Value}
theorem BW{expr:Bool}{Q:Value->Shared->Prop}(X:K.In s.heap)(I:ObjM s.heap x dx C mA)(hg:PySem.W.plainGet K C name=true)(hh:PySem.W.hasDictIn K C=true)
 (ha:PySem.W.findIn K (.ref C) name=some none) (hv:mA name=some v) (hv':PySem.W.handedIn v=true) (h:Q v { s with toks:=s.toks+1 }) :
 wpAny (model prog w) A (getAttr (.ref x) name expr) Q E s:=by
 obtain⟨od,J,hl⟩:=I.look;exact PySem.W.get_value X J (PySem.W.plainGet_of hg).1 (PySem.W.findObj_own hh ha rfl (by rw[hl,hv])) hv' h
theorem BV{pl:Sem Bool}{Q:Value×List Value->Shared->Prop}(X:K.In s.heap)(I:ObjM s.heap x dx C mA)(hg:PySem.W.plainGet K C name=true)
 (hf:PySem.W.findIn K (.ref C) name=some (some (.ref f))) (ht:PySem.W.isFn K (.ref f)=true) (hv:mA name=none) (h:Q (.ref f,[.ref x]) s) :
 wpAny (model prog w) A (getMethod (.ref x) name pl) Q E s:=by
 obtain⟨od,J,hl⟩:=I.look;exact PySem.W.method_fn X J (PySem.W.plainGet_of hg).1 (PySem.W.plainGet_of hg).2 hf (beq_iff_eq.mp ht) (by show(PySem.W.lookIn name od).map (·.isSome)=some false;rw[hl,hv];rfl) h
theorem xf{ns:List Str}{Q:Unit->Shared->Prop}(X:K.In s.heap)(I:ObjM s.heap x dx C mA)
 (hs:PySem.W.findIn K (.ref C) "__setattr__"=some (some (.builtin "object.__setattr__"))) (hp:PySem.W.plainOver K C=true) (ht:PySem.W.takerIn K C name=some none) (hh:PySem.W.hasDictIn K C=true)
 (hw:PySem.Within mA ns) (hsz:ns.length<=sizeLine)
 (h:∀h',ObjM h' x dx C (λy=>if y=name then some v else mA y)->Heap.SameBut dx s.heap h'->Q () { s with heap:=h',toks:=s.toks+2 }) :
 wpAny (model prog w) A (setAttr (.ref x) name v) Q E s:=by
 obtain⟨od,J,hl⟩:=I.look;refine PySem.W.set_plain X J hs (PySem.W.osa_open (s:={ s with toks:=s.toks+1 }) (r:=none) X J hp ht λb=>?_);obtain⟨cd,hc,hd'⟩:=PySem.W.any_some hh;have hx:s.heap.get? x=some ⟨.ref C,some dx,.plain,#[]⟩:=I.obj;refine wpAny_bind (wpAny_pure (wpAny_bind (wpAny_bind (wpAny_loadPart hx (wpAny_bind (PySem.W.Looks.here (s:={ s with toks:=s.toks+1 }) (PySem.W.looks_clsIn X hc) ?_))))));rw[hd'];refine wpAny_pure (a:=some dx) (wpAny_bind (wpAny_pure (wpAny_bind ?_)));refine wpAny_nsSet1 (s:={ s with toks:=s.toks+1 }) I.ns λh' hn2 hs2=>?_
 obtain⟨oD,esD,epD,hoD,hdD,hcD⟩:=hn2.count (PySem.Within.cons name v hw);refine wpAny_bind (wpAny_lookBehind hoD (by rw[hdD];exact pastItsLine_dict (GW hcD (by rw[Hl];omega))) ?_);exact wpAny_pure (h _ ⟨(hs2.2 _ (Ne.symm I.ne)).trans I.obj,hn2,I.ne⟩ hs2)
theorem Au{R:Result->Shared->Prop}{vs:List Value}{kw:List (Str×Value)}(X:K.In s.heap)(hm:PySem.W.makesIn K C=true)
 (hi:PySem.W.findIn K (.ref C) "__init__"=some (some (.ref f))) (hf:PySem.W.typeIn K (.ref f)=some (.type "function"))
 (h:codeAny (model prog w) (A.under (.builtin "type.__call__" ⟨.ref C::vs,kw⟩)) (.call (.ref f) ⟨.ref (s.heap.objs.size+1)::vs,kw⟩) (PySem.W.InitBack (s.heap.objs.size+1) R)
   { s with heap:=(s.heap.push PySem.W.emptyDict).push (PySem.W.instObj C s.heap.objs.size) }) :
 codeAny (model prog w) A (.call (.ref C) ⟨vs,kw⟩) R s:=by
 obtain⟨hh,g,d,t,os⟩:=s;exact PySem.W.make_core (PySem.W.makes_of X hm) (PySem.W.looks_findIn X hi) (λself=>PySem.W.bind_fn X self hf) (.inl rfl) h
end
noncomputable def bR(f:Str)(v:V):List (Str×V)->List (Str×V)
 | []=>[(f,v)]
 | (g,x)::r=>if g=f then(g,v)::r else(g,x)::bR f v r
theorem cG(f g:Str)(v:V):∀fs:List (Str×V),(bR f v fs).lookup g=if g=f then some v else fs.lookup g
 | []=>by
  show List.lookup g [(f,v)]=_;by_cases h:g=f
  ·have hb:(g == f)=true:=beq_iff_eq.mpr h;simp only[List.lookup,hb,if_pos h]
  ·have hb:(g == f)=false:=beq_eq_false_iff_ne.mpr h;simp only[List.lookup,hb,if_neg h]
 | (k,x)::r=>by
  have ih:=cG f g v r;rw[show bR f v ((k,x)::r)=(if k=f then(k,v)::r else(k,x)::bR f v r)from rfl];by_cases hk:k=f
  ·rw[if_pos hk];by_cases h:g=k
   ·have hb:(g == k)=true:=beq_iff_eq.mpr h;simp only[List.lookup,hb,if_pos (h.trans hk)]
   ·have hb:(g == k)=false:=beq_eq_false_iff_ne.mpr h;simp only[List.lookup,hb,if_neg (λe:g=f=>h (e.trans hk.symm))]
  ·rw[if_neg hk];by_cases h:g=k
   ·have hb:(g == k)=true:=beq_iff_eq.mpr h;simp only[List.lookup,hb,if_neg (λe:g=f=>hk (h.symm.trans e))]
   ·have hb:(g == k)=false:=beq_eq_false_iff_ne.mpr h;simp only[List.lookup,hb];exact ih
theorem mh(f:Str)(v:V):∀fs:List (Str×V),f∈(bR f v fs).map (·.1)/\∀g,g∈fs.map (·.1)->g∈(bR f v fs).map (·.1)
 | []=>⟨by simp[bR],λg h=>by simp at h⟩
 | (k,x)::r=>by
  obtain⟨i1,i2⟩:=mh f v r;rw[show bR f v ((k,x)::r)=(if k=f then(k,v)::r else(k,x)::bR f v r)from rfl];by_cases hk:k=f
  ·rw[if_pos hk];subst hk;exact⟨by simp,λg h=>by simpa using h⟩
  ·rw[if_neg hk];refine⟨?_,λg h=>?_⟩
   ·rw[HC];exact GU _ i1
   ·rw[HC]at h ⊢;rcases GX.mp h with e |e
    ·exact GX.mpr (.inl e)
    ·exact GU _ (i2 g e)
theorem sO(f:Str)(v:V):∀fs:List (Str×V),(bR f v fs).length<=fs.length+1
 | []=>by simp[bR]
 | (k,x)::r=>by
  have ih:=sO f v r;rw[show bR f v ((k,x)::r)=(if k=f then(k,v)::r else(k,x)::bR f v r)from rfl];by_cases hk:k=f
  ·rw[if_pos hk,Hl,Hl];omega
  ·rw[if_neg hk,Hl,Hl];omega
theorem RelO.some_of{v:V}{o:Option Value}(r:RelO (some v) o):∃u,o=some u/\RelV v u:=by
 cases o with
 |none=>exact(show False from r).elim
 |some u=>exact⟨u,rfl,r⟩
theorem RelO.none_of{o:Option Value}(r:RelO none o):o=none:=by
 cases o with
 |none=>rfl
 |some u=>exact(show False from r).elim
theorem BQ{v:V}{u:Value}(r:RelV v u):PySem.W.handedIn u=true:=by
 cases v with
 |non=>cases(show u=Value.none from r);rfl
 |bl b=>cases(show u=Value.bool b from r);rfl
 |int i=>obtain⟨t,e⟩:=(show ∃t,u=Value.int i t from r);cases e;rfl
 |str x=>obtain⟨t,e⟩:=(show ∃t,u=Value.str x t from r);cases e;rfl
 |byt b=>obtain⟨t,e⟩:=(show ∃t,u=Value.bytes b t from r);cases e;rfl
 |flt b=>obtain⟨t,e⟩:=(show ∃t,u=Value.float b t from r);cases e;rfl
 |ref a=>cases(show u=Value.ref a from r);rfl
 |ty n=>cases(show u=Value.type n from r);rfl
section
variable {P:Program}{w:World}{H H':Hp}{h h':Heap}{a C dx:Addr}{fs fs':List (Str×V)}
theorem jm(hok:HOk P w H h)(e:H a=some (.ins C dx fs)):∃mA,ObjM h a dx C mA/\(∀f,RelO (fs.lookup f) (mA f))/\PySem.Within mA (fs.map (·.1))/\fs.length<=1000/\H dx=some (.own a):=by obtain⟨d,z,ne,ob,mA,n,r,q⟩:=(show ObjOk P w H h a (.ins C dx fs)from hok a _ e);exact⟨mA,⟨ob,n,ne⟩,r,q,z,d⟩
end
structure Cls(K:PySem.W.Frag)(C:Addr):Prop where
 pg:PySem.W.plainGet K C Str.empty=true
 hd:PySem.W.hasDictIn K C=true
 po:PySem.W.plainOver K C=true
 sa:PySem.W.findIn K (.ref C) "__setattr__"=some (some (.builtin "object.__setattr__"))
theorem Cls.get{K:PySem.W.Frag}{C:Addr}(c:Cls K C)(f:Str):PySem.W.plainGet K C f=true:=c.pg
def NoAttr(K:PySem.W.Frag)(C:Addr)(f:Str):Prop:=PySem.W.findIn K (.ref C) f=some none
theorem NoAttr.taker{K:PySem.W.Frag}{C:Addr}{f:Str}(n:NoAttr K C f):PySem.W.takerIn K C f=some none:=by unfold PySem.W.takerIn;rw[show PySem.W.findIn K (.ref C) f=some none from n];rfl
structure Meth(K:PySem.W.Frag)(C:Addr)(m:Str)(f:Addr):Prop where
 at_:PySem.W.findIn K (.ref C) m=some (some (.ref f))
 fn:PySem.W.isFn K (.ref f)=true
 kp:PySem.W.keepIn K (.ref f)=true
section
variable {X:Cx}{pins:List (Addr×Obj)}{σ:St}{H:Hp}{s:Shared}{a C dx:Addr}{fs:List (Str×V)}{f:Str}{v:V}{A:Around}{E:Value->Shared->Prop}
theorem BT{b:Bool}{Q:Value->Shared->Prop}(I:Inv X pins σ H s)(e:H a=some (.ins C dx fs))(c:Cls X.K C)(n:NoAttr X.K C f)(l:fs.lookup f=some v)
 (h:∀u s',Inv X pins σ H s'->RelV v u->Q u s'):wpAny (model X.prog X.w) A (getAttr (.ref a) f b) Q E s:=by
 obtain⟨mA,O,r,_,_,_⟩:=jm I.hok e;obtain⟨u,hu,ru⟩:=RelO.some_of (v:=v) (o:=mA f) (by rw[<- l];exact r f);exact BW I.kIn O (c.get f) c.hd n hu (BQ ru) (h u _ (I.tok _) ru)
theorem BS{m:Str}{g:Addr}{pl:Sem Bool}{Q:Value×List Value->Shared->Prop}(I:Inv X pins σ H s)(e:H a=some (.ins C dx fs))(c:Cls X.K C)(k:Meth X.K C m g)(l:fs.lookup m=none)
 (h:Q (.ref g,[.ref a]) s):wpAny (model X.prog X.w) A (getMethod (.ref a) m pl) Q E s:=by
 obtain⟨mA,O,r,_,_,_⟩:=jm I.hok e;have hn:mA m=none:=RelO.none_of (by rw[<- l];exact r m);exact BV I.kIn O (c.get m) k.at_ k.fn hn h
theorem xc{y:V}{u:Value}{Q:Unit->Shared->Prop}(I:Inv X pins σ H s)(e:H a=some (.ins C dx fs))(c:Cls X.K C)(n:NoAttr X.K C f)(hl:fs.length<1000)(ry:RelV y u)
 (h:∀s',Inv X pins σ (upd H a (.ins C dx (bR f y fs))) s'->Q () s'):wpAny (model X.prog X.w) A (setAttr (.ref a) f u) Q E s:=by
 obtain⟨mA,O,r,wi,_,ho⟩:=jm I.hok e;have hz:(fs.map (·.1)).length<=sizeLine:=by rw[GO,sizeLine_eq];omega
 refine xf I.kIn O c.sa c.po n.taker c.hd wi hz λh' O' sb=>h _ ?_
 have hd:∃o,h'.get? dx=some o:=let⟨o,_,_,e',_⟩:=O'.ns;⟨o,e'⟩;refine I.write (x:=a) (e:=dx) (by rw[e];exact True.intro) (.inr ho) (λb q hb z=>(sb.2 b hb).trans z) hd ?_;refine⟨by rw[upd_ne O.ne];exact ho,?_,O.ne,O'.obj,_,O'.ns,λg=>?_,λg hg=>?_⟩
 ·have:=sO f y fs;omega
 ·show RelO ((bR f y fs).lookup g) (if g=f then some u else mA g);rw[cG];by_cases q:g=f
  ·rw[if_pos q,if_pos q];exact ry
  ·rw[if_neg q,if_neg q];exact r g
 ·by_cases q:g=f
  ·rw[q];exact(mh f y fs).1
  ·refine(mh f y fs).2 g (wi g λz=>hg ?_);show(if g=f then some u else mA g)=none;rw[if_neg q];exact z
theorem Inv.made(I:Inv X pins σ H s):Inv X pins σ (upd (upd H s.heap.objs.size (.own (s.heap.objs.size+1))) (s.heap.objs.size+1) (.ins C s.heap.objs.size []))
 { s with heap:=(s.heap.push PySem.W.emptyDict).push (PySem.W.instObj C s.heap.objs.size) }:=by
 have e1:(s.heap.push PySem.W.emptyDict).get? s.heap.objs.size=some PySem.W.emptyDict:=Heap.get?_push_size s.heap rfl
 have e2:((s.heap.push PySem.W.emptyDict).push (PySem.W.instObj C s.heap.objs.size)).get? (s.heap.objs.size+1)=some (PySem.W.instObj C s.heap.objs.size):=by
  have:=Heap.get?_push_size (s.heap.push PySem.W.emptyDict) (o:=PySem.W.instObj C s.heap.objs.size) rfl
  rwa [Heap.size_push]at this
 have e3:(s.heap.push PySem.W.emptyDict).Ns s.heap.objs.size (λ_=>none):=⟨PySem.W.emptyDict,#[],_,e1,rfl,(λe he=>absurd he (by simp)),λ_=>rfl⟩;have I1:=I.laid (a:=s.heap.objs.size) (o:=.own (s.heap.objs.size+1)) (h':=s.heap.push PySem.W.emptyDict) (t':=s.toks) (λb u q=>Heap.get?_push_of_some _ q) (GP _) ⟨_,e1⟩;refine I1.laid (a:=s.heap.objs.size+1) (o:=.ins C s.heap.objs.size []) (t':=s.toks) (λb u q=>Heap.get?_push_of_some _ q) (Ii (Heap.size_push _ _)) ?_;have ne:s.heap.objs.size≠s.heap.objs.size+1:=G6 (HU _);refine⟨by rw[upd_ne ne,ar],GR _,ne,e2,λ_=>none,(Heap.Ns1.of_empty e3).at λo q=>Heap.get?_push_of_some _ q,λ_=>True.intro,λy hy=>absurd rfl hy⟩
theorem DW{prog:Program}{w:World}{env:Env}{e:Expr}{f:Str}{pos:Pos}{s:Shared}{Q:Value->Shared->Prop}(hb:attributeBase e f env (eval e env)=eval e env)
 (h:wpAny (model prog w) A (eval e env) (λo s₁=>wpAny (model prog w) A (getAttr o f true) Q E s₁) E s):wpAny (model prog w) A (eval (.Attribute e f pos) env) Q E s :=
 Attribute_any_ h (by rw[arm_eval_Attribute,hb])
end
def oX(K:PySem.W.Frag)(ta:TE)(f:Str):TE:=λσ H Q=>ta σ H λx H1=>∃a C dx fs v,x=.ref a/\H1 a=some (.ins C dx fs)/\Cls K C/\NoAttr K C f/\fs.lookup f=some v/\Q v H1
def xC(K:PySem.W.Frag)(ta tv:TE)(f:Str):TS:=λD σ H=>tv σ H λy H1=>ta σ H1 λx H2=>∃a C dx fs,x=.ref a/\H2 a=some (.ins C dx fs)/\Cls K C/\NoAttr K C f/\fs.length<1000 /\
 D.nx σ (upd H2 a (.ins C dx (bR f y fs)))
section
variable {X:Cx}{o e value:Expr}{f:Str}{pos pos' tpos:Pos}{ta tv:TE}
theorem yF(he:PE X e ta)(hb:attributeBase e f X.env (eval e X.env)=eval e X.env):PE X (.Attribute e f pos) (oX X.K ta f):=by intro pins s σ H Q I h;refine DW hb (thn (he pins s σ H _ I h) λu s1 ⟨x,H1,I1,rx,a,C,dx,fs,v,ex,ea,c,n,l,q⟩=>?_);subst ex;obtain rfl:u=Value.ref a:=rx;exact BT I1 ea c n l λu' s2 I2 ru=>⟨v,H1,I2,ru,q⟩
theorem gF(ha:PE X o ta)(hv:PE X value tv)(hs:swapsWith value (some (.Attribute o f pos')) pos.line X.env=pure false):PS X (.Assign [.Attribute o f pos'] value pos) (xC X.K ta tv f):=by intro pins s σ H D I h;refine plainObj_wpAny_Assign_Attribute (thn (hv pins s σ H _ I h) λu s1 ⟨y,H1,I1,ry,q⟩=>thn (ha pins s1 σ H1 _ I1 q) λov s2 ⟨x,H2,I2,rx,a,C,dx,fs,ex,ea,c,n,l,q2⟩=>?_) hs;subst ex;obtain rfl:ov=Value.ref a:=rx;exact xc I2 ea c n l ry λs3 I3=>⟨σ,_,I3,q2⟩
end
section
variable {X:Cx}{pins:List (Addr×Obj)}{σ:St}{H:Hp}{s:Shared}{A:Around}{E:Value->Shared->Prop}{Q:Value->Shared->Prop}{c:Value}{b:Bool}
inductive TyOf(K:PySem.W.Frag)(H:Hp):V->Value->Prop where
 |non:TyOf K H .non (.type "NoneType")
 |bl (x:Bool):TyOf K H (.bl x) (.type "bool")
 |int (i:Int):TyOf K H (.int i) (.type "int")
 |str (x:Str):TyOf K H (.str x) (.type "str")
 |flt (x:UInt64):TyOf K H (.flt x) (.type "float")
 |lst {a:Addr} {xs:List V} (e:H a=some (.lst xs)):TyOf K H (.ref a) (.type "list")
 |frz {a:Addr} {o:Obj} {xs:List V} (e:H a=some (.frz o (.lst xs))):TyOf K H (.ref a) (.type "list")
 |tup {a:Addr} {xs:List V} (e:H a=some (.tup xs)):TyOf K H (.ref a) (.type "tuple")
 |dK {a:Addr} {kvs:List (Key×V)} (e:H a=some (.dK kvs)):TyOf K H (.ref a) (.type "dict")
 |dT {a:Addr} {kvs:List (List Key×V)} (e:H a=some (.dT kvs)):TyOf K H (.ref a) (.type "dict")
 |ins {a C dx:Addr} {fs:List (Str×V)} (e:H a=some (.ins C dx fs)) (cl:Cls K C) (ha:PySem.W.findIn K (.ref C) "__class__"=some (some (.builtin "object.__class__")))
  (hn:PySem.W.specialIn K (.builtin "object.__class__") "__get__"=some (some (.builtin "getset_descriptor.__get__"))) (htk:PySem.W.takesIn K (.builtin "object.__class__")=some true)
  (hm:PySem.W.mroIn K C (.type "object")=some true):TyOf K H (.ref a) (.ref C)
theorem BG{x:V}{u t:Value}(I:Inv X pins σ H s)(rx:RelV x u)(ty:TyOf X.K H x t)(e:PySem.W.kitOne X.K t c=some b)(h:∀tk,Q (.bool b) { s with toks:=tk }) :
 wpAny (model X.prog X.w) A (call (.builtin "isinstance") [u,c]) Q E s:=by
 cases ty with
 |non=>cases(show u=Value.none from rx);exact PySem.W.kia_one PySem.W.kitx_none I.kIn True.intro e (λz=>nomatch z) h
 |bl y=>cases(show u=Value.bool y from rx);exact PySem.W.kia_one PySem.W.kitx_bool I.kIn True.intro e (λz=>nomatch z) h
 |int i=>obtain⟨t,q⟩:=(show ∃t,u=Value.int i t from rx);cases q;exact PySem.W.kia_one PySem.W.kitx_int I.kIn True.intro e (λz=>nomatch z) h
 |str y=>obtain⟨t,q⟩:=(show ∃t,u=Value.str y t from rx);cases q;exact PySem.W.kia_one PySem.W.kitx_str I.kIn True.intro e (λz=>nomatch z) h
 |flt y=>obtain⟨t,q⟩:=(show ∃t,u=Value.float y t from rx);cases q;exact PySem.W.kia_one PySem.W.kitx_float I.kIn True.intro e (λz=>nomatch z) h
 | @lst a xs ea =>cases(show u=Value.ref a from rx);obtain⟨_,_,n,_,h1⟩:=(show ObjOk X.prog X.w H s.heap a (.lst xs)from I.hok a _ ea);exact PySem.W.kia_one PySem.W.kitx_list I.kIn ⟨_,h1,rfl⟩ e (λz=>nomatch z) h
 | @frz a ob xs ea =>cases(show u=Value.ref a from rx);obtain⟨_,_,_,n,_,h1⟩:=(show ObjOk X.prog X.w H s.heap a (.frz ob (.lst xs))from I.hok a _ ea);exact PySem.W.kia_one PySem.W.kitx_list I.kIn ⟨_,h1,rfl⟩ e (λz=>nomatch z) h
 | @tup a xs ea =>cases(show u=Value.ref a from rx);obtain⟨_,_,_,p⟩:=(show ObjOk X.prog X.w H s.heap a (.tup xs)from I.hok a _ ea);obtain⟨o,h1,h2,_⟩:=p;exact PySem.W.kia_one PySem.W.kitx_tuple I.kIn ⟨o,h1,h2⟩ e (λz=>nomatch z) h
 | @dK a kvs ea =>cases(show u=Value.ref a from rx);obtain⟨_,_,vs,_,p⟩:=(show ObjOk X.prog X.w H s.heap a (.dK kvs)from I.hok a _ ea);obtain⟨o,es,ep,h1,h2,_⟩:=p;exact PySem.W.kia_one PySem.W.kitx_dict I.kIn ⟨o,h1,h2.1⟩ e (λz=>nomatch z) h
 | @dT a kvs ea =>cases(show u=Value.ref a from rx);obtain⟨_,_,xs,_,o,es,ep,h1,h2,_⟩:=(show ObjOk X.prog X.w H s.heap a (.dT kvs)from I.hok a _ ea);exact PySem.W.kia_one PySem.W.kitx_dict I.kIn ⟨o,h1,h2.1⟩ e (λz=>nomatch z) h
 | @ins a C dx fs ea cl ha hn htk hm =>cases(show u=Value.ref a from rx);obtain⟨mA,O,_⟩:=jm I.hok ea;obtain⟨od,J,_⟩:=O.look;exact PySem.W.kia_one (PySem.W.kitx_own (cl.get _) cl.hd ha hn htk hm) I.kIn J e (λz=>nomatch z) h
end
structure Room(k:Nat)(A:Around):Prop where
 hd:A.handled=none
 dp:A.depth+3*k+5<recursionLimit
 un:A.units+16*k+200<cLine
theorem Room.mono{j k:Nat}{A:Around}(r:Room k A)(h:j<=k:=by decide):Room j A:=⟨r.hd,by have:=r.dp;omega,by have:=r.un;omega⟩
theorem Room.deeper{k:Nat}{A:Around}(r:Room (k+1) A)(env:Env):Room k (A.deeper env) :=
 ⟨r.hd,by have:=r.dp;show A.depth+1+3*k+5<_;omega,by have:=r.un;show A.units+3+16*k+200<_;omega⟩
theorem Room.in1{k:Nat}{A:Around}(r:Room (k+1) A):Room k A.in1 :=
 ⟨r.hd,by have:=r.dp;show A.depth+3*k+5<_;omega,by have:=r.un;show A.units+1+16*k+200<_;omega⟩
theorem Av{A:Around}{C:Addr}{us:List Value}{kw:List (Str×Value)}:(A.under (.builtin "type.__call__" ⟨.ref C::us,kw⟩)).depth=A.depth+1:=by first |rfl |simp[Around.under,Code.weight,Code.isCreation,Code.isGuard,Code.isCaller,Code.frames,Code.isFrame,guardIds]
theorem As{A:Around}{C:Addr}{us:List Value}{kw:List (Str×Value)}:(A.under (.builtin "type.__call__" ⟨.ref C::us,kw⟩)).units=A.units+1:=by first |rfl |simp[Around.under,Code.cUnits,Code.frames,Code.isFrame]
theorem Room.make{k:Nat}{A:Around}(r:Room (k+1) A)(C:Addr)(us:List Value)(kw:List (Str×Value)):Room k (A.under (.builtin "type.__call__" ⟨.ref C::us,kw⟩)) :=
 ⟨r.hd,by have:=r.dp;rw[Av];omega,by have:=r.un;rw[As];omega⟩
theorem Room.depth{k:Nat}{A:Around}(r:Room k A):A.depth<recursionLimit:=by have:=r.dp;omega
theorem Room.units{k:Nat}{A:Around}(r:Room k A):A.units+64<cLine:=by have:=r.un;omega
def oV:TA:=λ_ H Q=>Q [] H
def jQ(ta:TE)(tr:TA):TA:=λσ H Q=>ta σ H λx H1=>tr σ H1 λxs H2=>Q (x::xs) H2
section
variable {X:Cx}{e:Expr}{es:List Expr}{te:TE}{t:TA}{pos:Pos}
theorem ad:PA X [] oV:=λ_ _ _ _ H Q I h=>Calls.spliced_nil ⟨[],H,I,.nil,h⟩
theorem aa(ha:PE X e te)(hr:PA X es t)(hs:starEach (e::es) X.env=(false,eval e X.env)::starEach es X.env:=by rfl):PA X (e::es) (jQ te t):=by intro pos pins s σ H Q I h;rw[hs];show wpAny _ _ (spliced ((false,eval e X.env)::backTo pos (starEach es X.env))) _ _ s;refine Calls.spliced_cons (thn (ha pins s σ H _ I h) λu s1 ⟨x,H1,I1,r1,q1⟩=>?_);exact thn (hr pos pins s1 σ H1 _ I1 q1) λus s2 ⟨xs,H2,I2,r2,q2⟩=>⟨x::xs,H2,I2,.cons r1 r2,q2⟩
def wk(t:TA):TE:=λσ H Q=>t σ H λxs H1=>xs.length<=sizeLine/\∀p,H1 p=none->Q (.ref p) (upd H1 p (.tup xs))
def wv(t:TA):TE:=λσ H Q=>t σ H λxs H1=>xs.length<=sizeLine/\∀p,H1 p=none->Q (.ref p) (upd H1 p (.lst xs))
theorem cz{x1}(h:PA X es t):PE X (.Tuple es x1 pos) (wk t):=by intro pins s σ H Q I hq;refine wpAny_Tuple_spliced (thn (h pos pins s σ H _ I hq) λus s1 ⟨xs,H1,I1,r,z,q⟩=>⟨by rw[<- r.length];exact z,?_⟩);have hf:H1 s1.heap.objs.size=none:=I1.hok.fresh (GP _);refine⟨.ref s1.heap.objs.size,upd H1 s1.heap.objs.size (.tup xs),I1.laid (t':=s1.toks) (λb u e=>Heap.get?_push_of_some _ e) (GP _) ?_,rfl,q _ hf⟩;exact⟨z,us,r,⟨_,Heap.get?_push_size _ rfl,rfl,_,rfl⟩⟩
theorem bz(h:PA X es t):PE X (.List es pos) (wv t):=by intro pins s σ H Q I hq;refine wpAny_List_spliced (thn (h pos pins s σ H _ I hq) λus s1 ⟨xs,H1,I1,r,z,q⟩=>⟨by rw[<- r.length];exact z,?_⟩);have hf:H1 s1.heap.objs.size=none:=I1.hok.fresh (GP _);refine⟨.ref s1.heap.objs.size,upd H1 s1.heap.objs.size (.lst xs),I1.laid (t':=s1.toks) (λb u e=>Heap.get?_push_of_some _ e) (GP _) ?_,rfl,q _ hf⟩;exact⟨z,us,0,r,Heap.get?_push_size _ rfl⟩
end
abbrev Sp:=List V->Hp->VK->XK->Prop
abbrev CXT:=List Env->Hp->Shared->XK->Value->Shared->Prop
structure Env0(P:Program)(w:World)(K:PySem.W.Frag)(mg:Str->Option Value)(base:Heap)(A:Around)(outer:List Env)(s:Shared)(H:Hp):Prop where
 frames:A.frames=some outer
 mod:Mod K mg base
 bs:∀b o,base.get? b=some o->s.heap.get? b=some o/\H b=none
 bsz:base.objs.size<=s.heap.objs.size
 funs:s.heap.FunFrames base outer
 frf:∀b∈frs outer,H b=none
 hok:HOk P w H s.heap
 bare:AllBare s.gens
noncomputable def CE(outer:List Env)(P:Program)(w:World)(H:Hp)(s:Shared)(Q:VK)(u:Value)(s':Shared):Prop :=
 ∃v H',s'.os=s.os/\AllBare s'.gens/\Un (frs outer) [] H H' s.heap s'.heap/\HOk P w H' s'.heap/\RelV v u/\Q v H'
noncomputable def CR(CX:CXT)(outer:List Env)(P:Program)(w:World)(H:Hp)(s:Shared)(Q:VK)(E:XK)(r:Result)(s':Shared):Prop :=
 match r with
 |.ok (.ret u)=>CE outer P w H s Q u s'
 |.ok _=>False
 |.error e=>CX outer H s E e s'
structure FnOk(P:Program)(w:World)(K:PySem.W.Frag)(mg:Str->Option Value)(base:Heap)(CX:CXT)(k:Nat)(f:Addr)(fd:FuncData)(ps:List Str)(sp:Sp):Prop where
 len:∀vs H Q E,sp vs H Q E->vs.length=ps.length
 run:∀(A:Around) (outer:List Env) (s:Shared) (H:Hp) (args:Args) (us:List Value) (vs:List V) (Q:VK) (E:XK),Room k A->Env0 P w K mg base A outer s H->BindsTo s fd args (ps.zip us)->Vals vs us->sp vs H Q E ->
  codeAny (model P w) A (.call (.ref f) args) (CR CX outer P w H s Q E) s
theorem FnOk.mono{P:Program}{w:World}{K:PySem.W.Frag}{mg:Str->Option Value}{base:Heap}{CX:CXT}{j k:Nat}{f:Addr}{fd:FuncData}{ps:List Str}{sp:Sp}(F:FnOk P w K mg base CX j f fd ps sp)(h:j<=k:=by decide) :
 FnOk P w K mg base CX k f fd ps sp:=⟨F.len,λA outer s H args us vs Q E hr=>F.run A outer s H args us vs Q E (hr.mono h)⟩
theorem Env0.make{P:Program}{w:World}{K:PySem.W.Frag}{mg:Str->Option Value}{base:Heap}{A:Around}{outer:List Env}{s:Shared}{H:Hp}(e:Env0 P w K mg base A outer s H)(C:Addr)(us:List Value)(kw:List (Str×Value)) :
 Env0 P w K mg base (A.under (.builtin "type.__call__" ⟨.ref C::us,kw⟩)) outer s H:=⟨by first |exact e.frames | (simpa[Around.under,Code.envs,Code.isFrame,pushEnvs]using e.frames),e.mod,e.bs,e.bsz,e.funs,e.frf,e.hok,e.bare⟩
section
variable {X:Cx}{pins:List (Addr×Obj)}{σ:St}{H:Hp}{s s':Shared}
theorem Inv.env0(I:Inv X pins σ H s):Env0 X.prog X.w X.K X.mg X.base X.A X.stack s H :=
 ⟨I.ok.frames,I.ok.mod,I.bs,GW I.ok.bsz I.sz,I.stack,I.stkFree,I.hok,I.bare⟩
theorem Inv.after{Q:VK}{u:Value}(I:Inv X pins σ H s)(h:CE X.stack X.prog X.w H s Q u s'):EP X pins σ Q u s':=by obtain⟨v,H',os,bare,un,hok,r,q⟩:=h;obtain⟨hh,g,d,t,os'⟩:=s';obtain rfl:os'=s.os:=os;exact⟨v,H',I.call (h':=hh) (g':=g) (d':=d) (t':=t) (ch:=[]) un hok bare (λb z=>absurd z (by simp)),r,q⟩
end
def wx(sp:Sp)(dvs:List V)(E:XK)(t:TA):TE:=λσ H Q=>t σ H λvs H1=>sp (vs++dvs) H1 Q E
def wt(C:Addr)(m:Str)(sp:Sp)(dvs:List V)(E:XK)(ta:TE)(t:TA):TE:=λσ H Q=>ta σ H λx H1=>∃a dx fs,x=.ref a/\H1 a=some (.ins C dx fs)/\fs.lookup m=none /\
 t σ H1 λvs H2=>sp (x::(vs++dvs)) H2 Q E
def wu(C:Addr)(sp:Sp)(dvs:List V)(E:XK)(t:TA):TE:=λσ H Q=>t σ H λvs H1=>∀x dx,H1 x=none->H1 dx=none->dx≠x ->
 sp (.ref x::(vs++dvs)) (upd (upd H1 dx (.own x)) x (.ins C dx [])) (λv H2=>v=.non/\Q (.ref x) H2) E
noncomputable def Binds(K:PySem.W.Frag)(fd:FuncData)(ps:List Str)(ds:List Value):Prop :=
 ∀(s:Shared) (us:List Value),K.In s.heap->(us++ds).length=ps.length->BindsTo s fd ⟨us,[]⟩ (ps.zip (us++ds))
theorem Binds.all{K:PySem.W.Frag}{fd:FuncData}{ps:List Str}(h:∀us:List Value,us.length=ps.length->bindArgs fd ⟨us,[]⟩=pure (ps.zip us)):Binds K fd ps []:=λs us _ hl=>by rw[IH]at hl ⊢;exact .of_eq (h us hl)
def gl(CX:CXT)(X:Cx)(E:XK):Prop:=∀(pins:List (Addr×Obj)) (σ:St) (H:Hp) (s:Shared) (e:Value) (s':Shared),Inv X pins σ H s->CX X.stack H s E e s'->X.xe e s'
section
variable {X:Cx}{CX:CXT}{k:Nat}{f C:Addr}{fd:FuncData}{ps:List Str}{sp:Sp}{dvs:List V}{ds:List Value}{E:XK}{x m:Str}{p pos apos:Pos}{e o:Expr}{es:List Expr}{ta:TE}{t:TA}
theorem qz{pins:List (Addr×Obj)}{σ:St}{H:Hp}{s:Shared}{Q:VK}{us:List Value}{vs:List V}(F:FnOk X.prog X.w X.K X.mg X.base CX k f fd ps sp)(hr:Room k X.A)(hb:Binds X.K fd ps ds)(hd:Vals dvs ds)(hx:gl CX X E)
 (I:Inv X pins σ H s) (r:Vals vs us) (h:sp (vs++dvs) H Q E):wpAny (model X.prog X.w) X.A (call (.ref f) us) (EP X pins σ Q) X.xe s:=by
 have r2:Vals (vs++dvs) (us++ds):=r.append hd;have hl:(us++ds).length=ps.length:=by rw[<- r2.length];exact F.len _ _ _ _ h
 refine wpAny_call (codeAny_mono (F.run X.A X.stack s H ⟨us,[]⟩ (us++ds) (vs++dvs) Q E hr I.env0 (hb s us I.kIn hl) r2 h) λr s' hq=>?_);cases r with
 |error e=>exact hx pins σ H s e s' I hq
 |ok fl =>
  cases fl with
  |ret u=>exact I.after hq
  |next=>exact False.elim hq
  |brk=>exact False.elim hq
  |cont=>exact False.elim hq
theorem aq(F:FnOk X.prog X.w X.K X.mg X.base CX k f fd ps sp)(hr:Room k X.A)(hg:Gl X x)(hm:X.mg x=some (.ref f))(hk:PySem.W.keepIn X.K (.ref f)=true)(hb:Binds X.K fd ps ds)(hd:Vals dvs ds)(hx:gl CX X E)
 (ha:PA X (e::es) t) (hdb:(x == ("__debug__":Str))=false:=by decide) (he:starEach (e::es) X.env=(false,eval e X.env)::starEach es X.env:=by rfl) (hpl:(backTo pos (starEach es X.env)).any (·.1)=false:=by rfl) :
 PE X (.Call (.Name x p) (e::es) [] pos) (wx sp dvs E t):=by
 intro pins s σ H Q I h;refine wpAny_Call_Name_kw (sR I hg hm ?_ hdb);refine PySem.W.callWith_K (h₀:=X.base) I.ok.mod.kin hk (thn (ha pos pins s σ H _ I h) λus s1 ⟨vs,H1,I1,r,q⟩=>⟨I1.kIn,?_⟩) he hpl;exact qz F hr hb hd hx I1 r q
theorem yD{pl:Sem Bool}(he:PE X o ta)(c:Cls X.K C)(hm:Meth X.K C m f)(F:FnOk X.prog X.w X.K X.mg X.base CX k f fd ps sp)(hr:Room k X.A)(hb:Binds X.K fd ps ds)(hd:Vals dvs ds)(hx:gl CX X E)(ha:PA X (e::es) t)
 (hst:starEach (e::es) X.env=(false,eval e X.env)::starEach es X.env:=by rfl) (hpl:(backTo pos (starEach es X.env)).any (·.1)=false:=by rfl)
 (ht:eval (.Call (.Attribute o m apos) (e::es) [] pos) X.env=(do
   let ov <- eval o X.env
   standAt apos.atName
   let(f,first) <- holding [ov] (getMethod ov m pl)
   callWith pos f first (backTo pos (starEach (e::es) X.env)) (backToKw pos (keywordEach [] X.env))):=by rfl) :
 PE X (.Call (.Attribute o m apos) (e::es) [] pos) (wt C m sp dvs E ta t):=by
 intro pins s σ H Q I h;refine PySem.W.methodCall_KW (pl:=pl) (thn (he pins s σ H _ I h) λu s1 ⟨x,H1,I1,rx,a,dx,fs,ex,ea,l,q⟩=>?_) ht;subst ex;obtain rfl:u=Value.ref a:=rx;refine BS I1 ea c hm l ?_;refine PySem.W.callWith_K (first:=[.ref a]) (h₀:=X.base) I.ok.mod.kin hm.kp (thn (ha pos pins s1 σ H1 _ I1 q) λus s2 ⟨vs,H2,I2,r,q2⟩=>⟨I2.kIn,?_⟩) hst hpl;exact qz (us:=.ref a::us) (vs:=.ref a::vs) F hr hb hd hx I2 (.cons rfl r) q2
structure Mk(K:PySem.W.Frag)(C f:Addr):Prop where
 makes:PySem.W.makesIn K C=true
 init:PySem.W.findIn K (.ref C) "__init__"=some (some (.ref f))
 fn:PySem.W.isFn K (.ref f)=true
 kp:PySem.W.keepIn K (.ref C)=true
theorem xD{pins:List (Addr×Obj)}{σ:St}{H:Hp}{s:Shared}{Q:VK}{us:List Value}{vs:List V}(M:Mk X.K C f)(F:FnOk X.prog X.w X.K X.mg X.base CX k f fd ps sp)(hr:Room (k+1) X.A)(hb:Binds X.K fd ps ds)(hd:Vals dvs ds)
 (hx:gl CX X E) (I:Inv X pins σ H s) (r:Vals vs us)
 (h:∀x dx,H x=none->H dx=none->dx≠x->sp (.ref x::(vs++dvs)) (upd (upd H dx (.own x)) x (.ins C dx [])) (λv H2=>v=.non/\Q (.ref x) H2) E) :
 wpAny (model X.prog X.w) X.A (call (.ref C) us) (EP X pins σ Q) X.xe s:=by
 have hq:=h (s.heap.objs.size+1) s.heap.objs.size (I.hok.fresh (Nat.le_succ _)) (I.hok.fresh (GP _)) (G6 (HU _));have I2:=Inv.made (C:=C) I;have r2:Vals (V.ref (s.heap.objs.size+1)::(vs++dvs)) (Value.ref (s.heap.objs.size+1)::(us++ds)):=.cons rfl (r.append hd)
 have hl:(Value.ref (s.heap.objs.size+1)::us++ds).length=ps.length:=by have e:=r2.length;rw[F.len _ _ _ _ hq]at e;exact e.symm
 refine wpAny_call (Au (f:=f) I.kIn M.makes M.init (beq_iff_eq.mp M.fn) (codeAny_mono (F.run _ X.stack _ _ ⟨Value.ref (s.heap.objs.size+1)::us,[]⟩ (Value.ref (s.heap.objs.size+1)::(us++ds)) _ _ E (hr.make C us [])
  (I2.env0.make C us []) (hb _ (Value.ref (s.heap.objs.size+1)::us) I2.kIn hl) r2 hq) λr s' hq'=>?_))
 cases r with
 |error e=>exact hx pins σ _ _ e s' I2 hq'
 |ok fl =>
  cases fl with
  |ret u =>obtain⟨v,H',I3,rv,ev,q3⟩:=I2.after hq';subst ev;exact⟨rv,⟨V.ref (s.heap.objs.size+1),H',I3,rfl,q3⟩⟩
  |next=>exact False.elim hq'
  |brk=>exact False.elim hq'
  |cont=>exact False.elim hq'
theorem lD(M:Mk X.K C f)(F:FnOk X.prog X.w X.K X.mg X.base CX k f fd ps sp)(hr:Room (k+1) X.A)(hg:Gl X x)(hm:X.mg x=some (.ref C))(hb:Binds X.K fd ps ds)(hd:Vals dvs ds)(hx:gl CX X E)
 (ha:PA X (e::es) t) (hdb:(x == ("__debug__":Str))=false:=by decide) (he:starEach (e::es) X.env=(false,eval e X.env)::starEach es X.env:=by rfl) (hpl:(backTo pos (starEach es X.env)).any (·.1)=false:=by rfl) :
 PE X (.Call (.Name x p) (e::es) [] pos) (wu C sp dvs E t):=by
 intro pins s σ H Q I h;refine wpAny_Call_Name_kw (sR I hg hm ?_ hdb);refine PySem.W.callWith_K (h₀:=X.base) I.ok.mod.kin M.kp (thn (ha pos pins s σ H _ I h) λus s1 ⟨vs,H1,I1,r,q⟩=>⟨I1.kIn,?_⟩) he hpl;exact xD M F hr hb hd hx I1 r q
end
noncomputable def PK(X:Cx)(kws:List Keyword)(t:TA):Prop :=
 ∀(pos:Pos) (pins:List (Addr×Obj)) (s:Shared) (σ:St) (H:Hp) (Q:List V->Hp->Prop),Inv X pins σ H s->t σ H Q->wpAny (model X.prog X.w) X.A (evalAll ((backToKw pos (keywordEach kws X.env)).map (·.2))) (AP X pins σ Q) X.xe s
section
variable {X:Cx}{CX:CXT}{k:Nat}{f C:Addr}{fd:FuncData}{ps ks:List Str}{sp:Sp}{E:XK}{x m:Str}{p pos apos kpos:Pos}{e o:Expr}{es:List Expr}{kws:List Keyword}{te ta:TE}{t tk:TA}{nm:Option Str}
variable {g:List Value->List Value->List Value}{gV:List V->List V->List V}
end
structure FnScope(N P:List Str)(sc:Scope):Prop where
 kind:sc.kind=.function
 co:sc.isCoroutine=false
 gen:sc.isGenerator=false
 nd:N.Nodup
 pre:N.take P.length=P
 par:∀x∈P,sc.names.lookup x=some .local\/sc.names.lookup x=some .cell
 nofree:∀y∈sc.names,y.2≠.free
theorem u5{kindOf:Str->Option NameKind}{x:Str}:∀{binds:List (Str×Value)} {m:Str->Option Value},(∀v,(x,v)∉binds)->bindL kindOf binds m x=m x
 | [],_,_=>rfl
 | (n,v)::r,m,h=>by
  unfold bindL;rw[u5 λw hw=>h w (GU _ hw)];split
  ·have:x≠n:=by rintro rfl;exact h v GY
   simp[this]
  ·rfl
theorem va{kindOf:Str->Option NameKind}{x:Str}:∀{binds:List (Str×Value)} {m:Str->Option Value},(∀v,(x,v)∉binds)->bindC kindOf binds m x=m x
 | [],_,_=>rfl
 | (n,v)::r,m,h=>by
  unfold bindC;rw[va λw hw=>h w (GU _ hw)];split
  ·rfl
  ·have:x≠n:=by rintro rfl;exact h v GY
   simp[this]
theorem u9{kindOf:Str->Option NameKind}{x:Str}{v:Value}:∀{P:List Str} {vs:List Value} {i:Nat} {m:Str->Option Value},P.Nodup->P[i]?=some x->vs[i]?=some v->kindOf x=some .local ->
 bindL kindOf (P.zip vs) m x=some v
 | [],_,_,_,_,h,_,_=>by simp at h
 |_::_,[],_,_,_,_,h,_=>by simp at h
 |p::P,w::vs,0,m,nd,h1,h2,hk=>by
  simp at h1 h2;subst h1;subst h2
  show bindL kindOf ((p,w)::P.zip vs) m p=_;unfold bindL;rw[u5 λv hv=>(Ij.mp nd).1 (List.of_mem_zip hv).1,if_pos hk];simp
 |p::P,w::vs,i+1,m,nd,h1,h2,hk=>by show bindL kindOf ((p,w)::P.zip vs) m x=_;unfold bindL;exact u9 (i:=i) (Ij.mp nd).2 (by simpa using h1) (by simpa using h2) hk
theorem vb{kindOf:Str->Option NameKind}{x:Str}{v:Value}:∀{P:List Str} {vs:List Value} {i:Nat} {m:Str->Option Value},P.Nodup->P[i]?=some x->vs[i]?=some v->kindOf x≠some .local ->
 bindC kindOf (P.zip vs) m x=some v
 | [],_,_,_,_,h,_,_=>by simp at h
 |_::_,[],_,_,_,_,h,_=>by simp at h
 |p::P,w::vs,0,m,nd,h1,h2,hk=>by
  simp at h1 h2;subst h1;subst h2
  show bindC kindOf ((p,w)::P.zip vs) m p=_;unfold bindC;rw[va λv hv=>(Ij.mp nd).1 (List.of_mem_zip hv).1,if_neg hk];simp
 |p::P,w::vs,i+1,m,nd,h1,h2,hk=>by show bindC kindOf ((p,w)::P.zip vs) m x=_;unfold bindC;exact vb (i:=i) (Ij.mp nd).2 (by simpa using h1) (by simpa using h2) hk
noncomputable def dm(N:List Str)(vs:List V):St:=vs.map some++List.replicate (N.length-vs.length) none
noncomputable def fu(CX:CXT)(P:Program)(w:World)(K:PySem.W.Frag)(mg:Str->Option Value)(base:Heap)(N:List Str)(qual:Str)(scope:Scope)(f:Addr)(cd:Value)(A:Around)(outer:List Env)(s:Shared)(H:Hp)(E:XK):Cx where
 prog:=P
 w:=w
 K:=K
 mg:=mg
 base:=base
 A:=A.deeper (envOfC qual scope s.heap.objs.size f cd)
 N:=N
 s₀:=s
 H₀:=H
 env:=envOfC qual scope s.heap.objs.size f cd
 outer:=outer
 stack:=envOfC qual scope s.heap.objs.size f cd::outer
 ex:=[]
 calm:=true
 fn:=λ_=>true
 pn:=[]
 xe:=λe s'=>wpAny (model P w) (A.deeper (envOfC qual scope s.heap.objs.size f cd)) (leaving (envOfC qual scope s.heap.objs.size f cd) e) (λ_ s''=>CX outer H s E e s'') (λe' s''=>CX outer H s E e' s'') s'
theorem uX{sc:Scope}{n:Nat}{x:Str}(h:sc.names.lookup x=some .cell):∃c,(cellsFrom n sc.names []).lookup x=some c:=by have q:=PySem.W.cellsFrom_some sc.names n [] (.inl h);exact Option.isSome_iff_exists.mp q
theorem BH{CX:CXT}{P:Program}{w:World}{K:PySem.W.Frag}{mg:Str->Option Value}{base:Heap}{N ps:List Str}{qual:Str}{scope:Scope}{f:Addr}{cd:Value}{A:Around}{outer:List Env}{s s1:Shared}{H:Hp}{E:XK}{us:List Value}{vs:List V}
 (S:FnScope N ps scope) (hd:A.handled=none) (e0:Env0 P w K mg base A outer s H) (hl:vs.length=ps.length) (r:Vals vs us)
 (x:InCallC s s.heap.objs.size (bindL (envOfC qual scope s.heap.objs.size f cd).kindOf (ps.zip us) λ_=>none) (cellsFrom (s.heap.objs.size+1) scope.names []) (bindC (envOfC qual scope s.heap.objs.size f cd).kindOf (ps.zip us) λ_=>none) s1) :
 Inv (fu CX P w K mg base N qual scope f cd A outer s H E) [] (dm N vs) H s1:=by
 have hpl:ps.length<=N.length:=by have:=congrArg List.length S.pre;rw[HL]at this;omega
 obtain⟨h1,tk,rfl,hk⟩:=x.done;have noA:∀b:Addr,b∉(fu CX P w K mg base N qual scope f cd A outer s H E).ex:=λb z=>absurd (show b∈([]:List Addr)from z) (by simp)
 refine⟨⟨e0.mod,S.kind,rfl,rfl,GP _,λy z c h1 h2=>?_,λy hy=>?_,λy c _ h=>?_,λ_=>hd,Around.frames_deeper e0.frames,.inr ⟨rfl,rfl⟩,λb z=>absurd z (noA b),e0.bs,e0.bsz,λb _ _=>noA b,λb z=>absurd z (noA b),e0.funs,e0.frf⟩,
  rfl,e0.bare,Un.kept hk,⟨_,x.toInCall.ns,λi y v h1 h2 h3=>?_⟩,λy c h=>⟨_,x.cell y c h⟩,e0.hok.fresh (GP _),λy c h=>?_,λp hp=>absurd (show p∈([]:List (Addr×Obj))from hp) (by simp),e0.hok.kept hk,?_⟩
 ·exact name_of_addr x.apart (PySem.mem_of_lookup h1) (PySem.mem_of_lookup h2)
 ·have hy:scope.names.lookup y=some .cell\/scope.names.lookup y=some .free:=hy;rcases hy with hy |hy
  ·exact uX hy
  ·exact absurd rfl (S.nofree _ (PySem.mem_of_lookup hy))
 ·exact HS (x.above y c (PySem.mem_of_lookup h))
 ·have hi:i<vs.length:=by
   unfold dm at h2
   by_cases hi:i<vs.length
   ·exact hi
   ·rw[List.getElem?_append_right (by simpa using hi)]at h2;rw[List.getElem?_replicate]at h2;split at h2<;>cases h2
  have ha:vs[i]?=some v:=by
   unfold dm at h2
   rw[List.getElem?_append_left (by simpa using hi),List.getElem?_map]at h2;cases e:vs[i]? with
   |none=>rw[e]at h2;cases h2
   |some a=>rw[e]at h2;cases h2;rfl
  obtain⟨u,hu,rv⟩:=r.get ha
  have hp:ps[i]?=some y:=by rw[<- S.pre,List.getElem?_take_of_lt (by omega)];exact h1
  have ndP:ps.Nodup:=by rw[<- S.pre];exact S.nd.sublist (List.take_sublist _ _)
  refine⟨u,rv,?_⟩;rcases S.par y (List.mem_of_getElem? hp)with k |k
  ·exact .inl ⟨k,u9 ndP hp hu k⟩
  ·obtain⟨c,e⟩:=uX (n:=s.heap.objs.size+1) k;refine .inr ⟨.inl k,c,e,?_⟩;have q:=x.cell y c e;rw[vb ndP hp hu (by show scope.names.lookup y≠_;rw[k];decide)]at q;exact q
 ·exact e0.hok.fresh (HS (x.above y c (PySem.mem_of_lookup h)))
 ·unfold dm;show _=N.length;rw[GZ,GO,IV];omega
theorem tX{CX:CXT}{P:Program}{w:World}{K:PySem.W.Frag}{mg:Str->Option Value}{base:Heap}{k:Nat}{f:Addr}{name qual:Str}{params:Arguments}{body:List Stmt}{scope:Scope}{dV kV doc pm cdv ct oc:Value}{an od:Option Addr}
 {osl:Array (Option Value)} {N ps:List Str} {sp:Sp} (lk:K.lookup f=some ⟨oc,od,.func (PySem.W.fnOf name qual params body scope dV kV doc pm an cdv ct),osl⟩) (hcd:PySem.W.codeIn K cdv qual=true) (S:FnScope N ps scope)
 (len:∀vs H Q E,sp vs H Q E->vs.length=ps.length)
 (hbody:∀(A:Around) (outer:List Env) (s:Shared) (H:Hp) (vs:List V) (Q:VK) (E:XK),Room k (A.deeper (envOfC qual scope s.heap.objs.size f cdv))->sp vs H Q E ->
   ∃t,PSs (fu CX P w K mg base N qual scope f cdv A outer s H E) body t/\t { nx:=λ_ H'=>Q .non H',rt:=Q } (dm N vs) H) :
 FnOk P w K mg base CX (k+1) f (PySem.W.fnOf name qual params body scope dV kV doc pm an cdv ct) ps sp:=by
 refine⟨len,λA outer s H args us vs Q E hr e0 hb r hsp=>?_⟩;have hl:=len _ _ _ _ hsp;have KX:K.In s.heap:=e0.mod.kin.keeps λb o e=>(e0.bs b o e).1
 have lim:s.heap.NoLimit:=e0.mod.nolimit.keeps λb o e=>(e0.bs b o e).1
 have hkind:∀y∈ps.zip us,scope.names.lookup y.1=some .local\/(scope.names.lookup y.1=some .cell/\((cellsFrom (s.heap.objs.size+1) scope.names []).lookup y.1).isSome=true):=λ⟨n,v⟩ hy=>by
  rcases S.par n (List.of_mem_zip hy).1 with q |q
  ·exact .inl q
  ·exact .inr ⟨q,PySem.W.cellsFrom_some _ _ _ (.inl q)⟩
 refine codeAny_call_function hr.depth (KX _ _ lk) rfl S.co S.gen rfl (PySem.W.codeRec_of KX hcd) (hb _ _ _ _ ?_);refine wpAny_newFunctionEnv_cells S.kind hkind λenv he s1 x=>?_
 subst he;refine⟨lim.keeps x.toInCall.keep,codeAny_func ?_⟩;obtain⟨t,ht,hq⟩:=hbody A outer s H vs Q E (hr.deeper _) hsp;have I:Inv (fu CX P w K mg base N qual scope f cdv A outer s H E) [] (dm N vs) H s1:=BH S hr.hd e0 hl r x;refine wpAny_mono (ht [] s1 (dm N vs) H _ I hq) (λfl s' hs=>?_) λe s' hs=>hs
 have fin:∀{σ':St} {H':Hp} {v:V} {u:Value},Inv (fu CX P w K mg base N qual scope f cdv A outer s H E) [] σ' H' s'->RelV v u->Q v H'->CE outer P w H s Q u s' :=
  λ{σ' H' v u} J rv q=>⟨v,H',J.os,J.bare,J.base,J.hok,rv,q⟩
 cases fl with
 |ret u =>obtain⟨v,σ',H',J,rv,q⟩:=hs;exact fin J rv q
 |next =>obtain⟨σ',H',J,q⟩:=hs;exact fin (v:=V.non) (u:=Value.none) J rfl q
 |brk =>obtain⟨_,_,_,q⟩:=hs;exact False.elim q
 |cont =>obtain⟨_,_,_,q⟩:=hs;exact False.elim q
section
variable {X:Cx}{x:Str}{p pos:Pos}{e:Expr}{es:List Expr}{t:TA}{id T:String}{r:List V->Hp->VK->Prop}
def tCB(r:List V->Hp->VK->Prop)(t:TA):TE:=λσ H Q=>t σ H λvs H1=>r vs H1 Q
theorem aJ(hc:CallR X (.builtin id) r)(hg:Gl X x)(hm:X.mg x=none)(hv:bootBuiltins x=some (.builtin id))(ha:PA X (e::es) t)(hn:x≠"__name__":=by decide)(hdb:(x == ("__debug__":Str))=false:=by decide)
 (he:starEach (e::es) X.env=(false,eval e X.env)::starEach es X.env:=by rfl) (hpl:(backTo pos (starEach es X.env)).any (·.1)=false:=by rfl):PE X (.Call (.Name x p) (e::es) [] pos) (tCB r t):=by
 intro pins s σ H Q I h;refine wpAny_Call_Name_kw (dR I hg hm hv ?_ hn hdb);exact PyProof.Rows.callWith_builtin1 (thn (ha pos pins s σ H _ I h) λus s1 ⟨vs,H1,I1,r1,q1⟩=>hc pins s1 σ H1 vs us Q I1 r1 q1) he hpl
theorem gI(hc:CallR X (.type T) r)(hg:Gl X x)(hm:X.mg x=none)(hv:bootBuiltins x=some (.type T))(ha:PA X (e::es) t)(hn:x≠"__name__":=by decide)(hdb:(x == ("__debug__":Str))=false:=by decide)
 (he:starEach (e::es) X.env=(false,eval e X.env)::starEach es X.env:=by rfl) (hpl:(backTo pos (starEach es X.env)).any (·.1)=false:=by rfl):PE X (.Call (.Name x p) (e::es) [] pos) (tCB r t):=by
 intro pins s σ H Q I h;refine wpAny_Call_Name_kw (dR I hg hm hv ?_ hn hdb);exact PyProof.Rows.callWith_type1 (thn (ha pos pins s σ H _ I h) λus s1 ⟨vs,H1,I1,r1,q1⟩=>hc pins s1 σ H1 vs us Q I1 r1 q1) he hpl
end
end L2
namespace HT
open PySem PyProof.Rows
section
open PySem.SeqAt
open PySem.AutoSeq1 (wpAny_loadPart')
open PySem.MeetsSeq PySem.MeetsSeq2 PySem.MeetsSeq3
end
section
variable {prog:Program}{w:World}{A:Around}{E:Value->Shared->Prop}{s:Shared}
noncomputable def sIx(n d:Nat):Option Int->Nat
 |none=>d
 |some v=>if v<0 then(v+(n:Int)).toNat else min v.toNat n
theorem sIx_none(n d:Nat):sIx n d none=d:=rfl
theorem sIx_nat(n d k:Nat):sIx n d (some (k:Int))=min k n:=by show(if(k:Int)<0 then((k:Int)+(n:Int)).toNat else min (k:Int).toNat n)=min k n;rw[if_neg (by omega),Int.toNat_natCast]
end
end HT
namespace L2
open PySem PySem.Spec PyProof.Rows
abbrev TO:=St->Hp->(Option Int->Hp->Prop)->Prop
noncomputable def PO(X:Cx)(e:Option Expr)(t:TO):Prop :=
 ∀(pins:List (Addr×Obj)) (s:Shared) (σ:St) (H:Hp) (Q:Option Int->Hp->Prop),Inv X pins σ H s->t σ H Q ->
  wpAny (model X.prog X.w) X.A (evalPart e X.env) (λu s'=>∃o H',Inv X pins σ H' s'/\IsPart u o/\Q o H') X.xe s
noncomputable def wo:TO:=λ_ H Q=>Q none H
noncomputable def wn(t:TE):TO:=λσ H Q=>t σ H λx H1=>∃i,x=.int i/\Q (some i) H1
theorem dW{ns:List Int}:∀{us:List Value},Vals (ns.map V.int) us->IntsAre us ns:=by
 induction ns with
 |nil=>intro us r;rw[Iw]at r;cases r;exact .nil
 |cons n ns ih =>
  intro us r;rw[HC]at r;cases r with
  |cons r1 r2 =>obtain⟨t,e⟩:=r1;subst e;exact .cons n t (ih r2)
section
variable {X:Cx}{e:Expr}{te:TE}{lo hi:Option Expr}{tl th:TO}{pos p2:Pos}
theorem fU:PO X none wo:=by intro pins s σ H Q I h;rw[evalPart_none];exact wpAny_pure ⟨none,H,I,.none,h⟩
theorem fT(h:PE X e te):PO X (some e) (wn te):=by
 intro pins s σ H Q I hw;rw[evalPart_some];refine thn (h pins s σ H _ I hw) λu s1 ⟨x,H1,I1,r1,q1⟩=>?_
 obtain⟨i,rfl,q⟩:=q1;obtain⟨t,rfl⟩:=r1;exact⟨some i,H1,I1,.int i t,q⟩
noncomputable def SlR(X:Cx)(r:V->Option Int->Option Int->Hp->VK->Prop):Prop :=
 ∀(pins:List (Addr×Obj)) (s:Shared) (σ:St) (H:Hp) (x:V) (v vl vu:Value) (lo hi:Option Int) (sl:Addr) (Q:VK),Inv X pins σ H s->RelV x v->s.heap.IsSliceOf sl vl vu .none->IsPart vl lo->IsPart vu hi->r x lo hi H Q ->
  ∃T id,typeLookup (.type T) "__getitem__"=pure (some (.builtin id))/\s.TypeIs v T/\wpAny (model X.prog X.w) X.A (getItem v (.ref sl)) (EP X pins σ Q) X.xe s
theorem SlR.or{r r':V->Option Int->Option Int->Hp->VK->Prop}(h:SlR X r)(h':SlR X r'):SlR X (λx lo hi H Q=>r x lo hi H Q\/r' x lo hi H Q):=by
 intro pins s σ H x v vl vu lo hi sl Q I rx hs pl pu q;rcases q with q |q
 ·exact h pins s σ H x v vl vu lo hi sl Q I rx hs pl pu q
 ·exact h' pins s σ H x v vl vu lo hi sl Q I rx hs pl pu q
def tSl(r:V->Option Int->Option Int->Hp->VK->Prop)(te:TE)(tl th:TO):TE:=λσ H Q=>te σ H λx H1=>tl σ H1 λl H2=>th σ H2 λu H3=>r x l u H3 Q
theorem fW{r:V->Option Int->Option Int->Hp->VK->Prop}(hr:SlR X r)(he:PE X e te)(hl:PO X lo tl)(hu:PO X hi th):PE X (.Subscript e (.Slice lo hi none p2) pos) (tSl r te tl th):=by
 intro pins s σ H Q I h;refine Subscript_ (thn (he pins s σ H _ I h) λv s1 ⟨x,H1,I1,r1,q1⟩=>?_);refine wpAny_Slice (thn (hl pins s1 σ H1 _ I1 q1) λvl s2 ⟨l,H2,I2,pl,q2⟩=>thn (hu pins s2 σ H2 _ I2 q2) λvu s3 ⟨u,H3,I3,pu,q3⟩=>?_);rw[evalPart_none];refine wpAny_pure ?_;have I4:Inv X pins σ H3 { s3 with heap:=s3.heap.push { cls:=.type "slice",data:=.fields #[vl,vu,.none] } }:=I3.kept (t':=s3.toks) λb ob q=>Heap.get?_push_of_some _ q
 obtain⟨T,id,hT,ht,hg⟩:=hr pins { s3 with heap:=s3.heap.push { cls:=.type "slice",data:=.fields #[vl,vu,.none] } } σ H3 x v vl vu l u s3.heap.objs.size Q I4 r1 (Heap.IsSliceOf.new ..) pl pu q3;show wpAny (model X.prog X.w) X.A (subscriptTail e (.Slice lo hi none p2) v (.ref s3.heap.objs.size)) (EP X pins σ Q) X.xe { s3 with heap:=s3.heap.push { cls:=.type "slice",data:=.fields #[vl,vu,.none] } };exact tail_any (ops:=[.ref s3.heap.objs.size,v]) ht hT hg (by with_unfolding_all rfl)
noncomputable def di(xs:List V)(lo hi:Option Int):List V:=(xs.drop (HT.sIx xs.length 0 lo)).take (HT.sIx xs.length xs.length hi-HT.sIx xs.length 0 lo)
theorem CY(xs:List V)(lo hi:Option Int):(di xs lo hi).length<=xs.length:=by unfold di;rw[HL,Ik];omega
end
noncomputable def ixN(n:Nat)(i:Int):Option Nat:=if 0<=i then(if i<n then some i.toNat else none)else if -(n:Int)<=i then some (i+n).toNat else none
noncomputable def atI{α:Type}(xs:List α)(i:Int):Option α:=(ixN xs.length i).bind λj=>xs[j]?
theorem tz{n:Nat}{i:Int}{j:Nat}(h:ixN n i=some j):seqIndex? i n=some j/\j<n /\ -(n:Int)<=i/\i<n:=by
 unfold ixN at h
 by_cases h0:0<=i
 ·rw[if_pos h0]at h;by_cases h1:i<n
  ·rw[if_pos h1]at h;have e:i.toNat=j:=Option.some.inj h;exact⟨by rw[seqIndex_of h0 h1,e],by omega,by omega,h1⟩
  ·rw[if_neg h1]at h;cases h
 ·rw[if_neg h0]at h;by_cases h1 : -(n:Int)<=i
  ·rw[if_pos h1]at h;have e:(i+n).toNat=j:=Option.some.inj h;exact⟨by rw[seqIndex_neg (by omega) h1,e],by omega,h1,by omega⟩
  ·rw[if_neg h1]at h;cases h
theorem nR{α:Type}{xs:List α}{i:Int}{v:α}(h:atI xs i=some v):∃j,seqIndex? i xs.length=some j/\xs[j]?=some v/\j<xs.length /\ -(xs.length:Int)<=i/\i<xs.length:=by
 unfold atI at h
 cases e:ixN xs.length i with
 |none=>rw[e]at h;cases h
 |some j =>rw[e]at h;obtain⟨h1,h2,h3,h4⟩:=tz e;exact⟨j,h1,h,h2,h3,h4⟩
theorem fA{α:Type}{xs:List α}{j:Nat}{v:α}(h:xs[j]?=some v):atI xs (j:Int)=some v:=by
 have hj:j<xs.length:=(List.getElem?_eq_some_iff.mp h).1
 have e:ixN xs.length (j:Int)=some j:=by unfold ixN;rw[if_pos (by omega),if_pos (by omega)];simp
 unfold atI;rw[e];exact h
theorem vt{α:Type}(xs:List α)(v:α):atI (xs++[v]) (-1)=some v:=by
 have hl:(xs++[v]).length=xs.length+1:=by simp
 have e:ixN (xs++[v]).length (-1)=some xs.length:=by
  unfold ixN;rw[hl,if_neg (by decide),if_pos (by omega)]
  congr 1
  omega
 unfold atI;rw[e];show(xs++[v])[xs.length]?=some v;simp
def D4(b:Expr):Prop:=∀o i,subscripted b false o i=operate [o,i] (getItem o i)
noncomputable def IxR(X:Cx)(r:R2):Prop :=
 ∀(value slice:Expr) (pins:List (Addr×Obj)) (s:Shared) (σ:St) (H:Hp) (x y:V) (v u:Value) (Q:VK),Inv X pins σ H s->RelV x v->RelV y u->r x y H Q ->
  subscripted slice false v u=operate [v,u] (getItem v u)->wpAny (model X.prog X.w) X.A (subscriptTail value slice v u) (EP X pins σ Q) X.xe s
noncomputable def MtR(X:Cx)(id:String)(r:V->List V->Hp->VK->Prop):Prop :=
 ∀(pins:List (Addr×Obj)) (s:Shared) (σ:St) (H:Hp) (x:V) (xs:List V) (v:Value) (us:List Value) (Q:VK),Inv X pins σ H s->RelV x v->Vals xs us->r x xs H Q ->
  wpAny (model X.prog X.w) X.A (call (.builtin id) (v::us)) (EP X pins σ Q) X.xe s
section
variable {X:Cx}{a b:Expr}{ta tb:TE}{pos:Pos}
theorem IxR.or{r r':R2}(h:IxR X r)(h':IxR X r'):IxR X (λx y H Q=>r x y H Q\/r' x y H Q):=by
 intro value slice pins s σ H x y v u Q I rx ry q hs;rcases q with q |q
 ·exact h value slice pins s σ H x y v u Q I rx ry q hs
 ·exact h' value slice pins s σ H x y v u Q I rx ry q hs
theorem MtR.or{id:String}{r r':V->List V->Hp->VK->Prop}(h:MtR X id r)(h':MtR X id r'):MtR X id (λx xs H Q=>r x xs H Q\/r' x xs H Q):=by
 intro pins s σ H x xs v us Q I rx rs q;rcases q with q |q
 ·exact h pins s σ H x xs v us Q I rx rs q
 ·exact h' pins s σ H x xs v us Q I rx rs q
theorem am{r:R2}(hr:IxR X r)(ha:PE X a ta)(hb:PE X b tb)(hs:D4 b):PE X (.Subscript a b pos) (tOp r ta tb):=by intro pins s σ H Q I h;exact Subscript_ (nC ha hb I h λv u s2 x y H2 I2 rx ry q=>hr a b pins s2 σ H2 x y v u Q I2 rx ry q (hs _ _))
def qU(K:PySem.W.Frag):R2:=λx y H Q=>∃p xs i v,x=.ref p/\y=.int i/\SqL K H p xs/\atI xs i=some v/\Q v H
def qT(K:PySem.W.Frag):R2:=λx y H Q=>∃p xs i v,x=.ref p/\y=.int i/\SqT K H p xs/\atI xs i=some v/\Q v H
theorem BF:IxR X (qU X.K):=by
 intro value slice pins s σ H x y v u Q I rx ry h hs;obtain⟨p,xs,i,z,rfl,rfl,hq,he,q⟩:=h;cases rx;obtain⟨t,rfl⟩:=ry;obtain⟨its,r,pl,hz⟩:=I.list hq;obtain⟨j,h1,h2,h3,h4,h5⟩:=nR he;obtain⟨w,ew,rw'⟩:=r.get h2;have hl:=r.length;have hn:=jf;have fin:EP X pins σ Q w s:=⟨z,H,I,rw',q⟩;by_cases h0:0<=i
 ·have hj:i.toNat=j:=by rw[seqIndex_of h0 h5]at h1;exact Option.some.inj h1
  exact item_listR pl.isList h0 (by omega) (by rw[hj];simpa using ew) fin hs
 ·have hj:(i+(its.toArray.size:Int)).toNat=j:=by rw[seqIndex_neg (by omega) h4]at h1;rw[G0,<- hl];exact Option.some.inj h1
  exact subscriptTail_builtinR (x:=w) pl.isList.typeIs slot_list_getitem.lookup
   (wpAny_getItem_list_neg (Q:=λr s'=>r=w/\EP X pins σ Q r s') pl.isList (by omega) (by rw[G0]<;>omega) (by omega) (by rw[hj];simpa using ew) ⟨rfl,fin⟩) hs
theorem BC:IxR X (qT X.K):=by
 intro value slice pins s σ H x y v u Q I rx ry h hs;obtain⟨p,xs,i,z,rfl,rfl,hq,he,q⟩:=h;cases rx;obtain⟨t,rfl⟩:=ry;obtain⟨its,r,pl,hz⟩:=I.tuple hq;obtain⟨j,h1,h2,h3,h4,h5⟩:=nR he;obtain⟨w,ew,rw'⟩:=r.get h2;have hl:=r.length;have hn:=jf;have fin:EP X pins σ Q w s:=⟨z,H,I,rw',q⟩
 exact subscriptTail_builtinR (x:=w) pl.typeIs slot_tuple_getitem.lookup
  (getItem_tuple (j:=j) (Q:=λr s'=>r=w/\EP X pins σ Q r s') pl (by omega) (by omega) (by rw[G0,<- hl];exact h1) (by simpa using ew) ⟨rfl,fin⟩) hs
theorem Ar(its:List Value)(n j:Nat)(u:Value):Obj.mapSeq (·.setIfInBounds j u) { cls:=.type "list",data:=.seq its.toArray n }={ cls:=.type "list",data:=.seq (its.set j u).toArray n }:=by simp[Obj.mapSeq]
theorem Inv.lst{pins:List (Addr×Obj)}{σ:St}{H:Hp}{s:Shared}{p:Addr}{xs:List V}(I:Inv X pins σ H s)(h:H p=some (.lst xs)) :
 ∃(its:List Value) (n:Nat),Vals xs its/\s.heap.get? p=some { cls:=.type "list",data:=.seq its.toArray n }/\xs.length<=sizeLine:=by
 obtain⟨z,its,n,r,e⟩:=I.hok p _ h;exact⟨its,n,r,e,z⟩
theorem Inv.lstUpd{pins:List (Addr×Obj)}{σ:St}{H:Hp}{s:Shared}{p:Addr}{xs ys:List V}{its its':List Value}{n n':Nat}{f:Obj->Obj}(I:Inv X pins σ H s)(h:H p=some (.lst xs))
 (ho:s.heap.get? p=some { cls:=.type "list",data:=.seq its.toArray n }) (hf:f { cls:=.type "list",data:=.seq its.toArray n }={ cls:=.type "list",data:=.seq its'.toArray n' }) (r:Vals ys its') (hz:ys.length<=sizeLine) (t:Nat) :
 Inv X pins σ (upd H p (.lst ys)) { s with heap:=s.heap.update p f,toks:=t }:=by
 have e:(s.heap.update p f).get? p=some { cls:=.type "list",data:=.seq its'.toArray n' }:=by rw[Heap.get?_update_self f ho (by rw[hf]<;>rfl),hf]
 refine I.write (x:=p) (e:=p) (by rw[h];trivial) (.inl rfl) (λb u hb q=>(Heap.get?_update_other _ _ (Ne.symm hb)).trans q) ⟨_,e⟩ ?_;exact⟨hz,its',n',r,e⟩
noncomputable def xX:V->V->V->Hp->(Hp->Prop)->Prop:=λo i v H Q=>∃p xs k j,o=.ref p/\i=.int k/\H p=some (.lst xs)/\ixN xs.length k=some j/\Q (upd H p (.lst (xs.set j v)))
theorem iG:vx X xX:=by
 intro pins s σ H o i v ov iv u Q I ro ri rv h;obtain⟨p,xs,k,j,rfl,rfl,hp,hj,q⟩:=h;cases ro;obtain⟨t,rfl⟩:=ri;obtain⟨its,n,r,ho,hz⟩:=I.lst hp;obtain⟨h1,h2,h3,h4⟩:=tz hj;have hl:=r.length;have hn:=jf
 have I':Inv X pins σ (upd H p (.lst (xs.set j v))) { s with heap:=s.heap.update p (Obj.mapSeq (·.setIfInBounds j u)) } :=
  I.lstUpd hp ho (Ar its n j u) (r.set rv j) (by rw[Il];exact hz) s.toks
 by_cases h0:0<=k
 ·have hk:k.toNat=j:=by rw[seqIndex_of h0 h4]at h1;exact Option.some.inj h1
  exact PySem.W.ki_setAt ho h0 (by omega) (by rw[G0,<- hl];exact h4) (by rw[hk];exact⟨_,I',q⟩)
 ·have hk:(k+(its.toArray.size:Int)).toNat=j:=by rw[seqIndex_neg (by omega) h3]at h1;rw[G0,<- hl];exact Option.some.inj h1
  exact PySem.W.ki_setBack ho (by omega) (by rw[G0,<- hl];exact h3) (by omega) (by rw[hk];exact⟨_,I',q⟩)
theorem wI(lo hi:Option Int)(n:Nat):(sliceBounds lo hi none n).1=((HT.sIx n 0 lo:Nat):Int)/\(sliceBounds lo hi none n).2.1=((HT.sIx n n hi:Nat):Int)/\(sliceBounds lo hi none n).2.2=1:=by
 refine⟨?_,?_,rfl⟩
 ·cases lo with
  |none=>simp[sliceBounds,HT.sIx]
  |some i =>
   simp only[sliceBounds,HT.sIx,Option.getD_none,show(1:Int)>0 by decide,if_true];by_cases h:i<0
   ·simp only[h,if_true]<;>omega
   ·simp only[h,if_false]<;>omega
 ·cases hi with
  |none=>simp[sliceBounds,HT.sIx]
  |some i =>
   simp only[sliceBounds,HT.sIx,Option.getD_none,show(1:Int)>0 by decide,if_true];by_cases h:i<0
   ·simp only[h,if_true]<;>omega
   ·simp only[h,if_false]<;>omega
theorem wJ(its:List Value)(lo hi:Option Int):slicePick its.toArray lo hi none=((its.drop (HT.sIx its.length 0 lo)).take (HT.sIx its.length its.length hi-HT.sIx its.length 0 lo)).toArray:=by obtain⟨h1,h2,h3⟩:=wI lo hi its.toArray.size;unfold slicePick;rw[h1,h2,h3];simp only[sliceRange_one,pick_run,G0]<;>rfl
noncomputable def iR(K:PySem.W.Frag):V->Option Int->Option Int->Hp->VK->Prop:=λx lo hi H Q=>∃a xs,x=.ref a/\SqL K H a xs/\∀p,H p=none->Q (.ref p) (upd H p (.lst (di xs lo hi)))
theorem wK:SlR X (iR X.K):=by intro pins s σ H x v vl vu lo hi sl Q I rx hs pl pu h;obtain⟨a,xs,rfl,hx,q⟩:=h;cases rx;obtain⟨its,r,ht,hz⟩:=I.list hx;have hlen:=r.length;refine⟨"list",_,slot_list_getitem.lookup,ht.isList.typeIs,?_⟩;refine wpAny_getItem_list_slice ht.isList hs pl pu .none (by simp) ?_ (by rw[G0]<;>omega);rw[wJ,<- hlen];refine⟨.ref s.heap.objs.size,_,I.laid (t':=s.toks) (o:=.lst (di xs lo hi)) (λb ob q=>Heap.get?_push_of_some _ q) (GP _) ?_,rfl,q _ (I.hok.fresh (GP _))⟩;exact⟨GW (CY xs lo hi) hz,_,0,(r.drop (HT.sIx xs.length 0 lo)).take (HT.sIx xs.length xs.length hi-HT.sIx xs.length 0 lo),Heap.get?_push_size _ rfl⟩
theorem Ds:CallR X (.builtin "len") (λxs H Q=>∃p ys,xs=[.ref p]/\(SqL X.K H p ys\/SqT X.K H p ys)/\Q (.int ys.length) H):=by
 intro pins s σ H xs us Q I r h;obtain⟨p,ys,rfl,hq,q⟩:=h;obtain⟨u,rfl,rx⟩:=fF r;cases rx;have hn:=jf;rcases hq with hq |hq
 ·obtain⟨its,r',pl,hz⟩:=I.list hq;have hlen:=r'.length;exact Calls.call_len_list pl.isList (by simp only[G0]<;>omega) ⟨.int ys.length,H,I.tok _,⟨s.toks+1,by rw[G0,hlen]⟩,q⟩
 ·obtain⟨its,r',pl,hz⟩:=I.tuple hq;have hlen:=r'.length;exact len_tuple pl (by simp only[G0]<;>omega) ⟨.int ys.length,H,I.tok _,⟨s.toks+1,by rw[G0,hlen]⟩,q⟩
theorem CallR.or{f:Value}{r r':List V->Hp->VK->Prop}(h:CallR X f r)(h':CallR X f r'):CallR X f (λxs H Q=>r xs H Q\/r' xs H Q):=by
 intro pins s σ H xs us Q I rs q;rcases q with q |q
 ·exact h pins s σ H xs us Q I rs q
 ·exact h' pins s σ H xs us Q I rs q
theorem Dr:CallR X (.type "list") (λxs H Q=>∃p ys,xs=[.ref p]/\(SqL X.K H p ys\/SqT X.K H p ys)/\∀l,H l=none->Q (.ref l) (upd H l (.lst ys))):=by
 intro pins s σ H xs us Q I r h;obtain⟨p,ys,rfl,hq,q⟩:=h;obtain⟨u,rfl,rx⟩:=fF r;cases rx
 have fin:∀(its:List Value),Vals ys its->ys.length<=sizeLine->∀(h':Heap) (c':Nat),(∀b o',s.heap.get? b=some o'->h'.get? b=some o') ->
  h'.get? s.heap.objs.size=some { cls:=.type "list",dict:=none,data:=.seq its.toArray c',slots:=#[] }->EP X pins σ Q (.ref s.heap.objs.size) { s with heap:=h' }:=λits r' hz h' c' kp e =>
  ⟨.ref s.heap.objs.size,_,I.laid (t':=s.toks) kp (GP _) (show ObjOk X.prog X.w _ h' _ (.lst ys)from⟨hz,its,c',r',e⟩),rfl,q _ (I.hok.fresh (GP _))⟩
 rcases hq with hq |hq
 ·obtain⟨its,r',pl,hz⟩:=I.list hq;have hlen:=r'.length;obtain⟨o,ho,hc,n,hd⟩:=pl.isList;exact call_list_seq p (.inl rfl) ho hc hd (λh' c' kp e=>fin its r' hz h' c' kp e) (by simp only[G0]<;>omega)
 ·obtain⟨its,r',pl,hz⟩:=I.tuple hq;have hlen:=r'.length;obtain⟨o,ho,hc,n,hd⟩:=pl;exact call_list_seq p (.inr rfl) ho hc hd (λh' c' kp e=>fin its r' hz h' c' kp e) (by simp only[G0]<;>omega)
def tyV(K:PySem.W.Frag)(T:String)(x:V)(H:Hp):Prop:=match x with
 |.str _=>T="str"
 |.int _=>T="int"
 |.ref p=>(T="list"/\∃xs,SqL K H p xs)\/(T="tuple"/\∃o,K.lookup p=some o/\o.cls=.type "tuple"/\o.dict=none) \/
  (T="dict"/\((∃kvs,H p=some (.dK kvs))\/∃kvs,H p=some (.dT kvs)))\/(T="set"/\∃S n,H p=some (.set S n))
 |_=>False
theorem oJ{pins:List (Addr×Obj)}{σ:St}{H:Hp}{s:Shared}{T:String}{x:V}{v:Value}(I:Inv X pins σ H s)(r:RelV x v)(ty:tyV X.K T x H) :
 s.TypeIs v T/\∀a,v=.ref a->∃ob,s.heap.get? a=some ob/\ob.dict=none:=by
 cases x with
 |str z =>obtain⟨t,rfl⟩:=r;cases(show T="str" from ty);exact⟨typeIs_str s z t,λ_ e=>nomatch e⟩
 |int i =>obtain⟨t,rfl⟩:=r;cases(show T="int" from ty);exact⟨typeIs_int s i t,λ_ e=>nomatch e⟩
 |ref p =>
  cases r;rcases ty with⟨rfl,xs,hq⟩ |⟨rfl,o,hk,hc,hd⟩ |⟨rfl,hk⟩ |⟨rfl,S,n,hk⟩
  ·obtain⟨its,_,pl,_⟩:=I.list hq;refine⟨pl.isList.typeIs,λa e=>?_⟩;cases e;obtain⟨o,n,e,c,hd,_⟩:=pl;exact⟨o,e,hd⟩
  ·refine⟨⟨o,I.kIn p o hk,hc⟩,λa e=>?_⟩;cases e;exact⟨o,I.kIn _ o hk,hd⟩
  ·have z:∃o,s.heap.get? p=some o/\o.ExactDict:=by
    rcases hk with⟨kvs,hk⟩ |⟨kvs,hk⟩
    ·obtain⟨_,_,_,_,o,_,_,e,ex,_⟩:=I.hok p _ hk;exact⟨o,e,ex⟩
    ·obtain⟨_,_,_,_,o,_,_,e,ex,_⟩:=I.hok p _ hk;exact⟨o,e,ex⟩
   obtain⟨o,e,ex⟩:=z;refine⟨⟨o,e,ex.1⟩,λa e2=>?_⟩;cases e2;exact⟨o,e,ex.2.1⟩
  ·obtain⟨o,_,_,_,e,ex,_⟩:=I.hok p _ hk;refine⟨⟨o,e,ex.1⟩,λa e2=>?_⟩;cases e2;exact⟨o,e,ex.2.1⟩
 |_=>exact False.elim ty
def wy(K:PySem.W.Frag)(T:String)(r:V->List V->Hp->VK->Prop)(to:TE):TE:=λσ H Q=>to σ H λx H1=>tyV K T x H1/\r x [] H1 Q
def tBM(K:PySem.W.Frag)(T:String)(r:V->List V->Hp->VK->Prop)(to:TE)(t:TA):TE:=λσ H Q=>to σ H λx H1=>tyV K T x H1/\t σ H1 λxs H2=>r x xs H2 Q
variable {o e:Expr}{es:List Expr}{to:TE}{t:TA}{name:Str}{apos cpos:Pos}{T id:String}{r:V->List V->Hp->VK->Prop}
theorem yG(pa:PlainAttrs T)(slot:Slot T name id)(hty:typeOf (.builtin id)=pure (.type "method_descriptor"))(hm:MtR X id r)(ho:PE X o to)
 (hbase:attributeBase o name X.env (eval o X.env)=eval o X.env:=by rfl) (hline:(apos.endLine == cpos.line)=true:=by rfl):PE X (.Call (.Attribute o name apos) [] [] cpos) (wy X.K T r to):=by
 intro pins s σ H Q I h;refine wpAny_Call_method0_late hbase hline (thn (ho pins s σ H _ I h) λv s1 ⟨x,H1,I1,r1,ty,q1⟩=>?_);obtain⟨h1,h2⟩:=oJ I1 r1 ty;exact⟨T,id,pa,slot,hty,h1,h2,Calls.callWith_builtin rfl (PySem.evalArgs_none (hm pins s1 σ H1 x [] v [] Q I1 r1 .nil q1))⟩
theorem e8(pa:PlainAttrs T)(slot:Slot T name id)(hty:typeOf (.builtin id)=pure (.type "method_descriptor"))(hm:MtR X id r)(ho:PE X o to)(ha:PA X (e::es) t)
 (hbase:attributeBase o name X.env (eval o X.env)=eval o X.env:=by rfl)
 (hfew:((backTo cpos (starEach (e::es) X.env)).all (λx=>!x.1)&&(backToKw cpos (keywordEach [] X.env)).all (λx=>x.1.isSome)
   && decide ((e::es).length+([]:List Keyword).length+(if([]:List Keyword).isEmpty then 0 else 1)<30))=true:=by rfl)
 (hline:(apos.endLine == cpos.line)=true:=by rfl) (hs:starEach (e::es) X.env=(false,eval e X.env)::starEach es X.env:=by rfl) (hplain:(backTo cpos (starEach es X.env)).any (·.1)=false:=by rfl) :
 PE X (.Call (.Attribute o name apos) (e::es) [] cpos) (tBM X.K T r to t):=by
 intro pins s σ H Q I h;refine wpAny_Call_method_late hbase hfew hline rfl (thn (ho pins s σ H _ I h) λv s1 ⟨x,H1,I1,r1,ty,q1⟩=>?_);obtain⟨h1,h2⟩:=oJ I1 r1 ty;refine⟨T,id,pa,slot,hty,h1,h2,?_⟩;have hA:=ha cpos pins s1 σ H1 _ I1 q1;rw[hs]at hA ⊢;refine Calls.callWith_builtin (by show(false || (backTo cpos (starEach es X.env)).any (·.1))=false;rw[hplain]<;>rfl) (Calls.evalArgs_plain ?_);exact thn hA λus s2 ⟨vs,H2,I2,r2,q2⟩=>hm pins s2 σ H2 x vs v us Q I2 r1 r2 q2
end
noncomputable def MtM(X:Cx)(id:String)(r:V->List V->Hp->VK->Prop):Prop :=
 ∀(pins:List (Addr×Obj)) (s:Shared) (σ:St) (H:Hp) (x:V) (xs:List V) (v:Value) (us:List Value) (Q:VK),Inv X pins σ H s->RelV x v->Vals xs us->r x xs H Q ->
  wpAny (model X.prog X.w) X.A (call (.builtin id) (v::us)) (EP X pins σ Q) X.xe s
theorem Vals.one:∀{x:V} {us:List Value},Vals [x] us->∃u,us=[u]/\RelV x u
 |_,_,.cons r .nil=>⟨_,rfl,r⟩
theorem Vals.two:∀{x y:V} {us:List Value},Vals [x,y] us->∃u v,us=[u,v]/\RelV x u/\RelV y v
 |_,_,_,.cons r (.cons q .nil)=>⟨_,_,rfl,r,q⟩
theorem Vals.zero:∀{us:List Value},Vals [] us->us=[]
 |_,.nil=>rfl
theorem Vals.reverse{xs:List V}{us:List Value}(h:Vals xs us):Vals xs.reverse us.reverse:=by
 induction h with
 |nil=>exact .nil
 |cons r t ih=>rw[List.reverse_cons,List.reverse_cons];exact Vals.append ih (.cons r .nil)
theorem Vals.rep{xs:List V}{us:List Value}(h:Vals xs us):∀k:Nat,Vals (List.replicate k xs).flatten (List.replicate k us).flatten
 |0=>.nil
 |k+1=>by rw[HX,HX,II,II];exact Vals.append h (Vals.rep h k)
theorem tV(its:List Value):∀(k:Nat) (acc:List Value),
 List.foldl (λx1 x2=>x1++x2) acc.toArray (List.replicate k its.toArray)=(acc++(List.replicate k its).flatten).toArray
 |0,acc=>by simp
 |k+1,acc=>by
  have e:acc.toArray++its.toArray=(acc++its).toArray:=by simp
  have e2:(acc++its)++(List.replicate k its).flatten=acc++(List.replicate (k+1) its).flatten:=by rw[HX,II,List.append_assoc]
  rw[<- e2,<- tV its k (acc++its),<- e,HX,List.foldl_cons]
section
variable {X:Cx}{pins:List (Addr×Obj)}{σ:St}{H:Hp}{s:Shared}{l b:Addr}{xs ys zs:List V}
theorem Inv.lset{its its':List Value}{n:Nat}{f:Array Value->Array Value}{t':Nat}(I:Inv X pins σ H s)(hH:H l=some (.lst xs))
 (e:s.heap.get? l=some { cls:=.type "list",data:=.seq its.toArray n }) (hf:f its.toArray=its'.toArray) (hv:Vals ys its') (hz:ys.length<=sizeLine) :
 Inv X pins σ (upd H l (.lst ys)) { s with heap:=s.heap.update l (Obj.mapSeq f),toks:=t' }:=by
 have q:=PySem.IsL.update e f;rw[hf]at q;refine I.write (x:=l) (e:=l) (by rw[hH];exact trivial) (.inl rfl) (λb' u hb hu=>(Heap.get?_update_other s.heap (Obj.mapSeq f) (Ne.symm hb)).trans hu) ⟨_,q⟩ ?_;exact⟨hz,its',_,hv,q⟩
theorem Inv.lnew{its:List Value}{t':Nat}(I:Inv X pins σ H s)(hv:Vals ys its)(hz:ys.length<=sizeLine) :
 Inv X pins σ (upd H s.heap.objs.size (.lst ys)) { s with heap:=s.heap.push { cls:=.type "list",data:=.seq its.toArray },toks:=t' } :=
 I.laid (λ_ _ q=>Heap.get?_push_of_some _ q) (GP _) ⟨hz,its,0,hv,Heap.get?_push_size _ rfl⟩
theorem Inv.fresh(I:Inv X pins σ H s):H s.heap.objs.size=none:=I.hok.fresh (GP _)
theorem Inv.lstM(I:Inv X pins σ H s)(hH:H l=some (.lst xs)):xs.length<=sizeLine/\∃(its:List Value) (n:Nat),Vals xs its/\xs.length=its.length/\s.heap.get? l=some { cls:=.type "list",data:=.seq its.toArray n }:=by obtain⟨z,its,n,r,e⟩:=I.hok l _ hH;exact⟨z,its,n,r,r.length,e⟩
theorem Aa{n:Nat}(h:n<=sizeLine):Builtin.List.listTooLong n=false:=by unfold Builtin.List.listTooLong;exact decide_eq_false (by omega)
end
section
variable {X:Cx}
noncomputable def x8:V->List V->Hp->VK->Prop:=λx vs H Q=>∃l xs y,x=.ref l/\vs=[y]/\H l=some (.lst xs)/\xs.length<sizeLine/\Q .non (upd H l (.lst (xs++[y])))
theorem fe:MtM X "list.append" x8:=by intro pins s σ H x vs v us Q I rx rv h;obtain⟨l,xs,y,rfl,rfl,hH,hz,q⟩:=h;cases rx;obtain⟨u,rfl,ru⟩:=rv.one;obtain⟨z,its,n,r,hl,e⟩:=I.lstM hH;refine call_meets F.slot_list_append ⟨_,e,rfl⟩ F.entry_list_append (F.args_list_append_2 _ _) (PySem.list_append l its.toArray n u (by rw[G0];omega)) ⟨e,?_⟩;refine⟨.non,_,I.lset (its':=its++[u]) hH e (by simp) (r.append (.cons ru .nil)) ?_,rfl,q⟩;rw[GZ,List.length_singleton];omega
noncomputable def x5:V->List V->Hp->VK->Prop:=λx vs H Q=>∃l xs,x=.ref l/\vs=[]/\H l=some (.lst xs)/\Q .non (upd H l (.lst []))
theorem Ak:MtM X "list.clear" x5:=by intro pins s σ H x vs v us Q I rx rv h;obtain⟨l,xs,rfl,rfl,hH,q⟩:=h;cases rx;have hus:=rv.zero;subst hus;obtain⟨z,its,n,r,hl,e⟩:=I.lstM hH;refine call_meets F.slot_list_clear ⟨_,e,rfl⟩ F.entry_list_clear (F.args_list_clear_1 _) (AutoSeq1.list_clear_list_0 l its.toArray n (by rw[G0];omega)) ⟨e,?_⟩;exact⟨.non,_,I.lset (its':=[]) (ys:=[]) hH e rfl .nil (GR _),rfl,q⟩
def x6:R2:=λx y H Q=>∃l b xs zs,x=.ref l/\y=.ref b/\H l=some (.lst xs)/\H b=some (.lst zs)/\xs.length+zs.length<=sizeLine/\∀p,H p=none->Q (.ref p) (upd H p (.lst (xs++zs)))
theorem yP:OpR X (binaryOp .Add) x6:=by
 intro pins s σ H x y v u Q I rx ry h;obtain⟨l,b,xs,zs,rfl,rfl,hH,hB,hz,q⟩:=h;cases rx;cases ry;obtain⟨z,its,n,r,hl,e⟩:=I.lstM hH;obtain⟨z2,its2,n2,r2,hl2,e2⟩:=I.lstM hB;refine PySem.P.add_list e e2 ?_ (by rw[G0,G0];omega);have ea:its.toArray++its2.toArray=(its++its2).toArray:=by simp
 rw[ea];exact⟨.ref _,_,I.lnew (t':=s.toks) (r.append r2) (by rw[GZ];omega),rfl,q _ I.fresh⟩
def xY:R2:=λx y H Q=>∃l k xs,x=.ref l/\y=.int k/\H l=some (.lst xs) /\ -(2^63)<=k/\k<2^63/\xs.length*k.toNat<=sizeLine /\
 ∀p,H p=none->Q (.ref p) (upd H p (.lst (List.replicate k.toNat xs).flatten))
theorem A1{α:Type}(xs:List α)(k:Nat):(List.replicate k xs).flatten.length=k*xs.length:=by
 induction k with
 |zero=>simp
 |succ k ih=>rw[HX,II,GZ,ih,Nat.succ_mul,Nat.add_comm]
theorem rD:OpR X (binaryOp .Mult) xY:=by
 intro pins s σ H x y v u Q I rx ry h;obtain⟨l,k,xs,rfl,rfl,hH,h1,h2,hz,q⟩:=h;cases rx;obtain⟨t,rfl⟩:=ry;obtain⟨z,its,n,r,hl,e⟩:=I.lstM hH;have hlen:its.toArray.size*k.toNat<=sizeLine:=by rw[G0,<- hl];exact hz
 have hcap:¬its.toArray.size*k.toNat>(2^63-1)/8:=by
  have:(sizeLine:Nat)<=(2^63-1)/8:=by decide
  omega
 have hfit:¬(!Builtin.List.listFitsIndex k)=true:=by rw[fitsIndex_both h1 h2];exact Ih
 have hlong:¬Builtin.List.listTooLong (its.toArray.size*k.toNat)=true:=by rw[Aa hlen];exact Ih
 have hnew:List.foldl (λx1 x2=>x1++x2) #[] (List.replicate (if its.toArray.isEmpty=true then 0 else k.toNat) its.toArray)=(List.replicate k.toNat its).flatten.toArray:=by
  have f0:∀m:Nat,List.foldl (λx1 x2=>x1++x2) #[] (List.replicate m its.toArray)=(List.replicate m its).flatten.toArray:=λm=>by have:=tV its m [];rw[List.nil_append]at this;exact this
  rw[f0];cases its with
  |nil=>simp
  |cons a r'=>rw[if_neg (by simp)]
 refine wpAny_binaryOp_repeat_ref (T:="list") (U:="int") (by decide) ⟨_,e,rfl⟩ (λs'=>typeIs_int s' k t) noFill_list_mul F.fills_int_mul F.slot_int_rmul repeat_list F.slot_int_index.lookup
  (call_meets F.slot_int_rmul (typeIs_int s k t) F.entry_int_rmul (F.args_int_rmul_2 _ _) (int___rmul___int_list k t l its.toArray n)
    ⟨e,rfl,⟨_,e,rfl⟩,call_meets F.slot_list_mul ⟨_,e,rfl⟩ F.entry_list_mul (F.args_list_mul_2 _ _) (AutoListH.list___mul___list_int_3 l its.toArray n k t hfit hcap hlong) ⟨e,?_⟩⟩)
 rw[hnew];exact⟨.ref _,_,I.lnew (t':=s.toks) (r.rep k.toNat) (by rw[A1,Nat.mul_comm];exact hz),rfl,q _ I.fresh⟩
end
section
variable {prog:Program}{w:World}{A:Around}{E:Value->Shared->Prop}{s:Shared}
end
section
variable {X:Cx}
end
end L2
namespace Att
open PySem PySem.W PySem.Calls PyProof.Rows
theorem BI{P:Params}{h:Heap}:∀(ns:List Int) (vs:List Value),WellAll P h vs (ns.map WData.int)->IntsAre vs ns:=by
 intro ns
 induction ns with
 |nil =>intro vs w;rw[Iw]at w;cases w;exact .nil
 |cons n ns ih =>
  intro vs w;rw[HC]at w;cases w with
  |cons a b =>cases a;exact .cons _ _ (ih _ b)
theorem xg{l:OpenLaw}{n:Nat}(hn:l.most=some n){P:Params}{h:Heap}{args:List WData}{vals:List Value}
 (hpre:l.row.toRowW.claim.pre args=true) (hwl:WellAll P h vals args) :
 ∃a vs ns,vals=[Value.ref a]/\args=[WData.list (ns.map WData.int)]/\h.get? a=some { cls:=.type "list",data:=.seq vs.toArray }/\IntsAre vs ns/\ns.length<=n:=by
 have hsh:WShape.hasAll [] args [.list .int]=true:=(pre_splitW hpre).1;have hc:l.pre.holds [] { args:=args }=true:=(pre_splitW hpre).2;obtain⟨d,r,rfl,h1,h2⟩:=hasAllW_cons hsh;obtain rfl:=hasAllW_nil h2;obtain⟨xs,rfl,h3⟩:=hasW_list h1;obtain⟨ns,rfl⟩:=items_int h3
 have hlen:ns.length<=n:=by
  unfold OpenLaw.pre at hc
  have h4:(WTm.not (.lt (.lit (.int (n:Int))) (.len (.arg 0)))).holds [] { args:=[.list (ns.map .int)] }=true:=by have h4:=(holds_andW hc).1;rw[hn]at h4;exact h4
  have h5:=condW_of h4 (w_not (w_lt w_lit (w_len_list (w_arg rfl))));rw[GO]at h5;refine HG λq=>?_
  have q':(n:Int)<((ns.length:Nat):Int):=by omega
  first
   | (rw[decide_eq_true q']at h5;exact absurd h5 (by decide))
   | (simp at h5;omega)
 cases hwl with
 |cons w1 w2 =>
  cases w2;cases w1 with
  |list ho hall=>exact⟨_,_,ns,rfl,rfl,ho,BI ns _ hall,hlen⟩
theorem yg(l:OpenLaw)(args:List WData):l.row.toRowW.claim.post args (.bool true) args=true :=
 postW_of (r:=l.row.toRowW) (X:=(true == true))
  (show WShape.has [] (.bool true) .bool=true by first |rfl |decide |simp[WShape.has,WShape.arms,WShape.armsAll])
  (show(WTm.eq .res (.lit (.bool true))).value [] { args:=args,res:=some (.bool true),after:=args }=some (.bool (true == true))from w_eq_bool (w_res rfl) w_lit) rfl
theorem attach_call{l:OpenLaw}{n:Nat}{q:Program}{loose:List Str}{XP:(Str->Option Value)->Heap->Prop}{YP:World->Heap->Prop}{d:DefRec}
 (hn:l.most=some n) (hdf:d.params.defaults=[])
 (call:∀(w:World) (s₀ s₁:Shared) (mg mb:Str->Option Value) (fa:Addr) (o:Obj) (pm cd doc:Value) (a:Addr) (vs:List Value) (ns:List Int),
   Ground q loose [] XP w s₀ mg mb s₁.heap->YP w s₁.heap ->
   s₁.heap.get? fa=some o->o.data=.func (docDef d.name d.params d.body d.scope pm cd doc)->s₁.heap.CodeRec cd d.name->mg d.name=some (.ref fa) ->
   s₁.heap.get? a=some { cls:=.type "list",data:=.seq vs.toArray }->IntsAre vs ns->ns.length<=n->s₁.gens=#[] ->
   codeAny (model l.prog w) callerA (.call (.ref fa) ⟨[.ref a],[]⟩) (λr s'=>r=.ok (.ret (.bool true))/\OldK s₁.heap s'.heap/\s'.os=s₁.os/\AllBare s'.gens) s₁) :
 WalkO q loose XP YP l.row.toRowW d [] (λf vs=>PySem.call f vs):=by
 intro w s₀ s₁ mg mb G Y fa o pm cd doc dV kV ho hd hcd hD hmg hg args vals as hpre hlay hrd hwl hlo;obtain rfl:dV=.none:=Dflts.none hD hdf;obtain rfl:kV=.none:=Dflts.noKw hD;obtain⟨a,vs,ns,rfl,rfl,hobj,hints,hlen⟩:=xg hn hpre hwl;refine enter_call (codeAny_mono (call w s₀ s₁ mg mb fa o pm cd doc a vs ns G Y ho (fd_plain hd) hcd hmg hobj hints hlen hg) λr s' hq=>?_);obtain⟨rfl,h2,h3,h4⟩:=hq;exact⟨.inl ⟨.bool true,.bool true,[],rfl,λ_=>rfl,.bool true,yg l _,λ_=>⟨List.Pairwise.nil,λ_ hm=>(nomatch hm)⟩⟩,h2,h3,h4⟩
section
variable {prog:Program}{w:World}{A:Around}{E:Value->Shared->Prop}{s:Shared}{K:Frag}
end
end Att
namespace L2
open PySem PySem.Spec PyProof.Rows
theorem oG:∀{vs:List Value} {ns:List Int},IntsAre vs ns->Vals (ns.map V.int) vs
 |_,_,.nil=>.nil
 |_,_,.cons n t h=>.cons ⟨t,rfl⟩ (oG h)
def nV(H:Hp):Prop:=∀b,H b=none\/∃o xs,H b=some (.frz o (.lst xs))
noncomputable def mF(s:Stmt)(j:Nat):Stmt:=match s with
 |.ClassDef _ _ _ body _ _ _ _ _ _ _=>body.getD j (.Pass ⟨0,0,0,0⟩)
 |_=>.Pass ⟨0,0,0,0⟩
noncomputable def cJ(s:Stmt):Arguments:=match s with
 |.FunctionDef _ a _ _ _ _ _ _ _ _=>a
 |_=>{ posonlyargs:=[],args:=[],vararg:=none,kwonlyargs:=[],kw_defaults:=[],kwarg:=none,defaults:=[] }
noncomputable def cw(s:Stmt):List Stmt:=match s with
 |.FunctionDef _ _ b _ _ _ _ _ _ _=>b
 |_=>[]
noncomputable def av(s:Stmt):Scope:=match s with
 |.FunctionDef _ _ _ _ _ _ sc _ _ _=>sc
 |_=>{ kind:=.function,names:=[],isGenerator:=false,isCoroutine:=false }
abbrev CX0:CXT:=λ_ _ _ _ _ _=>False
abbrev E0:XK:=λ_ _ _=>False
theorem al{X:Cx}:gl CX0 X E0:=λ_ _ _ _ _ _ _ h=>h.elim
structure Fun(K:PySem.W.Frag)(x qual:Str)(st:Stmt)(f:Addr)(fd:FuncData):Prop where
 ex:∃(oc:Value) (od:Option Addr) (kV doc pm:Value) (an:Option Addr) (cdv ct:Value) (osl:Array (Option Value)),
  fd=PySem.W.fnOf x qual (cJ st) (cw st) (av st) .none kV doc pm an cdv ct/\K.lookup f=some ⟨oc,od,.func fd,osl⟩/\PySem.W.codeIn K cdv qual=true
 kp:PySem.W.keepIn K (.ref f)=true
section
variable {P:Program}{w:World}{K:PySem.W.Frag}{mg:Str->Option Value}{base:Heap}
theorem Fun.ok{x qual:Str}{st:Stmt}{f:Addr}{fd:FuncData}{N ps:List Str}{k:Nat}{sp:Sp}(F:Fun K x qual st f fd)(S:FnScope N ps (av st))(len:∀vs H Q E,sp vs H Q E->vs.length=ps.length)
 (hbody:∀(cdv:Value) (A:Around) (outer:List Env) (s:Shared) (H:Hp) (vs:List V) (Q:VK) (E:XK),Room k (A.deeper (envOfC qual (av st) s.heap.objs.size f cdv))->sp vs H Q E ->
   ∃t,PSs (fu CX0 P w K mg base N qual (av st) f cdv A outer s H E).nox (cw st) t/\t { nx:=λ_ H'=>Q .non H',rt:=Q } (dm N vs) H):FnOk P w K mg base CX0 (k+1) f fd ps sp:=by
 obtain⟨oc,od,kV,doc,pm,an,cdv,ct,osl,rfl,lk,hcd⟩:=F.ex;refine tX lk hcd S len λA outer s H vs Q E hr hsp=>?_
 obtain⟨t,h,q⟩:=hbody cdv A outer s H vs Q E hr hsp;exact⟨t,h.nox,q⟩
theorem Fun.binds{x qual:Str}{st:Stmt}{f:Addr}{fd:FuncData}{ps:List Str}(F:Fun K x qual st f fd)
 (h:∀(kV doc pm:Value) (an:Option Addr) (cdv ct:Value) (us:List Value),us.length=ps.length->bindArgs (PySem.W.fnOf x qual (cJ st) (cw st) (av st) .none kV doc pm an cdv ct) ⟨us,[]⟩=pure (ps.zip us)):Binds K fd ps []:=by
 obtain⟨oc,od,kV,doc,pm,an,cdv,ct,osl,rfl,lk,hcd⟩:=F.ex;exact .all (h kV doc pm an cdv ct)
theorem tT{x qual:Str}{st:Stmt}{f:Addr}{oc:Value}{od an:Option Addr}{osl:Array (Option Value)}{kV doc pm cdv ct:Value}(l:K.lookup f=some ⟨oc,od,.func (PySem.W.fnOf x qual (cJ st) (cw st) (av st) .none kV doc pm an cdv ct),osl⟩)
 (c:PySem.W.codeIn K cdv qual=true) (k:PySem.W.keepIn K (.ref f)=true):Fun K x qual st f (PySem.W.fnOf x qual (cJ st) (cw st) (av st) .none kV doc pm an cdv ct):=⟨⟨oc,od,kV,doc,pm,an,cdv,ct,osl,rfl,l,c⟩,k⟩
end
section
variable {X:Cx}
theorem pv(i:Nat){x:Str}{pos:Pos}(hN:X.N[i]?=some x:=by rfl)(hv:Vis X.env.scope x:=by first |exact Or.inl rfl |exact Or.inr (Or.inl rfl) |exact Or.inr (Or.inr rfl))(hd:(x == ("__debug__":Str))=false:=by decide)
 (hcd:(x == ("__classdict__":Str))=false:=by decide):PE X (.Name x pos) (oR i):=yA hN hv hd hcd
end
def Same(H H':Hp):Prop:=∀b o,H b=some o->H' b=some o
theorem Same.refl(H:Hp):Same H H:=λ_ _ h=>h
theorem Same.trans{H H1 H2:Hp}(a:Same H H1)(b:Same H1 H2):Same H H2:=λc o h=>b c o (a c o h)
theorem Same.free{H H':Hp}(e:Same H H'){l:Addr}(h:H' l=Option.none):H l=Option.none:=by
 cases q:H l with
 |none=>rfl
 |some o =>rw[e l o q]at h;cases h
theorem Same.seq{K:PySem.W.Frag}{H H':Hp}{a:Addr}{xs:List V}(e:Same H H')(h:SqL K H a xs):SqL K H' a xs:=by
 rcases h with(h |⟨o,h⟩) |h
 ·exact .inl (.inl (e _ _ h))
 ·exact .inl (.inr ⟨o,e _ _ h⟩)
 ·exact .inr h
end L2
set_option maxHeartbeats 4000000
namespace L2
open PySem PySem.Spec PyProof.Rows
noncomputable def dh(X:Cx)(N:List Str)(scope:Scope)(cl:List (Str×Addr))(C:Addr)(s₀:Shared)(H₀:Hp)(ex:List Addr):Cx where
 prog:=X.prog
 w:=X.w
 K:=X.K
 mg:=X.mg
 base:=X.base
 A:=X.A
 N:=N
 s₀:=s₀
 H₀:=H₀
 env:=compEnvC scope cl C X.env
 outer:=X.stack
 stack:=X.stack
 ex:=ex
 fn:=λ_=>false
 calm:=X.calm
 pn:=[]
 xe:=λ_ _=>False
structure CompOk(X:Cx)(fr:List Str)(js:List Nat)(scope:Scope)(cl:List (Str×Addr)):Prop where
 clos:closureFor scope X.env=pure cl
 cell:∀y∈scope.names,y.2≠.cell
 kind:scope.kind=.function
 names:∀y∈scope.names,y.2=.local->scope.names.lookup y.1=some .local
 clin:∀p∈cl,X.env.cells.lookup p.1=some p.2
 has:scope.names.all (λp=>p.2 != .free || (cl.lookup p.1).isSome)=true
 fre:Paired (λ(x:Str) (j:Nat)=>X.N[j]?=some x/\(X.env.scope.names.lookup x=some .cell\/X.env.scope.names.lookup x=some .free)/\scope.names.lookup x=some .free) fr js
theorem lj{env:Env}{x:Str}{k':NameKind}:∀{names:List (Str×NameKind)},
 (names.map λ(n,k)=>if(k == NameKind.free&&env.scope.kind == .function&&env.kindOf n == some .cell)then(n,NameKind.cell)else(n,k)).lookup x=some k' ->
 ∃k,names.lookup x=some k/\(k'=k\/(k=.free/\k'=.cell))
 | [],h=>by simp at h
 | (n,k)::r,h=>by
  have ih:=@lj env x k' r;change List.lookup x ((if(k == NameKind.free&&env.scope.kind == .function&&env.kindOf n == some .cell)=true then(n,NameKind.cell)else(n,k))::_)=_ at h
  by_cases hc:(k == NameKind.free&&env.scope.kind == .function&&env.kindOf n == some .cell)=true
  ·rw[if_pos hc]at h;cases hx:x == n with
   |true =>simp only[HY,hx]at h ⊢;cases h;refine⟨k,rfl,.inr ⟨?_,rfl⟩⟩;simp only[Bool.and_eq_true,beq_iff_eq]at hc;exact hc.1.1
   |false =>simp only[HY,hx]at h ⊢;exact ih h
  ·rw[if_neg hc]at h;cases hx:x == n with
   |true =>simp only[HY,hx]at h ⊢;cases h;exact⟨_,rfl,.inl rfl⟩
   |false =>simp only[HY,hx]at h ⊢;exact ih h
theorem qF{env:Env}{x:Str}:∀{names:List (Str×NameKind)},names.lookup x=some .free ->
 (names.map λ(n,k)=>if(k == NameKind.free&&env.scope.kind == .function&&env.kindOf n == some .cell)then(n,NameKind.cell)else(n,k)).lookup x=some .cell \/
 (names.map λ(n,k)=>if(k == NameKind.free&&env.scope.kind == .function&&env.kindOf n == some .cell)then(n,NameKind.cell)else(n,k)).lookup x=some .free
 | [],h=>by simp at h
 | (n,k)::r,h=>by
  have ih:=@qF env x r;show List.lookup x ((if(k == NameKind.free&&env.scope.kind == .function&&env.kindOf n == some .cell)=true then(n,NameKind.cell)else(n,k))::_)=_\/List.lookup x ((if(k == NameKind.free&&env.scope.kind == .function&&env.kindOf n == some .cell)=true then(n,NameKind.cell)else(n,k))::_)=_;by_cases hc:(k == NameKind.free&&env.scope.kind == .function&&env.kindOf n == some .cell)=true
  ·rw[if_pos hc];cases hx:x == n with
   |true=>simp only[HY,hx];exact .inl trivial
   |false=>simp only[HY,hx]at h ⊢;exact ih h
  ·rw[if_neg hc];cases hx:x == n with
   |true =>simp only[HY,hx]at h ⊢;cases h;exact .inr rfl
   |false=>simp only[HY,hx]at h ⊢;exact ih h
noncomputable def dX(n:Nat)(js:List Nat)(σ:St):St:=List.replicate n none++js.map λj=>(σ[j]?).join
def jL(n:Nat)(js:List Nat)(g:TG)(te:TE)(σ:St)(Q:VK)(J:It)(H1:Hp):Prop:=∃W:Nat->Nat->List V->St->Hp->Prop,(∃m,W 0 m [] (dX n js σ) H1) /\
 ∀i m ys σ' H',W i m ys σ' H' ->
  (J.stop i H'/\∀p,H' p=none->Q (.ref p) (upd H' p (.lst ys))) \/
  (J.go i H'/\ys.length<sizeLine/\∃N:V->St->Hp->Prop,(∀y σ'' H'',N y σ'' H''->∃m',m'<m/\W (i+1) m' (ys++[y]) σ'' H'')/\∀x H2,J.yld i H' x H2->g x σ' H2 λσ3 H3=>te σ3 H3 λy H4=>N y σ3 H4)
def oY(n:Nat)(js:List Nat)(wi:TI)(g:TG)(te:TE):TE:=λσ H Q=>wi σ H λJ H1=>jL n js g te σ Q J H1
noncomputable def Ew(X:Cx)(pins:List (Addr×Obj))(σ:St)(Q:VK)(D C:Addr)(s':Shared):Prop :=
 ∃H2,Inv X pins σ H2 s'/\Q (.ref D) H2/\H2 C=none/\C≠X.env.locals/\X.s₀.heap.objs.size<=C/\(∀x c,X.env.cells.lookup x=some c->c≠C)/\(∀p∈X.pn++pins,p.1≠C)/\∃m,s'.heap.Ns C m
section
variable {X:Cx}{own fr:List Str}{js:List Nat}{scope:Scope}{cl:List (Str×Addr)}{elt target iter:Expr}{pos:Pos}{wi:TI}{g:TG}{te:TE}
theorem eu(O:CompOk X fr js scope cl){x:Str}{c:Addr}(e:cl.lookup x=some c):X.env.cells.lookup x=some c:=O.clin (x,c) (PySem.mem_of_lookup e)
theorem uF{pins:List (Addr×Obj)}{σ:St}{H:Hp}{s:Shared}{fp:List Addr}{C:Addr}(O:CompOk X fr js scope cl)(I:Inv X pins σ H s)(hC:s.heap.objs.size<=C)(hf:∀b∈fp,dl X pins H b)(ho:∀b∈fp,b<s.heap.objs.size) :
 (dh X (own++fr) scope cl C s H fp).Ok:=by
 refine⟨I.ok.mod,O.kind,I.ok.glob,I.ok.blt,hC,λx y c h1 h2=>I.ok.inj x y c (eu O h1) (eu O h2),λx hx=>?_,λx c h=>(by cases h),I.ok.hd,I.ok.frames,.inl rfl,λb hb=>?_,I.bs,?_,λb o e hb=>?_,λb hb hb'=>?_,I.stack,I.stkFree⟩
 ·have key:scope.names.lookup x=some .free:=by
   have hx':(scope.names.map λ(n,k)=>if(k == NameKind.free&&X.env.scope.kind == .function&&X.env.kindOf n == some .cell)then(n,NameKind.cell)else(n,k)).lookup x=some .cell \/
    (scope.names.map λ(n,k)=>if(k == NameKind.free&&X.env.scope.kind == .function&&X.env.kindOf n == some .cell)then(n,NameKind.cell)else(n,k)).lookup x=some .free:=hx
   rcases hx' with h |h
   ·obtain⟨k,e,z⟩:=lj h;rcases z with z |⟨z,_⟩
    ·subst z;exact absurd rfl (O.cell _ (PySem.mem_of_lookup e))
    ·subst z;exact e
   ·obtain⟨k,e,z⟩:=lj h;rcases z with z |⟨_,z⟩
    ·subst z;exact e
    ·cases z
  have hm:=Ix.mp O.has _ (PySem.mem_of_lookup key);have hs:(cl.lookup x).isSome=true:=by simpa using hm
  exact Option.isSome_iff_exists.mp hs
 ·obtain⟨f0,f1,f2,f3,f4,f5⟩:=hf b hb;exact⟨G6 (G5 (ho b hb) hC),λx c e=>f4 x c (eu O e)⟩
 ·exact GW I.ok.bsz I.sz
 ·obtain⟨f0,f1,f2,f3,f4,f5⟩:=hf b hb;rcases f3 with z |z
  ·exact I.ok.noex b o e z
  ·exact absurd (G5 (Heap.lt_size e) (GW I.ok.bsz z)) (HJ _)
 ·obtain⟨f0,f1,f2,f3,f4,f5⟩:=hf b hb;rcases GX.mp (I.stkSub b hb')with z |z
  ·exact f1 z
  ·exact f2 z
theorem Paired.idx{α β:Type}{F:α->β->Prop}:∀{l₁:List α} {l₂:List β},Paired F l₁ l₂->∀(i:Nat) (a:α) (b:β),l₁[i]?=some a->l₂[i]?=some b->F a b
 |_,_,.nil,_,_,_,h,_=>by simp at h
 |_,_,.cons r _,0,a,b,h1,h2=>by simp at h1 h2;subst h1;subst h2;exact r
 |_,_,.cons _ t,i+1,a,b,h1,h2=>Paired.idx t i a b (by simpa using h1) (by simpa using h2)
theorem CU{pins:List (Addr×Obj)}{σ:St}{H:Hp}{s s':Shared}{fp:List Addr}{C:Addr}{m:Str->Option Value}(O:CompOk X fr js scope cl)(hl:fr.length=js.length)(I:Inv X pins σ H s)(hC:s.heap.objs.size<=C)(hf:∀b∈fp,dl X pins H b)
 (ho:∀b∈fp,b<s.heap.objs.size) (os:s'.os=s.os) (hg:s'.gens=s.gens) (old:∀b o,s.heap.get? b=some o->s'.heap.get? b=some o) (hn:s'.heap.Ns C m) :
 Inv (dh X (own++fr) scope cl C s H fp) [] (dX own.length js σ) H s':=by
 refine⟨uF O I hC hf ho,os,by rw[hg];exact I.bare,Un.kept old,⟨m,hn,λi x v e1 e2 e3=>?_⟩,λx c e=>?_,I.hok.fresh hC,λx c e=>I.freeC x c (eu O e),λp hp=>absurd (show p∈([]:List (Addr×Obj))from hp) (by simp),I.hok.kept old,?_⟩
 ·unfold dX at e2
  have e1':(own++fr)[i]?=some x:=e1;by_cases hi:i<own.length
  ·rw[List.getElem?_append_left (by simpa using hi),List.getElem?_replicate]at e2;split at e2<;>cases e2
  ·have hi':own.length<=i:=HG hi;rw[List.getElem?_append_right (by simpa using hi'),IV,List.getElem?_map]at e2;rw[List.getElem?_append_right hi']at e1';cases ej:js[i-own.length]? with
   |none=>rw[ej]at e2;cases e2
   |some j =>
    rw[ej]at e2;have e2':(σ[j]?).join=some v:=Option.some.inj e2
    have eσ:σ[j]?=some (some v):=by
     cases q:σ[j]? with
     |none=>rw[q]at e2';cases e2'
     |some o=>rw[q]at e2';simp at e2';rw[e2']
    obtain⟨hN,hk,hs⟩:=Paired.idx O.fre _ x j e1' ej;obtain⟨mo,hmo,hlo⟩:=I.loc;have vis:Vis X.env.scope x:=hk.elim (λz=>.inr (.inl z)) λz=>.inr (.inr z)
    obtain⟨u,r,l⟩:=hlo j x v hN eσ vis;refine⟨u,r,.inr ⟨qF hs,?_⟩⟩;have hm:=Ix.mp O.has _ (PySem.mem_of_lookup hs);have hs':(cl.lookup x).isSome=true:=by simpa using hm
    obtain⟨c,ec⟩:=Option.isSome_iff_exists.mp hs';refine⟨c,ec,?_⟩;rcases l with⟨k,_⟩ |⟨_,c',e',z⟩
    ·have k':X.env.scope.names.lookup x=some .local:=k;rcases hk with q |q<;>(rw[q]at k';cases k')
    ·have:=eu O ec;rw[e']at this;cases this;obtain⟨oc,hoc,hd⟩:=z;exact⟨oc,old _ _ hoc,hd⟩
 ·obtain⟨v,oc,hoc,hd⟩:=I.cell x c (eu O e);exact⟨v,oc,old _ _ hoc,hd⟩
 ·unfold dX;show _=(own++fr).length;rw[GZ,GZ,IV,GO,hl]
theorem Un.adopt{fs ex:List Addr}{H H1:Hp}{h h1:Heap}{a:Addr}{o:HO}(u:Un fs ex H H1 h h1)(ha:h.objs.size<=a)(hn:H a=none):Un fs ex H (upd H1 a o) h h1 where
 keep:=u.keep
 slot:=u.slot
 free:=λb ob q n hx=>by rw[upd_ne (G6 (G5 (Heap.lt_size q) ha))];exact u.free b ob q n hx
 there:=u.there
 tups:=λb xs q=>by rw[upd_ne (aN q hn)];exact u.tups b xs q
 frzs:=λb ob xs q=>by rw[upd_ne (aN q hn)];exact u.frzs b ob xs q
 tbls:=λb ps q=>by rw[upd_ne (aN q hn)];exact u.tbls b ps q
theorem HOk.adopt{P:Program}{w:World}{H:Hp}{h:Heap}{a:Addr}{o:HO}(x:HOk P w H h)(hn:H a=none)(new:ObjOk P w (upd H a o) h a o):HOk P w (upd H a o) h:=λb u e=>by
 by_cases hb:b=a
 ·subst hb;rw[ar]at e;cases e;exact new
 ·rw[upd_ne hb]at e;exact(x b u e).stay (λc v _ q=>q) (λc q=>by rw[upd_ne (aN q hn)];exact q) λc xs q=>by rw[upd_ne (aN q hn)];exact q
theorem uM{pins:List (Addr×Obj)}{σ:St}{H:Hp}{s:Shared}{fp:List Addr}{it:Addr}{tn:Nat->Heap->Prop}{J:It}{E:Value->Shared->Prop}{Q:VK}{RR:Value->Addr->Result->Shared->Prop}(O:CompOk X fr js scope cl)(hl:fr.length=js.length)(hcm:X.calm=true)
 (I:Inv X pins σ H s) (T:Turn X.prog X.w X.K target J fp it tn) (st:tn 0 s.heap) (hf:∀b∈fp,dl X pins H b)
 (hg:∀C s₀ H₀ ex,PG (dh X (own++fr) scope cl C s₀ H₀ ex) target g) (he:∀C s₀ H₀ ex,PE (dh X (own++fr) scope cl C s₀ H₀ ex) elt te)
 (W:Nat->Nat->List V->St->Hp->Prop) {m0:Nat} (w0:W 0 m0 [] (dX own.length js σ) H)
 (turn:∀i m ys σ' H',W i m ys σ' H' ->
   (J.stop i H'/\∀p,H' p=none->Q (.ref p) (upd H' p (.lst ys))) \/
   (J.go i H'/\ys.length<sizeLine/\∃N:V->St->Hp->Prop,(∀y σ'' H'',N y σ'' H''->∃m',m'<m/\W (i+1) m' (ys++[y]) σ'' H'')/\∀x H2,J.yld i H' x H2->g x σ' H2 λσ3 H3=>te σ3 H3 λy H4=>N y σ3 H4))
 (hRR:∀D C s',Ew X pins σ Q D C s'->RR (.ref D) C (.ok .next) s') :
 wpAny (model X.prog X.w) X.A (newList []) (λacc s₃=>wpAny (model X.prog X.w) X.A (newFunctionEnv scope X.env.globals cl [] X.env.qual none .none (some X.env)) (λcenv s₄ =>
  codeAny (model X.prog X.w) X.A (.compStart (.ListComp elt [⟨target,iter,[],0⟩] scope pos) 0 (.ref it) acc { cenv with scope:=relabel scope X.env }) (RR acc cenv.locals) s₄) E s₃) E s:=by
 refine wpAny_newObj_type (wpAny_newFunctionEnv O.cell (by intro y hy;simp at hy) (λh₁ hns₁ hsb₁=>?_) O.kind);dsimp only at hns₁ hsb₁ ⊢
 generalize hH2:s.heap.push { cls:=.type "list",dict:=none,data:=.seq ([]:List Value).toArray }=H2 at hns₁ hsb₁ ⊢
 have hCs:H2.objs.size=s.heap.objs.size+1:=by rw[<- hH2,Heap.size_push]
 have hDC:s.heap.objs.size≠H2.objs.size:=by rw[hCs];exact G6 (HU _)
 have hCge:s.heap.objs.size<=H2.objs.size:=by rw[hCs];exact Nat.le_succ _
 have below:∀b,b<s.heap.objs.size->b≠H2.objs.size/\b≠s.heap.objs.size:=λb hb=>⟨by rw[hCs];exact G6 (Nat.lt_succ_of_lt hb),G6 hb⟩
 have old:∀b o,s.heap.get? b=some o->h₁.get? b=some o:=λb o e=>hsb₁.extBut b o (below b (Heap.lt_size e)).1 (Heap.get?_push_of_some _ (hH2 ▸ Heap.get?_push_of_some _ e))
 have hacc:h₁.get? s.heap.objs.size=some { cls:=.type "list",data:=.seq ([]:List Value).toArray 0 }:=hsb₁.extBut _ _ hDC (Heap.get?_push_of_some _ (hH2 ▸ Heap.get?_push_size _ rfl));have ho:∀b∈fp,b<s.heap.objs.size:=λb hb=>by obtain⟨o,e,_⟩:=T.obj 0 _ st b hb;exact Heap.lt_size e
 generalize hDe:s.heap.objs.size=D at *
 generalize hCe:H2.objs.size=C at *
 let X':Cx:=dh X (own++fr) scope cl C s H fp
 have ok':X'.Ok:=uF O I (by rw[hDe];exact hCge) hf (by rw[hDe];exact ho)
 have hDfs:D∉X'.fs:=by
  intro z;rcases GX.mp (I.stkSub D z)with q |q
  ·exact absurd I.lt (by rw[<- q,hDe];exact HJ _)
  ·exact I.nofs (Ii hDe) q
 have hDfp:∀b∈fp,D≠b:=λb hb z=>absurd (ho b hb) (by rw[z];exact HJ _)
 have hDcell:∀x c,cl.lookup x=some c->c≠D:=λx c e z=>by obtain⟨v,q⟩:=I.cell x c (eu O e);exact absurd q.lt (by rw[z,hDe];exact HJ _)
 have fpok:∀{H':Hp} {pins':List (Addr×Obj)},(∀p∈pins',p.1=D)->(∀b∈fp,H' b=none)->∀b∈fp,dl X' pins' H' b:=λ{H' pins'} hp hn b hb=>by
  obtain⟨f0,f1,f2,f3,f4,f5⟩:=hf b hb;refine⟨hn b hb,(below b (ho b hb)).1,λz=>?_,.inl hb,λx c e=>f4 x c (eu O e),λp hp'=>?_⟩
  ·rcases GX.mp (I.stkSub b z)with q |q
   ·exact f1 q
   ·exact f2 q
  ·have hp'':p∈pins':=by simpa[X',dh]using hp'
   rw[hp p hp''];exact hDfp b hb
 have loop:∀s₃:Shared,s₃={ s with heap:=h₁,toks:=s.toks+([]:List (Str×Value)).length } ->
  codeAny (model X.prog X.w) X.A (.compLoop (.ListComp elt [⟨target,iter,[],0⟩] scope pos) 0 (.ref it) (.ref D) (compEnvC scope cl C X.env)) (RR (.ref D) C) s₃:=by
  rintro s₃ rfl
  refine PySem.W.kcp_loop (λk s'=>∃i σ' H' ys its nn,Inv X' [] σ' H' s'/\tn i s'.heap/\(∀b∈fp,H' b=none)/\H' D=none/\s'.heap.get? D=some { cls:=.type "list",data:=.seq (its:List Value).toArray nn }/\Vals ys its/\ys.length<=sizeLine/\W i k ys σ' H') ?_ m0
   ⟨0,_,H,[],[],0,CU O hl I (by rw[hDe];exact hCge) hf (by rw[hDe];exact ho) rfl rfl (by intro b o e;exact old b o e) hns₁,T.keep _ _ _ st λb _ o e=>old b o e,λb hb=>(hf b hb).1,I.hok.fresh (Ii hDe),hacc,.nil,GR _,w0⟩
  rintro k s' ⟨i,σ',H',ys,its,nn,I',st',hfn,hDn,hDo,rv,hz,w⟩;have hlen:=rv.length;have hpD:∀p∈[(D,({ cls:=.type "list",data:=.seq its.toArray nn }:Obj))],p.1=D:=λp hp=>by rw[G1.mp hp]
  have Ip:Inv X' [(D,({ cls:=.type "list",data:=.seq its.toArray nn }:Obj))] σ' H' s':=I'.pins_of λp hp=>by rw[G1.mp hp];exact⟨hDo,hDn,hDC,hDfs,λv z=>by cases z⟩
  rcases turn i k ys σ' H' w with⟨stop,fin⟩ |⟨go,hlt,N,hN,step⟩
  ·refine wpAny_mono (T.done X' rfl rfl rfl hcm i _ s' σ' H' (λ_ _=>False) Ip (fpok hpD hfn) st' stop) (λr s4 ⟨hr,I4⟩=>?_) λ_ _ z=>False.elim z
   subst hr;refine hRR D C s4 ?_;have hD4:s4.heap.get? D=some { cls:=.type "list",data:=.seq its.toArray nn }:=(I4.pin _ (Ht _ (G1.mpr rfl))).1;have un:Un (frs X.stack) fp H (upd H' D (.lst ys)) s.heap s4.heap:=Un.adopt I4.base (Ii hDe) (I.hok.fresh (Ii hDe));have hok:HOk X.prog X.w (upd H' D (.lst ys)) s4.heap:=HOk.adopt I4.hok hDn ⟨hz,its,nn,rv,hD4⟩;refine⟨upd H' D (.lst ys),I.call' I4.os un hok I4.bare λb hb=>?_,fin D hDn,?_,?_,?_,λx c e z=>?_,λp hp z=>?_,?_⟩
   ·obtain⟨f0,f1,f2,f3,f4,f5⟩:=hf b hb;exact⟨f3,f1,f4,f5⟩
   ·rw[upd_ne (Ne.symm hDC)];exact I4.free
   ·exact Nat.ne_of_gt (G5 I.lt (by rw[hDe];exact hCge))
   ·exact GW I.sz (by rw[hDe];exact hCge)
   ·obtain⟨v,q⟩:=I.cell x c e;exact absurd (G5 q.lt (by rw[hDe,z];exact hCge)) (HJ _)
   ·exact absurd (G5 (Heap.lt_size (I.pin p hp).1) (by rw[hDe,z];exact hCge)) (HJ _)
   ·obtain⟨m',hn',_⟩:=I4.loc;exact⟨m',hn'⟩
  ·refine wpAny_mono (T.item X' rfl rfl rfl hcm i _ s' σ' H' (λ_ _=>False) Ip (fpok hpD hfn) st' go) (λr s4 ⟨u,hr,h4⟩=>?_) λ_ _ z=>False.elim z
   subst hr;refine wpAny_mono h4 (λ_ s5 ⟨x,H5,I5,r5,y5,st5,fr5⟩=>?_) λ_ _ z=>False.elim z
   have I5':=I5.pinned (fpok hpD fr5) (T.obj _ _ st5);refine wpAny_mono (hg C s H fp _ s5 σ' H5 x u _ I5' r5 (step x H5 y5)) (λ_ s6 ⟨σ6,H6,I6,q6⟩=>?_) λ_ _ z=>False.elim z
   refine wpAny_mono (he C s H fp _ s6 σ6 H6 _ I6 q6) (λv s7 ⟨y,H7,I7,r7,n7⟩=>?_) λ_ _ z=>False.elim z
   obtain⟨m',hm',w7⟩:=hN y σ6 H7 n7;have hD7:=I7.pin (D,{ cls:=.type "list",data:=.seq its.toArray nn }) (Ht _ (Ig _ (G1.mpr rfl)));refine append_at hD7.1 (λh8 sb hD8=>?_) (by rw[G0,<- hlen];exact hz);have I7':Inv X' [] σ6 H7 s7:=I7.pins_of λp hp=>absurd hp (by simp)
   have I8:Inv X' [] σ6 H7 { s7 with heap:=h8 }:=I7'.turned (t':=s7.toks) (it:=D) (λb o hb e=>(sb.2 b hb).trans e) hD7.2.1 hDC (.inr (Ii hDe)) hDcell (λp hp=>absurd (show p∈([]:List (Addr×Obj))from hp) (by simp));refine⟨m',hm',i+1,σ6,H7,ys++[y],its++[v],nn+1,I8,T.keep _ _ _ st5 λb hb o e=>?_,λb hb=>?_,hD7.2.1,?_,rv.append (.cons r7 .nil),?_,w7⟩
   ·exact(sb.2 b (λz=>hDfp b hb z.symm)).trans (I7.pin (b,o) (Ht _ (Ht _ (ja hb e)))).1
   ·obtain⟨o,e,d⟩:=T.obj _ _ st5 b hb;exact(I7.pin (b,o) (Ht _ (Ht _ (ja hb e)))).2.1
   ·rw[hD8,List.push_toArray]
   ·rw[GZ,List.length_singleton];exact hlt
 exact codeAny_compStart_list (loop _ rfl) (T.self _ 0 _ _ _ (T.keep _ _ _ st λb _ o e=>old b o e) (loop _ rfl))
theorem dw(O:CompOk X fr js scope cl)(hcm:X.calm=true)(hi:PI X target iter wi)(hg:∀C s₀ H₀ ex,PG (dh X (own++fr) scope cl C s₀ H₀ ex) target g)(he:∀C s₀ H₀ ex,PE (dh X (own++fr) scope cl C s₀ H₀ ex) elt te)
 (hs:∀x,foldedSetIterable iter X.env x=pure x:=by intro _;rfl):PE X (.ListComp elt [⟨target,iter,[],0⟩] scope pos) (oY own.length js wi g te):=by
 intro pins s σ H Q I h;rw[eval_ListComp];refine wpAny_comprehension_free (use:=none) rfl hs O.clos O.kind O.names (thn (hi pins s σ H _ I h) λx s1 h1=>thn h1 λitv s2 h2=>?_);obtain⟨it,fp,tn,J,H2,rfl,I2,T,st,hf,W,⟨m0,w0⟩,turn⟩:=h2;refine uM (RR:=λacc C=>compPost (model X.prog X.w) X.A X.xe none (EP X pins σ Q) acc C) O (Paired.length O.fre) hcm I2 T st hf hg he W w0 turn ?_;rintro D C s' ⟨H3,I3,q,c1,c2,c3,c4,c5,m,hn⟩;exact⟨m,hn,λh' sb=>⟨.ref D,H3,I3.turned (t':=s'.toks) (it:=C) (λb o hb e=>(sb.2 b hb).trans e) c1 c2 (.inr c3) c4 c5,rfl,q⟩⟩
theorem ya{i:Nat}{y:Str}{py spos:Pos}(hN:X.N.Nodup)(hy:X.N[i]?=some y)(hly:Loc X.env.scope y)(O:CompOk X fr js scope cl)(hcm:X.calm=true)(hi:PI X target iter wi)(hg:∀C s₀ H₀ ex,PG (dh X (own++fr) scope cl C s₀ H₀ ex) target g)
 (he:∀C s₀ H₀ ex,PE (dh X (own++fr) scope cl C s₀ H₀ ex) elt te) (hsw:swapsWith (.ListComp elt [⟨target,iter,[],0⟩] scope pos) (some (.Name y py)) spos.line X.env=pure true)
 (hf:X.fn y=true\/X.env.scope.names.lookup y=some .local:=by first |exact .inl rfl |exact .inr rfl |assumption) (hs:∀x,foldedSetIterable iter X.env x=pure x:=by intro _;rfl) :
 PS X (.Assign [.Name y py] (.ListComp elt [⟨target,iter,[],0⟩] scope pos) spos) (eL (oY own.length js wi g te) (dY i)):=by
 intro pins s σ H D I h;rw[exec_Assign_Name_used _ _ _ _ hsw];refine wpAny_bind (wpAny_standAt (wpAny_bind ?_));show wpAny _ X.A (do let _ <- comprehension (.ListComp elt [⟨target,iter,[],0⟩] scope pos) scope X.env _ (newList []) false (eval iter X.env) (some (assign (.Name y py) X.env))) _ _ s
 refine wpAny_bind (wpAny_mono (wpAny_comprehension_free (use:=some (assign (.Name y py) X.env)) (Q:=λ_ s'=>SP X pins D .next s') rfl hs O.clos O.kind O.names
  (thn (hi pins s σ H _ I h) λx s1 h1=>thn h1 λitv s2 h2=>?_)) (λ_ s' hq=>wpAny_pure (wpAny_pure hq)) λ_ _ e=>e)
 obtain⟨it,fp,tn,J,H2,rfl,I2,T,st,hfp,W,⟨m0,w0⟩,turn⟩:=h2;refine uM (Q:=λx H1=>dY i x σ H1 D.nx) (RR:=λacc C=>compPost (model X.prog X.w) X.A X.xe (some (assign (.Name y py) X.env)) (λ_ s'=>SP X pins D .next s') acc C) O (Paired.length O.fre) hcm I2 T st hfp hg he W w0 turn ?_;rintro DD C s' ⟨H3,I3,q,c1,c2,c3,c4,c5,m,hn⟩;show wpAny _ _ (assign (.Name y py) X.env (.ref DD)) _ _ s';refine wpAny_assign_Name (o4 I3 hN hy hly (v:=.ref DD) rfl (λs4 I4 ⟨a,sb,ha⟩=>?_) hf)
 have hCa:C≠a:=by
  rcases ha with rfl |ha
  ·exact c2
  ·exactλz=>c4 y a ha z.symm
 refine⟨m,hn.sameBut sb hCa,λh' sb'=>⟨_,H3,I4.turned (t':=s4.toks) (it:=C) (λb o hb e=>(sb'.2 b hb).trans e) c1 c2 (.inr c3) c4 c5,q⟩⟩
end
theorem jB{n:Nat}{js:List Nat}{K:PySem.W.Frag}{a:Addr}{xs:List V}{g:TG}{te:TE}{σ0:St}{H:Hp}{Q:VK}(Pv:Nat->List V->St->Hp->Prop)(hz:xs.length<=sizeLine)(h0:Pv 0 [] (dX n js σ0) H)(hl:∀i ys σ H,i<=xs.length->Pv i ys σ H->SqL K H a xs/\ys.length<=i)
 (hs:∀i x ys σ H,xs[i]?=some x->Pv i ys σ H->g x σ H λσ2 H2=>te σ2 H2 λy H3=>Pv (i+1) (ys++[y]) σ2 H3) (hd:∀ys σ H p,Pv xs.length ys σ H->H p=none->Q (.ref p) (upd H p (.lst ys))) :
 jL n js g te σ0 Q (Itl K a) H:=by
 refine⟨λi m ys σ H=>m=xs.length-i/\i<=xs.length/\Pv i ys σ H,⟨xs.length,by simp,GR _,h0⟩,?_⟩;rintro i m ys σ H ⟨rfl,hi,p⟩;obtain⟨q,hy⟩:=hl i ys σ H hi p;by_cases hlt:i<xs.length
 ·refine .inr ⟨⟨xs,xs[i],q,by simp[hlt]⟩,by omega,λy σ'' H''=>Pv (i+1) (ys++[y]) σ'' H'',λy σ' H' p'=>⟨xs.length-(i+1),by omega,rfl,hlt,p'⟩,λx H' y=>?_⟩;obtain⟨e,y⟩:=y;subst e;exact hs i x ys σ _ (y xs q) p
 ·have e:i=xs.length:=by omega
  subst e;exact .inl ⟨⟨xs,q,GP _⟩,λr hr=>hd ys σ H r p hr⟩
theorem jA{k:Nat}{js:List Nat}{lo:Int}{n:Nat}{g:TG}{te:TE}{σ0:St}{H:Hp}{Q:VK}(Pv:Nat->List V->St->Hp->Prop)(hz:n<=sizeLine)(h0:Pv 0 [] (dX k js σ0) H)(hl:∀i ys σ H,i<=n->Pv i ys σ H->ys.length<=i)
 (hs:∀i ys σ H,i<n->Pv i ys σ H->g (.int (lo+i)) σ H λσ2 H2=>te σ2 H2 λy H3=>Pv (i+1) (ys++[y]) σ2 H3) (hd:∀ys σ H p,Pv n ys σ H->H p=none->Q (.ref p) (upd H p (.lst ys))) :
 jL k js g te σ0 Q (Itr lo n) H:=by
 refine⟨λi m ys σ H=>m=n-i/\i<=n/\Pv i ys σ H,⟨n,by simp,GR _,h0⟩,?_⟩;rintro i m ys σ H ⟨rfl,hi,p⟩;have hy:=hl i ys σ H hi p;by_cases hlt:i<n
 ·refine .inr ⟨hlt,by omega,λy σ'' H''=>Pv (i+1) (ys++[y]) σ'' H'',λy σ' H' p'=>⟨n-(i+1),by omega,rfl,hlt,p'⟩,λx H' y=>?_⟩;obtain⟨e,y⟩:=y;subst e y;exact hs i ys σ _ hlt p
 ·have e:i=n:=by omega
  subst e;exact .inl ⟨GP _,λr hr=>hd ys σ H r p hr⟩
def Bits(k:Nat)(i:Int):Prop:=i.natAbs<2^k
theorem Bits.mono{j k:Nat}{i:Int}(h:Bits j i)(hk:j<=k:=by decide):Bits k i:=G5 h (IW (by decide) hk)
theorem Bits.mul{j k:Nat}{a b:Int}(ha:Bits j a)(hb:Bits k b):Bits (j+k) (a*b):=by
 unfold Bits at *
 rw[Hj,Nat.pow_add];exact Nat.mul_lt_mul_of_lt_of_lt ha hb
theorem Bits.add{k:Nat}{a b:Int}(ha:Bits k a)(hb:Bits k b):Bits (k+1) (a+b):=by
 unfold Bits at *
 have:=Int.natAbs_add_le a b;rw[Nat.pow_succ];omega
theorem Bits.neg{k:Nat}{a:Int}(ha:Bits k a):Bits k (-a):=by unfold Bits at *;rwa [Int.natAbs_neg]
theorem Bits.sub{k:Nat}{a b:Int}(ha:Bits k a)(hb:Bits k b):Bits (k+1) (a-b):=by rw[Int.sub_eq_add_neg];exact ha.add hb.neg
theorem Bits.of_le{k:Nat}{a b:Int}(hb:Bits k b)(h:a.natAbs<=b.natAbs):Bits k a:=IX h hb
theorem Bits.zero{k:Nat}:Bits k 0:=Nat.pow_pos (by decide)
theorem Bits.log{k:Nat}{i:Int}(h:Bits k i)(hk:0<k):i.natAbs.log2<k:=by
 by_cases h0:i.natAbs=0
 ·rw[h0];simpa using hk
 ·exact(Nat.log2_lt h0).mpr h
theorem Bits.int{k:Nat}{i:Int}(h:Bits k i)(hk:k<=1000000):Builtin.Int.intBits i<=2^20:=by
 have e:(2:Nat)^20=1048576:=by decide
 unfold Builtin.Int.intBits;split
 ·exact GR _
 ·rename_i hn
  have h0:i.natAbs≠0:=by intro z;have:i=0:=Int.natAbs_eq_zero.mp z;exact hn (by simp[this])
  have:=(Nat.log2_lt h0).mpr h;omega
section
variable {X:Cx}{a b:Expr}{ta tb:TE}{pos:Pos}
def Fe(i j:Int):Prop:=Bits 1000000 i/\Bits 1000000 j
theorem aI:OpR X (binaryOp .Mult) (rI Fe λi j=>.int (i*j)):=opI λ_ _ _ _ _ _ _ hc q=>mul_int q (.of_bits (hc.1.int (GP _)) (hc.2.int (GP _)))
theorem cj:OpR X (binaryOp .Mod) (rI (λ_ j=>0<j) λi j=>.int (i%j)):=yN
def Ff(_ j:Int):Prop:=0<j/\Bits 9000 j
theorem iW:OpR X (binaryOp .FloorDiv) (rI Ff λi j=>.int (i/j)):=opI λi j _ _ _ _ _ hc q=>by refine floordiv_int (Iy hc.1) ?_ (.inl (PyProof.noPylong_of_log2 (hc.2.log (by decide))));rw[Int.fdiv_eq_ediv_of_nonneg _ (GS hc.1)];exact q
def Fg(_ j:Int):Prop:=j≠0/\Bits 9000 j
theorem rF:OpR X (binaryOp .FloorDiv) (rI Fg λi j=>.int (i.fdiv j)):=opI λ_ _ _ _ _ _ _ hc q=>floordiv_int hc.1 q (.inl (PyProof.noPylong_of_log2 (hc.2.log (by decide))))
theorem bS:OpR X (compareOp .Eq) (rI0 λi j=>.bl (decide (i=j))):=fZ λ_ _ _ _ _ _ _ q=>eq_int (by rw[Bool.beq_eq_decide_eq];exact q)
theorem da:OpR X (compareOp .NotEq) (rI0 λi j=>.bl (!decide (i=j))):=fZ λ_ _ _ _ _ _ _ q=>ne_int (by rw[bne,Bool.beq_eq_decide_eq];exact q)
def qV(K:PySem.W.Frag):R2:=λx y H Q=>∃(a b:Addr) (ns ms:List Int),x=.ref a/\y=.ref b/\SqL K H a (ns.map V.int)/\SqL K H b (ms.map V.int)/\Q (.bl (decide (ns=ms))) H
def qS(K:PySem.W.Frag):R2:=λx y H Q=>∃(a b:Addr) (ns ms:List Int),x=.ref a/\y=.ref b/\SqL K H a (ns.map V.int)/\SqL K H b (ms.map V.int)/\Q (.bl (!decide (ns=ms))) H
theorem yO(hu:X.A.units+64<cLine):OpR X (compareOp .Eq) (qV X.K):=by intro pins s σ H x y v u Q I rx ry h;obtain⟨a,b,ns,ms,rfl,rfl,ha,hb,q⟩:=h;cases rx;cases ry;obtain⟨i1,r1,p1,_⟩:=I.list ha;obtain⟨i2,r2,p2,_⟩:=I.list hb;exact PySem.W.eq_intsK p1.isList (dW r1) p2.isList (dW r2) hu ⟨.bl _,H,I,rfl,q⟩
theorem yM(hu:X.A.units+64<cLine):OpR X (compareOp .NotEq) (qS X.K):=by intro pins s σ H x y v u Q I rx ry h;obtain⟨a,b,ns,ms,rfl,rfl,ha,hb,q⟩:=h;cases rx;cases ry;obtain⟨i1,r1,p1,_⟩:=I.list ha;obtain⟨i2,r2,p2,_⟩:=I.list hb;exact PySem.W.ne_intsK p1.isList (dW r1) p2.isList (dW r2) hu ⟨.bl _,H,I,rfl,q⟩
noncomputable def gD(K:PySem.W.Frag):List V->Hp->VK->Prop:=λxs H Q=>∃(x:V) (t c:Value) (n:V) (k:Bool),xs=[x,n]/\RelV n c/\(∀u,RelV n u->u=c)/\TyOf K H x t/\PySem.W.kitOne K t c=some k/\Q (.bl k) H
theorem Dt:CallR X (.builtin "isinstance") (gD X.K):=by intro pins s σ H xs us Q I r h;obtain⟨x,t,c,n,k,rfl,rn,hn,ty,e,q⟩:=h;obtain⟨u1,u2,rfl,r1,r2⟩:=r.two;obtain rfl:=hn u2 r2;exact BG I r1 ty e λtk=>⟨.bl k,H,I.tok tk,rfl,q⟩
theorem dU{K:PySem.W.Frag}{H:Hp}{Q:VK}{x:V}{n:String}{t:Value}{k:Bool}(ty:TyOf K H x t)(e:PySem.W.kitOne K t (.type n)=some k)(q:Q (.bl k) H):gD K [x,.ty n] H Q :=
 ⟨x,t,.type n,.ty n,k,rfl,rfl,λ_ h=>h,ty,e,q⟩
end
section
variable {D:Ends}{σ:St}{H:Hp}{Q:VK}{t u:TS}{te ta tb:TE}{c:TT}{i:Nat}{v:V}{r:R2}
theorem xQ(P:St->Hp->Prop)(h1:∀σ' H',P σ' H'->u D σ' H')(h2:(∀σ' H',P σ' H'->u D σ' H')->t { D with nx:=u D } σ H):bU t u D σ H:=h2 h1
theorem qH(P:St->Hp->Prop)(h:P σ H)(h1:∀σ' H',P σ' H'->u D σ' H'):u D σ H:=h1 σ H h
theorem ax(h:te σ H λx H1=>u D (σ.set i (some x)) H1):bU (eL te (dY i)) u D σ H:=h
theorem gC(h:te σ H λ_ H1=>u D σ H1):bU (jP te) u D σ H:=h
theorem bI{t1:TS}(h:c σ H λb H1=>if b=true then t1 { D with nx:=u D } σ H1 else u D σ H1):bU (ix c t1 oW) u D σ H:=h
theorem dG{K:PySem.W.Frag}{n:V}(h:ta σ H λx H1=>gD K [x,n] H1 Q):tCB (gD K) (jQ ta (jQ (tC n) oV)) σ H Q:=h
theorem cS{t1 t2:TS}(P:St->Hp->Prop)(h1:∀σ' H',P σ' H'->u D σ' H')(h2:(∀σ' H',P σ' H'->u D σ' H')->c σ H λb H1=>if b=true then t1 { D with nx:=u D } σ H1 else t2 { D with nx:=u D } σ H1):bU (ix c t1 t2) u D σ H:=h2 h1
theorem cq(h:te σ H λx H1=>D.nx (σ.set i (some x)) H1):eL te (dY i) D σ H:=h
theorem aY(h:te σ H D.rt):jO te D σ H:=h
theorem qI(h:te σ H λ_ H1=>D.nx σ H1):jP te D σ H:=h
theorem fO(h:c σ H λb H1=>if b=true then t D σ H1 else u D σ H1):ix c t u D σ H:=h
theorem fR{K:Bool->Hp->Prop}(h:te σ H λx H'=>∃k,x=.bl k/\K k H'):tB te σ H K:=h
theorem cx{K:Bool->Hp->Prop}{tt:TT}(h:tt σ H λk H1=>K (!k) H1):oU tt σ H K:=h
theorem dr{K:Bool->Hp->Prop}{t1 t2:TT}(h:t1 σ H λk H1=>if k=true then t2 σ H1 K else K false H1):o0 t1 t2 σ H K:=h
theorem bV{K:Bool->Hp->Prop}{t1 t2:TT}(h:t1 σ H λk H1=>if k=true then K true H1 else t2 σ H1 K):tOr t1 t2 σ H K:=h
theorem fQ(h:ta σ H λx H1=>∃k,x=.bl k/\if k=true then tb σ H1 Q else Q (.bl false) H1):oZ ta tb σ H Q:=h
theorem xM(h:ta σ H λx H1=>∃k,x=.bl k/\if k=true then Q (.bl true) H1 else tb σ H1 Q):oS ta tb σ H Q:=h
theorem xN(h:ta σ H λx H1=>∃k,x=.bl k/\Q (.bl (!k)) H1):oT ta σ H Q:=h
theorem xO{tt:TT}(h:tt σ H λk H1=>if k=true then ta σ H1 Q else tb σ H1 Q):tIf tt ta tb σ H Q:=h
theorem cR{A B:Prop}(h:A):if true=true then A else B:=by rw[if_pos rfl];exact h
theorem bG{A B:Prop}(h:B):if false=true then A else B:=by rw[if_neg Ih];exact h
theorem aG{p A B:Prop}[Decidable p](h1:p->A)(h2:¬p->B):if decide p=true then A else B:=by
 by_cases hp:p
 ·rw[if_pos (decide_eq_true hp)];exact h1 hp
 ·rw[if_neg (by rw[decide_eq_false hp];exact Ih)];exact h2 hp
theorem b9{p A B:Prop}[Decidable p](h1:¬p->A)(h2:p->B):if(!decide p)=true then A else B:=by
 by_cases hp:p
 ·rw[if_neg (by rw[decide_eq_true hp];exact Ih)];exact h2 hp
 ·rw[if_pos (by rw[decide_eq_false hp];rfl)];exact h1 hp
end
structure Cal(P:Program)(w:World)(K:PySem.W.Frag)(mg:Str->Option Value)(base:Heap)(k:Nat)(x:Str)(ps:List Str)(sp:Sp)(f:Addr)(fd:FuncData):Prop where
 ok:FnOk P w K mg base CX0 k f fd ps sp
 mg:mg x=some (.ref f)
 kp:PySem.W.keepIn K (.ref f)=true
 bd:Binds K fd ps []
theorem Same.upd_new{H:Hp}{p:Addr}{o:HO}(h:H p=none):Same H (upd H p o):=λb u e=>by rw[upd_ne (aN e h)];exact e
theorem Same.then_new{H H1:Hp}{p:Addr}{o:HO}(s:Same H H1)(h:H1 p=none):Same H (upd H1 p o):=s.trans (Same.upd_new h)
theorem Same.ne{H H1:Hp}{a p:Addr}{o:HO}(s:Same H H1)(e:H a=some o)(h:H1 p=none):a≠p:=aN (s a o e) h
section
variable {X:Cx}{K:PySem.W.Frag}
theorem bj(h:X.K=K):IxR X (qU K):=by subst h;exact BF
theorem aB(h:X.K=K):IxR X (qT K):=by subst h;exact BC
theorem fJ(h:X.K=K):SlR X (iR K):=by subst h;exact wK
noncomputable def x4(K:PySem.W.Frag):List V->Hp->VK->Prop:=λxs H Q=>∃p ys,xs=[.ref p]/\(SqL K H p ys\/SqT K H p ys)/\Q (.int ys.length) H
theorem aV(h:X.K=K):CallR X (.builtin "len") (x4 K):=by subst h;exact Ds
noncomputable def xZ(K:PySem.W.Frag):List V->Hp->VK->Prop:=λxs H Q=>∃p ys,xs=[.ref p]/\(SqL K H p ys\/SqT K H p ys)/\∀l,H l=none->Q (.ref l) (upd H l (.lst ys))
theorem jD(h:X.K=K):CallR X (.type "list") (xZ K):=by subst h;exact Dr
theorem fc(h:X.K=K)(hu:X.A.units+64<cLine):OpR X (compareOp .Eq) (qV K):=by subst h;exact yO hu
theorem fb(h:X.K=K)(hu:X.A.units+64<cLine):OpR X (compareOp .NotEq) (qS K):=by subst h;exact yM hu
theorem eC(h:X.K=K):CallR X (.builtin "isinstance") (gD K):=by subst h;exact Dt
theorem cy{tg l:Expr}{tl:TE}(h:X.K=K)(hl:PE X l tl):PI X tg l (tF K tl):=by subst h;exact yy hl
theorem cU{e:Expr}{ta:TE}{f:Str}{pos:Pos}(h:X.K=K)(he:PE X e ta)(hb:attributeBase e f X.env (eval e X.env)=eval e X.env):PE X (.Attribute e f pos) (oX K ta f):=by subst h;exact yF he hb
end
noncomputable def Ite(K:PySem.W.Frag)(a:Addr):It :=
 ⟨λi H=>∃xs x,SqL K H a xs/\xs[i]?=some x,λi H x H'=>∃v p,x=.ref p/\H p=none/\H'=upd H p (.tup [.int i,v])/\∀xs,SqL K H a xs->xs[i]?=some v,λi H=>∃xs,SqL K H a xs/\xs.length<=i⟩
theorem v9{P:Program}{w:World}{K:PySem.W.Frag}{es:List Expr}{x1:Nat}{tp:Pos}(a e it:Addr)(hne:e≠it):Turn P w K (.Tuple es x1 tp) (Ite K a) [e,it] e (λi h=>(∃old,IsEnum h e it (i:Int) old)/\h.IsListIter it a i) where
 mem:=by simp
 obj:=λi h st b hb=>by
  obtain⟨⟨old,he⟩,hi⟩:=st;rcases GX.mp hb with rfl |hb
  ·exact⟨_,he,λv z=>by cases z⟩
  ·have q:b=it:=by simpa using hb
   subst q;obtain⟨o,e,c,d⟩:=hi;exact⟨o,e,λv z=>by rw[d]at z;cases z⟩
 keep:=λi h h' st k=>by obtain⟨⟨old,he⟩,hi⟩:=st;exact⟨⟨old,k e (by simp) _ he⟩,hi.at λo q=>k it (by simp) o q⟩
 item:=by
  intro X hP hw hK hc i pins s σ H E I hf st hg;subst hP hw hK;obtain⟨⟨old,he⟩,hi⟩:=st;obtain⟨xs,x,hq,hx⟩:=hg;obtain⟨its,rv,p,hz⟩:=I.list hq;obtain⟨u,hu,ru⟩:=rv.get hx;refine wpAny_pyNext_enum_item he hi p.isList (x:=u) (by simpa using hu) hne λh' out hit' htup hsz kk=>?_
  have hfp:H s.heap.objs.size=none:=I.hok.fresh (GP _);have nfp:∀b o,H b=some o->b≠e/\b≠it:=λb o q=>⟨λz=>(by rw[z,(hf e (by simp)).1]at q;cases q),λz=>(by rw[z,(hf it (by simp)).1]at q;cases q)⟩
  have I1:Inv X pins σ (upd H s.heap.objs.size (.tup [.int i,x])) { s with heap:=h',toks:=s.toks+1 }:=by
   refine I.step (g':=s.gens) (d':=s.drawn) (ch:=[e,it]) (λb hb=>?_) (λb o _ _ hc q _=>kk b o (λz=>hc (by simp[z])) (λz=>hc (by simp[z])) q)
    (λb o _ _ hc q _=>⟨o.slots,kk b o (λz=>hc (by simp[z])) (λz=>hc (by simp[z])) q⟩) (λb o _ q n=>by rw[upd_ne (G6 (Heap.lt_size q))];exact n)
    (λb o hc q=>⟨o,kk b o (λz=>hc (by simp[z])) (λz=>hc (by simp[z])) q⟩) (λb ys q=>by rw[upd_ne (aN q hfp)];exact q) (λb o ys q=>by rw[upd_ne (aN q hfp)];exact q)
    (λb ps q=>⟨#[],by rw[upd_ne (aN q hfp),q];simp⟩) (λm hm=>?_) (λb o q=>?_) I.bare
   ·obtain⟨f0,f1,f2,f3,f4,f5⟩:=hf b hb;exact⟨f3,f1,f4,f5⟩
   ·obtain⟨o,es',ep',ho,r⟩:=hm;exact⟨o,es',ep',kk _ o (Ne.symm (hf e (by simp)).2.1) (Ne.symm (hf it (by simp)).2.1) ho,r⟩
   ·by_cases hb:b=s.heap.objs.size
    ·subst hb;rw[ar]at q;cases q;exact⟨by show 2<=sizeLine;decide,[.int i s.toks,u],.cons ⟨_,rfl⟩ (.cons ru .nil),⟨_,htup,rfl,_,rfl⟩⟩
    ·rw[upd_ne hb]at q;refine(I.hok b o q).stay (λc v hc z=>?_) (λc z=>by rw[upd_ne (aN z hfp)];exact z) λc ys z=>by rw[upd_ne (aN z hfp)];exact z
     rcases hc with rfl |hc
     ·exact kk c v (nfp c o q).1 (nfp c o q).2 z
     ·exact kk c v (nfp c _ hc).1 (nfp c _ hc).2 z
  refine⟨_,rfl,wpAny_letOwnedTupleGo_enum out λh'' he'' sb=>?_⟩;obtain⟨f0,f1,f2,f3,f4,f5⟩:=hf e (by simp)
  have hen:upd H s.heap.objs.size (.tup [.int i,x]) e=none:=by rw[upd_ne (G6 (Heap.lt_size he))];exact f0
  have I2:=I1.turned (h':=h'') (t':=s.toks+1) (it:=e) (λb o hb q=>(sb.2 b hb).trans q) hen f1 f3 f4 f5;refine⟨.ref s.heap.objs.size,_,I2,rfl,⟨x,_,rfl,hfp,rfl,λys hy=>by rw[I.list_inj hy hq];exact hx⟩,⟨⟨u,?_⟩,hit'.at λo q=>(sb.2 it (Ne.symm hne)).trans q⟩,λb hb=>?_⟩
  ·have:((i+1:Nat):Int)=(i:Int)+1:=by omega
   rw[this];exact he''
  ·have hlt:b<s.heap.objs.size:=by
    rcases GX.mp hb with rfl |hb
    ·exact Heap.lt_size he
    ·have q:b=it:=by simpa using hb
     subst q;obtain⟨o,e1,_⟩:=hi;exact Heap.lt_size e1
   rw[upd_ne (G6 hlt)];exact(hf b hb).1
 done:=by intro X hP hw hK hc i pins s σ H E I hf st hg;subst hP hw hK;obtain⟨⟨old,he⟩,hi⟩:=st;obtain⟨xs,hq,hx⟩:=hg;obtain⟨its,rv,p,hz⟩:=I.list hq;obtain⟨f0,f1,f2,f3,f4,f5⟩:=hf it (by simp);have hl:=rv.length;exact wpAny_pyNext_enum_end (I.ok.hd hc) he hi p.isList (by simp;omega) λh' eb=>⟨rfl,I.turned (t':=s.toks) (λb o hb e=>eb b o hb e) f0 f1 f3 f4 f5⟩
 self:=λ_ _ _ _ _ st h=>by obtain⟨⟨old,he⟩,hi⟩:=st;exact wpAny_pyIter_enum he h
section
variable {X:Cx}
def BN(K:PySem.W.Frag)(ta:TA):TI:=λσ H R=>ta σ H λvs H1=>∃a,vs=[.ref a]/\(∃xs,SqL K H1 a xs)/\R (Ite K a) H1
theorem dI{es:List Expr}{x1:Nat}{tp:Pos}{a:Expr}{ta:TA}{p pos:Pos}(hg:Gl X "enumerate")(hm:X.mg "enumerate"=none)(ha:PA X [a] ta)(hs:starEach [a] X.env=[(false,eval a X.env)]:=by rfl):PI X (.Tuple es x1 tp) (.Call (.Name "enumerate" p) [a] [] pos) (BN X.K ta):=by
 intro pins s σ H R I h;refine Call_ (dR I hg hm boot_enumerate (PyProof.Rows.callWith_type1 (thn (ha pos pins s σ H _ I h) λus s1 ⟨vs,H1,I1,r1,q1⟩=>?_) hs rfl));obtain⟨a',e,⟨xs,hq⟩,q⟩:=q1;subst e;obtain⟨u,rfl,ru⟩:=r1.one;cases ru;obtain⟨its,rv,pl,hz⟩:=I1.list hq;refine call_enumerate_list pl.isList λh' he hit hsz hk=>?_
 have I2:Inv X pins σ H1 { s1 with heap:=h' }:=I1.kept (t':=s1.toks) hk;refine wpAny_pyIter_enum he ?_;refine⟨s1.heap.objs.size+1,[s1.heap.objs.size+1,s1.heap.objs.size],_,_,H1,rfl,I2,v9 a' _ _ (Nat.succ_ne_self _),⟨⟨_,he⟩,hit⟩,λb hb=>?_,q⟩
 have hb':s1.heap.objs.size<=b:=by
  rcases GX.mp hb with rfl |hb
  ·exact Nat.le_succ _
  ·have q:b=s1.heap.objs.size:=by simpa using hb
   subst q;exact GP _
 exact I1.fpOk hb' (I1.hok.fresh hb')
end
theorem ge{K:PySem.W.Frag}{a:Addr}{xs:List V}{g:TG}{tb:TS}{D:Ends}{σ:St}{H:Hp}(Pv:Nat->St->Hp->Prop)(h0:Pv 0 σ H)(hl:∀i σ H,i<=xs.length->Pv i σ H->SqL K H a xs)
 (hs:∀i x σ H p,xs[i]?=some x->Pv i σ H->H p=none->g (.ref p) σ (upd H p (.tup [.int i,x])) λσ2 H2=>tb { D with nx:=Pv (i+1),ct:=Pv (i+1),bk:=D.nx } σ2 H2) (hd:∀σ H,Pv xs.length σ H->D.nx σ H) :
 ∃W:Nat->Nat->St->Hp->Prop,(∃m,W 0 m σ H)/\∀i m σ H,W i m σ H ->
  ((Ite K a).stop i H/\D.nx σ H)\/((Ite K a).go i H/\∃N:St->Hp->Prop,(∀σ' H',N σ' H'->∃m',m'<m/\W (i+1) m' σ' H')/\∀x H',(Ite K a).yld i H x H'->g x σ H' λσ2 H2=>tb { D with nx:=N,ct:=N,bk:=D.nx } σ2 H2):=by
 refine⟨λi m σ H=>m=xs.length-i/\i<=xs.length/\Pv i σ H,⟨xs.length,by simp,GR _,h0⟩,?_⟩;rintro i m σ H ⟨rfl,hi,p⟩;have q:=hl i σ H hi p;by_cases hlt:i<xs.length
 ·refine .inr ⟨⟨xs,xs[i],q,by simp[hlt]⟩,Pv (i+1),λσ' H' p'=>⟨xs.length-(i+1),by omega,rfl,hlt,p'⟩,λx H' y=>?_⟩;obtain⟨v,r,rfl,hr,rfl,y⟩:=y;exact hs i v σ _ r (y xs q) p hr
 ·have e:i=xs.length:=by omega
  subst e;exact .inl ⟨⟨xs,q,GP _⟩,hd σ H p⟩
theorem uL{n:Nat}{js:List Nat}{K:PySem.W.Frag}{a:Addr}{xs:List V}{g:TG}{te:TE}{σ0:St}{H:Hp}{Q:VK}(Pv:Nat->List V->St->Hp->Prop)(hz:xs.length<=sizeLine)(h0:Pv 0 [] (dX n js σ0) H)(hl:∀i ys σ H,i<=xs.length->Pv i ys σ H->SqL K H a xs/\ys.length<=i)
 (hs:∀i x ys σ H p,xs[i]?=some x->Pv i ys σ H->H p=none->g (.ref p) σ (upd H p (.tup [.int i,x])) λσ2 H2=>te σ2 H2 λy H3=>Pv (i+1) (ys++[y]) σ2 H3) (hd:∀ys σ H p,Pv xs.length ys σ H->H p=none->Q (.ref p) (upd H p (.lst ys))) :
 jL n js g te σ0 Q (Ite K a) H:=by
 refine⟨λi m ys σ H=>m=xs.length-i/\i<=xs.length/\Pv i ys σ H,⟨xs.length,by simp,GR _,h0⟩,?_⟩;rintro i m ys σ H ⟨rfl,hi,p⟩;obtain⟨q,hy⟩:=hl i ys σ H hi p;by_cases hlt:i<xs.length
 ·refine .inr ⟨⟨xs,xs[i],q,by simp[hlt]⟩,by omega,λy σ'' H''=>Pv (i+1) (ys++[y]) σ'' H'',λy σ' H' p'=>⟨xs.length-(i+1),by omega,rfl,hlt,p'⟩,λx H' y=>?_⟩;obtain⟨v,r,rfl,hr,rfl,y⟩:=y;exact hs i v ys σ _ r (y xs q) p hr
 ·have e:i=xs.length:=by omega
  subst e;exact .inl ⟨⟨xs,q,GP _⟩,λr hr=>hd ys σ H r p hr⟩
noncomputable def Itv(K:PySem.W.Frag)(a:Addr)(xs:List V):It :=
 ⟨λi H=>SqL K H a xs/\i<xs.length,λi H x H'=>H'=H/\xs[xs.length-1-i]?=some x,λi H=>xs.length<=i⟩
theorem vW{P:Program}{w:World}{K:PySem.W.Frag}{tg:Expr}(a it:Addr)(xs:List V):Turn P w K tg (Itv K a xs) [it] it (λi h=>i<=xs.length/\h.IsRevIter it a ((xs.length:Int)-1-i)) where
 mem:=by simp
 obj:=λi h st b hb=>by
  have e:b=it:=by simpa using hb
  subst e;obtain⟨_,o,e,c,d⟩:=st;exact⟨o,e,λv z=>by rw[d]at z;cases z⟩
 keep:=λi h h' st k=>⟨st.1,st.2.at λo e=>k it (by simp) o e⟩
 item:=by
  intro X hP hw hK hc i pins s σ H E I hf st hg;subst hP hw hK;obtain⟨hq,hlt⟩:=hg;obtain⟨its,rv,p,hz⟩:=I.list hq;have hl:=rv.length;obtain⟨x,hx⟩:∃x,xs[xs.length-1-i]?=some x:=⟨_,List.getElem?_eq_getElem (by omega)⟩;obtain⟨u,hu,ru⟩:=rv.get hx;obtain⟨f0,f1,f2,f3,f4,f5⟩:=hf it (by simp);have e1:(xs.length:Int)-1-i=((xs.length-1-i:Nat):Int):=by omega
  have hit:=st.2;rw[e1]at hit;refine wpAny_pyNext_rev_item hit p.isList (x:=u) (by simpa using hu) λh' st' sb=>?_
  have I1:Inv X pins σ H { s with heap:=h' }:=I.turned (t':=s.toks) (λb o hb e=>(sb.2 b hb).trans e) f0 f1 f3 f4 f5;obtain⟨o,e,c,d⟩:=id st';refine⟨u,rfl,jo (s:={ s with heap:=h' }) e c d (by decide) ⟨x,H,I1,ru,⟨rfl,hx⟩,⟨hlt,?_⟩,λb hb=>(hf b hb).1⟩⟩;have e2:(xs.length:Int)-1-((i+1:Nat):Int)=((xs.length-1-i:Nat):Int)-1:=by omega
  rw[e2];exact st'
 done:=by
  intro X hP hw hK hc i pins s σ H E I hf st hg;subst hP hw hK;obtain⟨f0,f1,f2,f3,f4,f5⟩:=hf it (by simp);have hle:xs.length<=i:=hg;have e1:(xs.length:Int)-1-i = -1:=by have:=st.1;omega
  have hit:=st.2;rw[e1]at hit;exact wpAny_pyNext_rev_end (I.ok.hd hc) hit λh' eb=>⟨rfl,I.turned (t':=s.toks) (λb o hb e=>eb b o hb e) f0 f1 f3 f4 f5⟩
 self:=λ_ _ _ _ _ st h=>wpAny_pyIter_revIter st.2 h
section
variable {X:Cx}{tg:Expr}
def BM(K:PySem.W.Frag)(ta:TA):TI:=λσ H R=>ta σ H λvs H1=>∃a xs,vs=[.ref a]/\SqL K H1 a xs/\R (Itv K a xs) H1
theorem rA{a:Expr}{ta:TA}{p pos:Pos}(hg:Gl X "reversed")(hm:X.mg "reversed"=none)(ha:PA X [a] ta)(hs:starEach [a] X.env=[(false,eval a X.env)]:=by rfl):PI X tg (.Call (.Name "reversed" p) [a] [] pos) (BM X.K ta):=by
 intro pins s σ H R I h;refine Call_ (dR I hg hm boot_reversed (PyProof.Rows.callWith_type1 (thn (ha pos pins s σ H _ I h) λus s1 ⟨vs,H1,I1,r1,q1⟩=>?_) hs rfl));obtain⟨a',xs,e,hq,q⟩:=q1;subst e;obtain⟨u,rfl,ru⟩:=r1.one;cases ru;obtain⟨its,rv,pl,hz⟩:=I1.list hq;have hl:=rv.length;refine call_reversed_list pl.isList ?_
 have hit:(s1.heap.push (revObj a' ((its.toArray.size:Int)-1))).IsRevIter s1.heap.objs.size a' ((xs.length:Int)-1-((0:Nat):Int)):=by
  have e1:(xs.length:Int)-1-((0:Nat):Int)=(its.toArray.size:Int)-1:=by rw[G0];omega
  rw[e1];exact⟨_,Heap.get?_push_size _ rfl,rfl,rfl⟩
 have I2:Inv X pins σ H1 { s1 with heap:=s1.heap.push (revObj a' ((its.toArray.size:Int)-1)) }:=I1.kept (t':=s1.toks) λb o e=>Heap.get?_push_of_some _ e
 refine wpAny_pyIter_revIter (s:={ s1 with heap:=s1.heap.push (revObj a' ((its.toArray.size:Int)-1)) }) hit ?_;refine⟨s1.heap.objs.size,[s1.heap.objs.size],_,_,H1,rfl,I2,vW a' _ xs,⟨GR _,hit⟩,λb hb=>?_,q⟩;have e:b=s1.heap.objs.size:=by simpa using hb
 subst e;exact I1.fpOk (GP _) (I1.hok.fresh (GP _))
end
theorem tU{K:PySem.W.Frag}{a:Addr}{xs:List V}{g:TG}{tb:TS}{D:Ends}{σ:St}{H:Hp}(Pv:Nat->St->Hp->Prop)(h0:Pv 0 σ H)(hl:∀i σ H,i<=xs.length->Pv i σ H->SqL K H a xs)
 (hs:∀i x σ H,i<xs.length->xs[xs.length-1-i]?=some x->Pv i σ H->g x σ H λσ2 H2=>tb { D with nx:=Pv (i+1),ct:=Pv (i+1),bk:=D.nx } σ2 H2) (hd:∀σ H,Pv xs.length σ H->D.nx σ H) :
 ∃W:Nat->Nat->St->Hp->Prop,(∃m,W 0 m σ H)/\∀i m σ H,W i m σ H ->
  ((Itv K a xs).stop i H/\D.nx σ H)\/((Itv K a xs).go i H/\∃N:St->Hp->Prop,(∀σ' H',N σ' H'->∃m',m'<m/\W (i+1) m' σ' H')/\∀x H',(Itv K a xs).yld i H x H'->g x σ H' λσ2 H2=>tb { D with nx:=N,ct:=N,bk:=D.nx } σ2 H2):=by
 refine⟨λi m σ H=>m=xs.length-i/\i<=xs.length/\Pv i σ H,⟨xs.length,by simp,GR _,h0⟩,?_⟩;rintro i m σ H ⟨rfl,hi,p⟩;by_cases hlt:i<xs.length
 ·refine .inr ⟨⟨hl i σ H hi p,hlt⟩,Pv (i+1),λσ' H' p'=>⟨xs.length-(i+1),by omega,rfl,hlt,p'⟩,λx H' y=>?_⟩;obtain⟨e,y⟩:=y;subst e;exact hs i x σ _ hlt y p
 ·have e:i=xs.length:=by omega
  subst e;exact .inl ⟨GP _,hd σ H p⟩
structure FunD(K:PySem.W.Frag)(x qual:Str)(st:Stmt)(dV:Value)(f:Addr)(fd:FuncData):Prop where
 ex:∃(oc:Value) (od:Option Addr) (kV doc pm:Value) (an:Option Addr) (cdv ct:Value) (osl:Array (Option Value)),
  fd=PySem.W.fnOf x qual (cJ st) (cw st) (av st) dV kV doc pm an cdv ct/\K.lookup f=some ⟨oc,od,.func fd,osl⟩/\PySem.W.codeIn K cdv qual=true
 kp:PySem.W.keepIn K (.ref f)=true
section
variable {P:Program}{w:World}{K:PySem.W.Frag}{mg:Str->Option Value}{base:Heap}
theorem FunD.ok{x qual:Str}{st:Stmt}{dV:Value}{f:Addr}{fd:FuncData}{N ps:List Str}{k:Nat}{sp:Sp}(F:FunD K x qual st dV f fd)(S:FnScope N ps (av st))(len:∀vs H Q E,sp vs H Q E->vs.length=ps.length)
 (hbody:∀(cdv:Value) (A:Around) (outer:List Env) (s:Shared) (H:Hp) (vs:List V) (Q:VK) (E:XK),Room k (A.deeper (envOfC qual (av st) s.heap.objs.size f cdv))->sp vs H Q E ->
   ∃t,PSs (fu CX0 P w K mg base N qual (av st) f cdv A outer s H E).nox (cw st) t/\t { nx:=λ_ H'=>Q .non H',rt:=Q } (dm N vs) H):FnOk P w K mg base CX0 (k+1) f fd ps sp:=by
 obtain⟨oc,od,kV,doc,pm,an,cdv,ct,osl,rfl,lk,hcd⟩:=F.ex;refine tX lk hcd S len λA outer s H vs Q E hr hsp=>?_
 obtain⟨t,h,q⟩:=hbody cdv A outer s H vs Q E hr hsp;exact⟨t,h.nox,q⟩
theorem FunD.binds{x qual:Str}{st:Stmt}{dV:Value}{f:Addr}{fd:FuncData}{ps:List Str}(F:FunD K x qual st dV f fd)
 (h:∀(kV doc pm:Value) (an:Option Addr) (cdv ct:Value) (us:List Value),us.length=ps.length->bindArgs (PySem.W.fnOf x qual (cJ st) (cw st) (av st) dV kV doc pm an cdv ct) ⟨us,[]⟩=pure (ps.zip us)):Binds K fd ps []:=by
 obtain⟨oc,od,kV,doc,pm,an,cdv,ct,osl,rfl,lk,hcd⟩:=F.ex;exact .all (h kV doc pm an cdv ct)
theorem FunD.bindsD{x qual:Str}{st:Stmt}{T:Addr}{f:Addr}{fd:FuncData}{ps:List Str}{ds tup:List Value}{o:Obj}{n:Nat}(m:Nat)(F:FunD K x qual st (.ref T) f fd)(lo:K.lookup T=some o)(hs:o.data=.seq tup.toArray n)(hm:m+ds.length=ps.length)
 (h:∀(kV doc pm:Value) (an:Option Addr) (cdv ct:Value) (us:List Value),us.length=m->∃k:Option (Array Value)->Sem (List (Str×Value)),
   bindArgs (PySem.W.fnOf x qual (cJ st) (cw st) (av st) (.ref T) kV doc pm an cdv ct) ⟨us,[]⟩=seqItems? (.ref T) >>= k/\k (some tup.toArray)=pure (ps.zip (us++ds))):Binds K fd ps ds:=by
 obtain⟨oc,od,kV,doc,pm,an,cdv,ct,osl,rfl,lk,hcd⟩:=F.ex;intro s us KX hl;rw[GZ]at hl;obtain⟨k,h1,h2⟩:=h kV doc pm an cdv ct us (by omega);exact PySem.W.binds_K (k:=k) KX rfl lo hs h1 h2
theorem Cc{x qual:Str}{st:Stmt}{f:Addr}{oc:Value}{od an:Option Addr}{osl:Array (Option Value)}{dV kV doc pm cdv ct:Value}(l:K.lookup f=some ⟨oc,od,.func (PySem.W.fnOf x qual (cJ st) (cw st) (av st) dV kV doc pm an cdv ct),osl⟩)
 (c:PySem.W.codeIn K cdv qual=true) (k:PySem.W.keepIn K (.ref f)=true):FunD K x qual st dV f (PySem.W.fnOf x qual (cJ st) (cw st) (av st) dV kV doc pm an cdv ct):=⟨⟨oc,od,kV,doc,pm,an,cdv,ct,osl,rfl,l,c⟩,k⟩
end
structure MCal(P:Program)(w:World)(K:PySem.W.Frag)(mg:Str->Option Value)(base:Heap)(k:Nat)(C:Addr)(m:Str)(ps:List Str)(sp:Sp)(f:Addr)(fd:FuncData):Prop where
 ok:FnOk P w K mg base CX0 k f fd ps sp
 mt:Meth K C m f
 bd:Binds K fd ps []
structure KCal(P:Program)(w:World)(K:PySem.W.Frag)(mg:Str->Option Value)(base:Heap)(k:Nat)(C:Addr)(x:Str)(ps:List Str)(sp:Sp)(f:Addr)(fd:FuncData)(ds:List Value)(dvs:List V):Prop where
 ok:FnOk P w K mg base CX0 k f fd ps sp
 mkr:Mk K C f
 mg:mg x=some (.ref C)
 bd:Binds K fd ps []
 bdD:Binds K fd ps ds
 vd:Vals dvs ds
section
variable {prog:Program}{w:World}{A:Around}{E:Value->Shared->Prop}{s:Shared}
end
section
variable {X:Cx}{K:PySem.W.Frag}
theorem rB{pos:Pos}{es:List Expr}{k:Nat}{t:TGs}{n:Nat}(hK:X.K=K)(hc:X.calm=true)(h:PGs X es t)(hn:(assignEach es X.env).length=n)(hst:(assignEach es X.env).findIdx? (·.1)=none):PG X (.Tuple es k pos) (tR K n t):=by subst hK;exact eZ hc h hn hst
end
section
variable {P:Program}{w:World}{K:PySem.W.Frag}{mg:Str->Option Value}{base:Heap}{N:List Str}{qual:Str}{scope:Scope}{f:Addr}{cd:Value}{A:Around}{outer:List Env}{s:Shared}{H:Hp}{E:XK}{pins:List (Addr×Obj)}{σ:St}{H1:Hp}{s1:Shared}
end
noncomputable def gm(lo:Int)(n:Nat):It:=⟨λi _=>i<n,λi H x H'=>H'=H/\x=.int (lo+i * -1),λi _=>n<=i⟩
theorem vX{P:Program}{w:World}{K:PySem.W.Frag}{tg:Expr}(it:Addr)(lo:Int)(n:Nat):Turn P w K tg (gm lo n) [it] it (λi h=>IsRangeIter h it (lo+(i:Nat) * -1) ((n:Int)-(i:Nat)) (-1)) where
 mem:=by simp
 obj:=λi h st b hb=>by
  have e:b=it:=by simpa using hb
  subst e
  exact⟨_,st,λv z=>by
   have z':Data.fields _=Data.cell v:=z
   cases z'⟩
 keep:=λi h h' st k=>k it (by simp) _ st
 item:=by
  intro X hP hw hK hc i pins s σ H E I hf st hg;subst hP hw hK;obtain⟨f0,f1,f2,f3,f4,f5⟩:=hf it (by simp);have W:=Walks.range (prog:=X.prog) (w:=X.w) (I.ok.hd hc) it lo (-1) n;refine W.item i s _ _ hg st λv h' tk hv st' kk=>?_
  obtain⟨t,rfl⟩:=hv;have I1:Inv X pins σ H { s with heap:=h',toks:=tk }:=I.turned (λb o hb e=>kk b o (by simpa using hb) e) f0 f1 f3 f4 f5;exact⟨_,rfl,jo (s:={ s with heap:=h',toks:=tk }) (n:="range_iterator") st' rfl rfl (by decide) ⟨.int (lo+i * -1),H,I1,⟨t,rfl⟩,⟨rfl,rfl⟩,st',λb hb=>(hf b hb).1⟩⟩
 done:=by intro X hP hw hK hc i pins s σ H E I hf st hg;subst hP hw hK;obtain⟨f0,f1,f2,f3,f4,f5⟩:=hf it (by simp);exact wpAny_pyNext_range_end (I.ok.hd hc) st (by have:n<=i:=hg;omega) λh' eb=>⟨rfl,I.turned (t':=s.toks) (λb o hb e=>eb b o hb e) f0 f1 f3 f4 f5⟩
 self:=λ_ _ _ _ _ st h=>wpAny_pyIter_rangeiter st h
theorem qP(a b:Int):Builtin.Range.rangeSize a b (-1)=if b<a then a-b else 0:=by unfold Builtin.Range.rangeSize;rw[if_neg (by decide)];show(if a>b then(a-b-1)/1+1 else 0)=_;rw[Int.ediv_one];split<;>omega
theorem wE{a b:Int}(ha : -(2^61)<=a)(ha':a<2^61)(hb : -(2^61)<=b)(hb':b<2^61):Builtin.Range.small a b (-1)=true:=by unfold Builtin.Range.small;rw[qP];simp only[Builtin.Range.rangeFitsLong,Bool.and_eq_true,Bool.or_eq_true,decide_eq_true_eq,beq_iff_eq,show ¬((-1:Int)>0) by decide,if_false];split<;>omega
section
variable {X:Cx}{tg:Expr}
theorem xW{pins:List (Addr×Obj)}{σ:St}{H:Hp}{s:Shared}{R:It->Hp->Prop}{E:Value->Shared->Prop}{lo hi:Int}{t u v:Tok}{tk:Nat}(I:Inv X pins σ H s)(h1 : -(2^61)<=lo)(h2:lo<2^61)(h3 : -(2^61)<=hi)(h4:hi<2^61)
 (q:R (gm lo (lo-hi).toNat) H):wpAny (model X.prog X.w) X.A (pyIter (.ref s.heap.objs.size)) (PIE X pins σ tg R) E { s with heap:=s.heap.push { cls:=.type "range",data:=.fields #[.int lo t,.int hi u,.int (-1) v] },toks:=tk }:=by
 refine wpAny_pyIter_range (IsRange.new ..) (wE h1 h2 h3 h4) ?_;have I1:Inv X pins σ H { s with heap:=s.heap.push { cls:=.type "range",data:=.fields #[.int lo t,.int hi u,.int (-1) v] },toks:=tk }:=I.kept λb o e=>Heap.get?_push_of_some _ e
 refine⟨(s.heap.push { cls:=.type "range",data:=.fields #[.int lo t,.int hi u,.int (-1) v] }).objs.size,[(s.heap.push { cls:=.type "range",data:=.fields #[.int lo t,.int hi u,.int (-1) v] }).objs.size],_,_,H,rfl,
  I1.kept (t':=tk) λb o e=>Heap.get?_push_of_some _ e,vX _ lo (lo-hi).toNat,?_,λb hb=>?_,q⟩
 ·have e1:lo+((0:Nat):Int) * -1=lo:=by simp
  have e2:(((lo-hi).toNat:Nat):Int)-((0:Nat):Int)=Builtin.Range.rangeSize lo hi (-1):=by rw[qP];split<;>omega
  show IsRangeIter _ _ (lo+((0:Nat):Int) * -1) ((((lo-hi).toNat:Nat):Int)-((0:Nat):Int)) (-1);rw[e1,e2];exact Heap.get?_push_size _ rfl
 ·have e:b=(s.heap.push { cls:=.type "range",data:=.fields #[.int lo t,.int hi u,.int (-1) v] }).objs.size:=by simpa using hb
  subst e;exact I1.fpOk (GP _) (I1.hok.fresh (GP _))
def BJ(ta:TA):TI:=λσ H R=>ta σ H λvs H1=>∃i j:Int,vs=[.int i,.int j,.int (-1)]/\(-(2^61)<=i/\i<2^61 /\ -(2^61)<=j/\j<2^61)/\R (gm i (i-j).toNat) H1
theorem yw{a b c:Expr}{ta:TA}{p pos:Pos}(hg:Gl X "range")(hm:X.mg "range"=none)(ha:PA X [a,b,c] ta)(hs:starEach [a,b,c] X.env=[(false,eval a X.env),(false,eval b X.env),(false,eval c X.env)]:=by rfl)(hs2:starEach [b,c] X.env=[(false,eval b X.env),(false,eval c X.env)]:=by rfl) :
 PI X tg (.Call (.Name "range" p) [a,b,c] [] pos) (BJ ta):=by
 intro pins s σ H R I h;refine Call_ (dR I hg hm boot_range (PyProof.Rows.callWith_type1 (thn (ha pos pins s σ H _ I h) λus s1 ⟨vs,H1,I1,r1,q1⟩=>?_) (by rw[hs,hs2]) (by rw[hs2];rfl)));obtain⟨i,j,e,⟨q1,q2,q3,q4⟩,q⟩:=q1;subst e;cases r1 with
 |cons r rr =>
  cases rr with
  |cons r' rr =>
   cases rr with
   |cons r'' rr =>cases rr;obtain⟨t,rfl⟩:=r;obtain⟨t',rfl⟩:=r';obtain⟨t'',rfl⟩:=r'';exact call_range_3 (by decide) (xW I1 q1 q2 q3 q4 q) (Or.inl (PyProof.noPylong_small (by decide)))
end
theorem Cd{lo:Int}{n:Nat}{g:TG}{tb:TS}{D:Ends}{σ:St}{H:Hp}(Pv:Nat->St->Hp->Prop)(h0:Pv 0 σ H)
 (hs:∀i σ H,i<n->Pv i σ H->g (.int (lo+i * -1)) σ H λσ2 H2=>tb { D with nx:=Pv (i+1),ct:=Pv (i+1),bk:=D.nx } σ2 H2) (hd:∀σ H,Pv n σ H->D.nx σ H) :
 ∃W:Nat->Nat->St->Hp->Prop,(∃m,W 0 m σ H)/\∀i m σ H,W i m σ H ->
  ((gm lo n).stop i H/\D.nx σ H)\/((gm lo n).go i H/\∃N:St->Hp->Prop,(∀σ' H',N σ' H'->∃m',m'<m/\W (i+1) m' σ' H')/\∀x H',(gm lo n).yld i H x H'->g x σ H' λσ2 H2=>tb { D with nx:=N,ct:=N,bk:=D.nx } σ2 H2):=by
 refine⟨λi m σ H=>m=n-i/\i<=n/\Pv i σ H,⟨n,by simp,GR _,h0⟩,?_⟩;rintro i m σ H ⟨rfl,hi,p⟩;by_cases hlt:i<n
 ·refine .inr ⟨hlt,Pv (i+1),λσ' H' p'=>⟨n-(i+1),by omega,rfl,hlt,p'⟩,λx H' y=>?_⟩;obtain⟨e,y⟩:=y;subst e y;exact hs i σ _ hlt p
 ·have e:i=n:=by omega
  subst e;exact .inl ⟨GP _,hd σ H p⟩
def Rws(K:PySem.W.Frag)(H:Hp)(ps:List Addr)(xss:List (List Int)):Prop:=ps.length=xss.length/\∀(i:Nat) (p:Addr) (xs:List Int),ps[i]?=some p->xss[i]?=some xs->SqL K H p (xs.map V.int)
theorem qG:∀{ps:List Addr} {us:List Value},Vals (ps.map V.ref) us->us=ps.map Value.ref
 | [],_,h=>by cases h;rfl
 |p::ps,_,h=>by
  cases h with
  |cons r rr =>cases r;rw[qG rr];rfl
section
variable {X:Cx}{K:PySem.W.Frag}
end
theorem A4{P:Program}{w:World}{K:PySem.W.Frag}{mg mb:Str->Option Value}{CX:CXT}{k:Nat}{fa a:Addr}{fd:FuncData}{x:Str}{sp:Sp}{s₁:Shared}{vs:List Value}{ns:List Int}
 (KX:K.In s₁.heap) (hns:s₁.heap.Ns mainGlobals mg) (hb:s₁.heap.Ns builtinsNs mb) (hbb:∀x:Str,x≠"__name__"->mb x=bootBuiltins x) (hlim:s₁.heap.NoLimit) (hse:s₁.heap.NoSeer) (hg:s₁.gens=#[])
 (ha:s₁.heap.get? a=some { cls:=.type "list",data:=.seq vs.toArray }) (hi:IntsAre vs ns) (hl:ns.length<=sizeLine) (hr:Room k callerA)
 (F:∀base:Heap,K.In base->base.Ns mainGlobals mg->base.NoSeer->FnOk P w K mg base CX k fa fd [x] sp) (hbind:∀(s:Shared) (u:Value),BindsTo s fd ⟨[u],[]⟩ [(x,u)])
 (hsp:∀H:Hp,nV H->SqL K H a (ns.map V.int)->sp [.ref a] H (λv _=>v=.bl true) λ_ _ _=>False)
 (hCX:∀H e s',CX [] H s₁ (λ_ _ _=>False) e s'->False) :
 codeAny (model P w) callerA (.call (.ref fa) ⟨[.ref a],[]⟩) (λr s'=>r=.ok (.ret (.bool true))/\OldK s₁.heap s'.heap/\s'.os=s₁.os/\AllBare s'.gens) s₁:=by
 have rv:=oG hi;have lenV:=hi.length
 have core:∀H:Hp,nV H->SqL K H a (ns.map V.int)->HOk P w H s₁.heap->(∀b,H b≠none->b=a)->(H a≠none->K.lookup a=none) ->
  codeAny (model P w) callerA (.call (.ref fa) ⟨[.ref a],[]⟩) (λr s'=>r=.ok (.ret (.bool true))/\OldK s₁.heap s'.heap/\s'.os=s₁.os/\AllBare s'.gens) s₁:=by
  intro H hO hS hok hA hK;have base_of:∀{b:Addr} {o:Obj},s₁.heap.get? b=some o->H b=none->(dd s₁.heap H).get? b=some o:=λe n=>BP e n
  have noA:∀{b:Addr} {o:Obj} {es:Array DictEntry} {ep:Nat},s₁.heap.get? b=some o->o.data=.dict es ep->H b=none:=λ{b o es ep} e d=>by
   cases q:H b with
   |none=>rfl
   |some u =>have e':b=a:=hA b (by rw[q];simp);subst e';rw[ha]at e;cases e;have d':Data.seq vs.toArray _=Data.dict es ep:=d;cases d'
  have nsK:∀{b:Addr} {m:Str->Option Value},s₁.heap.Ns b m->(dd s₁.heap H).Ns b m:=λ{b m} ⟨o,es,ep,e,d,r⟩=>⟨o,es,ep,base_of e (noA e d),d,r⟩
  have hKb:K.In (dd s₁.heap H):=λb o e=>base_of (KX b o e) (by
   cases q:H b with
   |none=>rfl
   |some u =>
    have e':b=a:=hA b (by rw[q];simp);subst e'
    rw[hK (by rw[q];simp)]at e;cases e)
  have hM:Mod K mg (dd s₁.heap H):=⟨hKb,nsK hns,⟨mb,nsK hb,hbb⟩,let⟨mc,h1,h2⟩:=hlim;⟨mc,nsK h1,h2⟩⟩
  have hSb:(dd s₁.heap H).NoSeer:=by
   obtain⟨⟨mc,c1,c2,c3⟩,⟨mm,m1,m2⟩,⟨mb',b1,b2⟩,⟨mg',bm,ob,g1,g2,g3,g4,g5⟩⟩:=hse;refine⟨⟨mc,nsK c1,c2,c3⟩,⟨mm,nsK m1,m2⟩,⟨mb',nsK b1,b2⟩,⟨mg',bm,ob,nsK g1,g2,base_of g3 ?_,g4,g5⟩⟩;cases q:H bm with
   |none=>rfl
   |some u =>have e':bm=a:=hA bm (by rw[q];simp);rw[e',ha]at g3;cases g3;exact absurd (Value.type.inj g4) (by decide)
  have e0:Env0 P w K mg (dd s₁.heap H) callerA [] s₁ H:=⟨rfl,hM,λb o e=>zT e,Ii (BO _ _),trivial,λb hb=>absurd (show b∈([]:List Addr)from hb) (by simp),hok,.of_eq hg⟩;refine codeAny_mono ((F _ hKb (nsK hns) hSb).run callerA [] s₁ H ⟨[.ref a],[]⟩ [.ref a] [.ref a] _ _ hr e0 (hbind s₁ (.ref a)) (.cons rfl .nil) (hsp H hO hS)) λr s' h=>?_
  cases r with
  |error e=>exact(hCX H e s' h).elim
  |ok fl =>
   cases fl with
   |next=>exact False.elim h
   |brk=>exact False.elim h
   |cont=>exact False.elim h
   |ret u =>
    obtain⟨v,H',os,bare,un,hok',r',q⟩:=h;have q':v=.bl true:=q;subst q';obtain rfl:u=Value.bool true:=r';refine⟨rfl,OldK.of_keep λb o e=>?_,os,bare⟩;cases q:H b with
    |none=>exact un.keep b o e q (by intro z;exact absurd (show b∈([]:List Addr)from z) (by simp)) (by simp)
    |some u =>
     rcases hO b with z |⟨ob,xs,z⟩
     ·rw[q]at z;cases z
     ·have z2:=un.frzs b ob _ z;obtain⟨e1,_⟩:=hok b _ z;obtain⟨e2,_⟩:=hok' b _ z2;rw[e]at e1;cases e1;exact e2
 cases hk:K.lookup a with
 |some o =>have e:=KX a o hk;rw[ha]at e;cases e;refine core (λ_=>none) (λ_=>.inl rfl) (.inr ⟨_,vs.toArray,_,hk,rfl,rfl,rfl,by rw[G0,lenV];exact hl,by simpa using rv⟩) (λb u z=>by have z':(none:Option HO)=some u:=z;cases z') (λb z=>absurd rfl z) λz=>absurd rfl z
 |none =>
  refine core (λb=>if b=a then some (.frz { cls:=.type "list",data:=.seq vs.toArray } (.lst (ns.map V.int)))else none) (λb=>?_) (.inl (.inr ⟨{ cls:=.type "list",data:=.seq vs.toArray },if_pos rfl⟩)) (λb u z=>?_) (λb z=>?_) λ_=>hk
  ·by_cases hb:b=a
   ·exact .inr ⟨_,_,if_pos hb⟩
   ·exact .inl (if_neg hb)
  ·by_cases hb:b=a
   ·have z':=(if_pos hb).symm.trans z;cases z';subst hb;exact⟨ha,by rw[GO];exact hl,vs,_,rv,ha⟩
   ·have z':=(if_neg hb).symm.trans z;cases z'
  ·by_cases hb:b=a
   ·exact hb
   ·exact absurd (if_neg hb) z
theorem walk_ofS{l:PySem.W.OpenLaw}{n k:Nat}{q:Program}{loose:List Str}{XP:(Str->Option Value)->Heap->Prop}{YP:World->Heap->Prop}{d:DefRec}{K:Params->PySem.W.Frag}{CX:World->CXT}{sp:World->Sp}{x:Str}
 (hi:PyProof.Rows.importsNone q=true) (hn:l.most=some n) (hn2:n<=sizeLine) (hdf:d.params.defaults=[]) (hr:Room k callerA)
 (hY:∀(w:World) (h:Heap),YP w h->(K w.params).In h)
 (F:∀(w:World) (mg:Str->Option Value) (fa:Addr) (h:Heap),(K w.params).In h->h.Ns mainGlobals mg->mg d.name=some (.ref fa) ->
   ∃fd:FuncData,(∀(s:Shared) (u:Value),BindsTo s fd ⟨[u],[]⟩ [(x,u)]) /\
    ∀base:Heap,(K w.params).In base->base.Ns mainGlobals mg->base.NoSeer->FnOk l.prog w (K w.params) mg base (CX w) k fa fd [x] (sp w))
 (hsp:∀(w:World) (H:Hp) (a:Addr) (ns:List Int),ns.length<=n->nV H->SqL (K w.params) H a (ns.map V.int)->sp w [.ref a] H (λv _=>v=.bl true) λ_ _ _=>False)
 (hCX:∀(w:World) (H:Hp) (s:Shared) (e:Value) (s':Shared),CX w [] H s (λ_ _ _=>False) e s'->False) :
 PySem.W.WalkO q loose XP YP l.row.toRowW d [] (λf vs=>PySem.call f vs):=by
 refine Att.attach_call hn hdf λw s₀ s₁ mg mb fa o pm cd doc a vs ns G Y ho hd hcd hmg hobj hints hlen hg=>?_
 have KX:=hY w _ Y;obtain⟨fd,hb,hF⟩:=F w mg fa _ KX G.T.g hmg;exact A4 KX G.T.g G.T.b G.T.builtins G.T.nolimit (G.T.seer hi) hg hobj hints (GW hlen hn2) hr hF hb (λH hO hS=>hsp w H a ns hlen hO hS) λH e s'=>hCX w H s₁ e s'
section
variable {X:Cx}{e:Env}{l:List Env}
theorem xK{pins:List (Addr×Obj)}{σ:St}{H:Hp}{s:Shared}(hs:X.base.NoSeer)(ht:X.prog.given.tree=none)(hd:X.A.depth+100<recursionLimit)(hst:X.stack=e::l)(h1:e.scope.isGenerator=false)(h2:e.scope.isCoroutine=false)(h3:e.builtins=builtinsNs)(h4:e.globals=mainGlobals)(I:Inv X pins σ H s):PylongRoom (model X.prog X.w) X.A s :=
 PylongRoom.of (I.ok.mod.nolimit.keeps I.bk) hd (SeerAt.of (hs.keeps I.bk) ht (by rw[I.ok.frames,hst]) h1 h2 h3 h4)
theorem rE(hs:X.base.NoSeer)(ht:X.prog.given.tree=none)(hd:X.A.depth+100<recursionLimit)(hst:X.stack=e::l)(h1:e.scope.isGenerator=false)(h2:e.scope.isCoroutine=false)(h3:e.builtins=builtinsNs)(h4:e.globals=mainGlobals):OpR X (binaryOp .FloorDiv) (rI (λ_ j=>0<j) λi j=>.int (i/j)):=by intro pins s σ H x y v u Q I rx ry h;obtain⟨i,j,rfl,rfl,hj,q⟩:=h;obtain⟨t,rfl⟩:=rx;obtain⟨t',rfl⟩:=ry;have hj':(0:Int)<j:=hj;refine floordiv_int (Iy hj') ?_ (.inr (xK hs ht hd hst h1 h2 h3 h4 I));rw[Int.fdiv_eq_ediv_of_nonneg _ (GS hj')];exact⟨.int (i/j),H,I.tok _,⟨_,rfl⟩,q⟩
end
def Top(val:Nat->Int)(n:Nat)(M:Int):Prop:=(∃i,i<n/\val i=M)/\∀i,i<n->val i<=M
theorem Top.more{val:Nat->Int}{n:Nat}{M:Int}(h:Top val n M)(hn:val n>M):Top val (n+1) (val n) :=
 ⟨⟨n,by omega,rfl⟩,λi hi=>by
   by_cases e:i=n
   ·subst e;exact HV _
   ·have:=h.2 i (by omega);omega⟩
theorem Top.less{val:Nat->Int}{n:Nat}{M:Int}(h:Top val n M)(hn:¬val n>M):Top val (n+1) M :=
 ⟨let⟨i,hi,e⟩:=h.1;⟨i,by omega,e⟩,λi hi=>by
  by_cases e:i=n
  ·subst e;omega
  ·exact h.2 i (by omega)⟩
section
variable {prog:Program}{w:World}{A:Around}{R:Result->Shared->Prop}{I S:Addr}{fp wr:List Addr}{n:Nat}{P:Nat->Value->Prop}{St:Nat->Heap->Prop}{val:Nat->Int}{d:Value}
end
section
variable {prog:Program}{w:World}{A:Around}{E:Value->Shared->Prop}{s:Shared}{l:Addr}{xs:Array (Int×Tok)}{d:Value}
end
section
variable {X:Cx}{K:PySem.W.Frag}{e ed:Expr}{ta td:TE}{p pos kp:Pos}
end
theorem uZ:∀{bs:List Bool} {us:List Value},Vals (bs.map V.bl) us->us=bs.map Value.bool
 | [],_,h=>by cases h;rfl
 |b::bs,_,h=>by
  cases h with
  |cons r rr =>cases r;rw[uZ rr];rfl
section
variable {X:Cx}
end
def qQ(K:PySem.W.Frag):R2:=λx y H Q=>∃(a p:Addr) (ps:List Addr) (xss:List (List Int)) (xs:List Int),x=.ref p/\y=.ref a/\H p=some (.lst (xs.map V.int))/\SqL K H a (ps.map V.ref)/\ps.length=xss.length/\(∀(i:Nat) (p:Addr) (xs:List Int),ps[i]?=some p->xss[i]?=some xs->H p=some (.lst (xs.map V.int)))/\Q (.bl (!decide (xs∈xss))) H
theorem tD{xs ys:List Int}(h:xs.map V.int=ys.map V.int):xs=ys:=by
 refine List.ext_getElem? λi=>?_
 have:=congrArg (λl:List V=>l[i]?) h;simp only[List.getElem?_map]at this;cases e1:xs[i]?<;>cases e2:ys[i]?<;>rw[e1,e2]at this<;>simp at this
 rw[this]
open Classical in
noncomputable def fk (H:Hp) (xs:List Int) (w:Value):Bool:=match w with
 |.ref q=>decide (H q=some (.lst (xs.map V.int)))
 |_=>false
theorem eRow_iff{H:Hp}{xs:List Int}{q:Addr}:fk H xs (.ref q)=true↔H q=some (.lst (xs.map V.int)):=by unfold fk;exact @decide_eq_true_iff _ (_)
section
variable {X:Cx}{K:PySem.W.Frag}
theorem yJ(hu:X.A.units+66<cLine):OpR X (compareOp .NotIn) (qQ X.K):=by
 intro pins s σ H x y v u Q I rx ry h;obtain⟨a,p,ps,xss,xs,rfl,rfl,hp,ha,hl,hr,q⟩:=h;cases rx;cases ry;obtain⟨i0,r0,p0,_⟩:=I.list (SqL.of (K:=X.K) hp);obtain⟨i1,r1,p1,_⟩:=I.list ha;obtain rfl:=qG r1;refine SeqAt.notIn_listAt (fk H xs) p1.isList (λw hw=>?_) ⟨.bl _,H,I,rfl,?_⟩
 ·obtain⟨q,hq,rfl⟩:=GT.mp (by simpa using hw);obtain⟨i,hi,rfl⟩:=HZ hq;have hx:xss[i]?=some (xss[i]'(by omega)):=List.getElem?_eq_getElem (by omega);have h1:=hr i ps[i] _ (List.getElem?_eq_getElem hi) hx;obtain⟨i2,r2,p2,_⟩:=I.list (SqL.of (K:=X.K) h1);have e:=PySem.W.keq_ints (A:=X.A) p2.isList (dW r2) p0.isList (dW r0) (by show X.A.units+1+64<cLine;omega)
  have ee:fk H xs (.ref ps[i])=decide (xss[i]'(by omega)=xs):=by
   rw[IJ,eRow_iff,h1,decide_eq_true_eq];constructor
   ·intro z;injection z with z;injection z with z;exact tD z
   ·intro z;rw[z]
  rw[ee];exact e
 ·have e:(ps.map Value.ref).toArray.any (fk H xs)=decide (xs∈xss):=by
   rw[show(ps.map Value.ref).toArray.any (fk H xs)=(ps.map Value.ref).any (fk H xs) by simp,IJ,List.any_eq_true,decide_eq_true_eq];constructor
   ·rintro⟨w,hw,z⟩;obtain⟨q,hq,rfl⟩:=GT.mp hw;obtain⟨i,hi,rfl⟩:=HZ hq;have hx:xss[i]?=some (xss[i]'(by omega)):=List.getElem?_eq_getElem (by omega);have h1:=hr i ps[i] _ (List.getElem?_eq_getElem hi) hx;have z':H ps[i]=_:=eRow_iff.mp z;rw[h1]at z'
    injection z' with z';injection z' with z'
    rw[<- tD z'];exact Hu _
   ·intro hm;obtain⟨i,hi,rfl⟩:=HZ hm;refine⟨.ref (ps[i]'(by omega)),GT.mpr ⟨_,Hu _,rfl⟩,?_⟩;exact eRow_iff.mpr (hr i _ _ (List.getElem?_eq_getElem (by omega)) (List.getElem?_eq_getElem hi))
  rw[e];exact q
theorem yI(h:X.K=K)(hu:X.A.units+66<cLine):OpR X (compareOp .NotIn) (qQ K):=by subst h;exact yJ hu
end
noncomputable def bg:Nat:=67000000
section
variable {X:Cx}{K:PySem.W.Frag}
end
section
variable {X:Cx}{tg:Expr}{K:PySem.W.Frag}
theorem DY(bs:List Bool):(List.range bs.length).all (λi=>bs.getD i false)=bs.all id:=by
 rw[IJ,Ix,Ix];constructor
 ·intro h b hb;obtain⟨i,hi,rfl⟩:=HZ hb;have:=h i (IG.mpr hi);simpa[List.getD,List.getElem?_eq_getElem hi]using this
 ·intro h i hi;have hi':=IG.mp hi;have:=h bs[i] (Hu hi');simpa[List.getD,List.getElem?_eq_getElem hi']using this
end
theorem Dw{X:Cx}{K:PySem.W.Frag}(hK:X.K=K)(hc:X.calm=true):CallR X (.builtin "all") (λxs H Q=>∃(p:Addr) (bs:List Bool),xs=[.ref p]/\SqL K H p (bs.map V.bl)/\Q (.bl (bs.all id)) H):=by
 subst hK;intro pins s σ H xs us Q I r h;obtain⟨p,bs,rfl,hq,q⟩:=h;obtain⟨u,rfl,rx⟩:=fF r;cases rx;obtain⟨its,r',pl,hz⟩:=I.list hq;have e:=uZ r';subst e;have hl:=pl.isList;have hlt:p<s.heap.objs.size:=by obtain⟨_,e,_⟩:=hl;exact Heap.lt_size e
 refine call_all_walk (wpAny_pyIter_list hl ?_);refine⟨_,_,_,_,_,_,λi=>bs.getD i false,rfl,Walks.list (A:=X.A.in1) (I.ok.hd hc) _ p (G6 hlt) _,⟨⟨_,Heap.get?_push_size _ rfl,rfl,rfl⟩,hl.push _⟩,λi v s' Q' E' hP hQ=>?_,λh' tk hk=>?_⟩
 ·have e:v=.bool (bs.getD i false):=by have hP':((bs.map Value.bool).toArray)[i]?=some v:=hP;simp only[List.getElem?_toArray,List.getElem?_map,Option.map_eq_some_iff]at hP';obtain⟨b,hb,rfl⟩:=hP';simp[List.getD,hb]
  subst e;exact wpAny_truthy_bool hQ
 ·refine⟨.bl (bs.all id),H,I.kept (old_kept hk),?_,q⟩;show Value.bool _=Value.bool _;rw[<- DY bs];simp
section
variable {X:Cx}
end
end L2
namespace RM
open PySem
end RM
namespace L2
open PySem PySem.Spec PyProof.Rows
section
variable {X:Cx}{K:PySem.W.Frag}
end
section
variable {X:Cx}{pins:List (Addr×Obj)}{σ:St}{H:Hp}{s:Shared}{h':Heap}
end
section
variable {X:Cx}
end
section
variable {X:Cx}{K:PySem.W.Frag}
def qR(K:PySem.W.Frag):R2:=λx y H Q=>∃(a b:Addr) (ns ms:List Int),x=.ref a/\y=.ref b/\SqT K H a (ns.map V.int)/\SqT K H b (ms.map V.int)/\Q (.bl (!decide (ns=ms))) H
theorem jl{us:List Value}{ns:List Int}(h:IntsAre us ns):us.length=ns.length:=by induction h<;>simp[*]
theorem tE{us:List Value}{ns:List Int}(h:IntsAre us ns):∀(j:Nat) (hj:j<us.length),∃(n:Int) (t:Tok),us[j]=.int n t/\ns[j]?=some n:=by
 induction h with
 |nil=>intro j hj;cases hj
 |cons n t _ ih =>
  intro j hj;cases j with
  |zero=>exact⟨n,t,rfl,rfl⟩
  |succ j=>obtain⟨n',t',e1,e2⟩:=ih j (Nat.lt_of_succ_lt_succ hj);exact⟨n',t',e1,e2⟩
theorem DZ{ns ms:List Int}{n:Nat}(hn:min ns.length ms.length=n):((List.range n).all (λj=>decide (ns[j]?=ms[j]?))&&ns.length == ms.length)=decide (ns=ms):=by
 rw[IJ];simp only[Bool.and_eq_true,Ix,IG,decide_eq_true_eq,beq_iff_eq];constructor
 ·rintro⟨h1,h2⟩;refine List.ext_getElem? λj=>?_
  by_cases hj:j<n
  ·exact h1 j hj
  ·rw[List.getElem?_eq_none (by omega),List.getElem?_eq_none (by omega)]
 ·rintro rfl;exact⟨λ_ _=>rfl,rfl⟩
theorem yL(hu:X.A.units+66<cLine):OpR X (compareOp .NotEq) (qR X.K):=by
 intro pins s σ H x y v u Q I rx ry h;obtain⟨a,b,ns,ms,rfl,rfl,ha,hb,q⟩:=h;cases rx;cases ry;obtain⟨i1,r1,p1,_⟩:=I.tuple ha;obtain⟨i2,r2,p2,_⟩:=I.tuple hb;have z1:=dW r1;have z2:=dW r2;refine SeqAt.RcNeAt.tuples (e:=λj=>decide (ns[j]?=ms[j]?)) p1 p2 (by omega) (λj h1 h2=>?_) _ _ _ _ ⟨.bl _,H,I,?_,q⟩
 ·obtain⟨n,t,e1,g1⟩:=tE z1 j h1;obtain⟨m,t',e2,g2⟩:=tE z2 j h2;have w1:i1.toArray[j]=i1[j]'h1:=rfl;have w2:i2.toArray[j]=i2[j]'h2:=rfl;rw[w1,w2,e1,e2,g1,g2];have:=(MeetsSeq.EqGives.int n m t t').at X.A.in1 s;have e:decide (some n=some m)=(n == m):=by rw[IJ];simp
  rw[e];exact this
 ·show Value.bool _=Value.bool _
  congr 2
  rw[<- DZ (n:=min i1.toArray.size i2.toArray.size) (by rw[G0,G0,jl z1,jl z2])];rw[G0,G0,jl z1,jl z2]
theorem yK(h:X.K=K)(hu:X.A.units+66<cLine):OpR X (compareOp .NotEq) (qR K):=by subst h;exact yL hu
end
section
variable {X:Cx}{own fr:List Str}{js:List Nat}{scope:Scope}{cl:List (Str×Addr)}{elt target iter:Expr}{pos:Pos}{wi:TI}{g:TG}{te:TE}{cond:Expr}{tt:TT}
end
section
variable {prog:Program}{w:World}{A:Around}{E:Value->Shared->Prop}{s:Shared}
end
section
variable {X:Cx}{tg:Expr}
end
end L2
namespace RM
noncomputable def cf(l:List Int)(k:Nat):Int:=l.getD k 0
theorem bQ(k:Nat):cf [] k=0:=by simp[cf]
theorem ng(x:Int)(l:List Int):cf (x::l) 0=x:=rfl
theorem ni(x:Int)(l:List Int)(k:Nat):cf (x::l) (k+1)=cf l k:=rfl
theorem bD{l:List Int}{k:Nat}(h:l.length<=k):cf l k=0:=by unfold cf;rw[List.getD,List.getElem?_eq_none_iff.mpr h];rfl
theorem ck{l:List Int}{k:Nat}(h:k<l.length):cf l k=l[k]:=by unfold cf;rw[List.getD,List.getElem?_eq_getElem h];rfl
theorem nj{l:List Int}{k:Nat}{x:Int}(h:l[k]?=some x):cf l k=x:=by unfold cf;rw[List.getD,h];rfl
theorem de{l:List Int}{k:Nat}(h:k<l.length):l[k]?=some (cf l k):=by rw[ck h,List.getElem?_eq_getElem h]
theorem uW{l r:List Int}{k:Nat}(h:k<l.length):cf (l++r) k=cf l k:=by unfold cf;rw[List.getD,List.getD,List.getElem?_append_left h]
theorem nr{l r:List Int}{k:Nat}(h:l.length<=k):cf (l++r) k=cf r (k-l.length):=by unfold cf;rw[List.getD,List.getD,List.getElem?_append_right h]
theorem g6{l:List Int}{j k:Nat}{x:Int}(h:j<l.length):cf (l.set j x) k=if k=j then x else cf l k:=by
 unfold cf;rw[List.getD,List.getD,List.getElem?_set];by_cases e:j=k
 ·subst e;simp[h]
 ·rw[if_neg e,if_neg (λz=>e z.symm)]
theorem g7(n k:Nat):cf (List.replicate n 0) k=0:=by unfold cf;rw[List.getD,List.getElem?_replicate];split<;>rfl
theorem eh(f:Nat->Int)(n k:Nat):cf ((List.range n).map f) k=if k<n then f k else 0:=by
 unfold cf;rw[List.getD,List.getElem?_map];by_cases h:k<n
 ·rw[if_pos h,List.getElem?_range h];rfl
 ·rw[if_neg h,List.getElem?_eq_none_iff.mpr (by simpa using h)];rfl
theorem cP{a b:List Int}(hl:a.length=b.length)(h:∀k,k<a.length->cf a k=cf b k):a=b:=by apply List.ext_getElem hl;intro k h1 h2;rw[<- ck h1,<- ck h2];exact h k h1
noncomputable def trim(l:List Int):List Int:=(l.reverse.dropWhile (· == 0)).reverse
theorem ir(l:List Int):trim (l++[0])=trim l:=by unfold trim;rw[List.reverse_append];rfl
theorem gn(l:List Int){x:Int}(h:x≠0):trim (l++[x])=l++[x]:=by unfold trim;rw[List.reverse_append];show((x::l.reverse).dropWhile (· == 0)).reverse=_;rw[List.dropWhile_cons_of_neg (by simpa using h)];simp
def Tr(l:List Int):Prop:=∀n,l.length=n+1->cf l n≠0
theorem cF(l:List Int):l=[]\/∃r x,l=r++[x]:=by
 cases h:l.reverse with
 |nil=>left;simpa using h
 |cons x r=>right;exact⟨r.reverse,x,by rw[<- List.reverse_reverse l,h];simp⟩
theorem gh(r:List Int)(x:Int):cf (r++[x]) r.length=x:=by rw[nr (GP _),Nat.sub_self];rfl
theorem wd:Tr []:=λn h=>by simp at h
theorem tr_snoc{r:List Int}{x:Int}:Tr (r++[x])↔x≠0:=by
 constructor
 ·intro h;have:=h r.length (by simp)
  rwa [gh]at this
 ·intro h n hn;have e:n=r.length:=by simp at hn;omega
  subst e
  rwa [gh]
theorem iq:∀(n:Nat) (l:List Int),l.length=n->Tr (trim l)/\(trim l).length<=l.length/\∀k,cf (trim l) k=cf l k
 |0,l,h=>by have:l=[]:=HA.mp h;subst this;exact⟨wd,GP _,λ_=>rfl⟩
 |n+1,l,h=>by
  rcases cF l with rfl |⟨r,x,rfl⟩
  ·simp at h
  ·by_cases hx:x=0
   ·subst hx;obtain⟨h1,h2,h3⟩:=iq n r (by simpa using h);rw[ir];refine⟨h1,by rw[GZ];exact GW h2 (Nat.le_add_right _ _),λk=>?_⟩;rw[h3];by_cases hk:k<r.length
    ·rw[uW hk]
    ·rw[nr (HG hk),bD (HG hk)];cases e:k-r.length with
     |zero=>rfl
     |succ j=>rw[ni,bQ]
   ·rw[gn r hx];exact⟨tr_snoc.mpr hx,GP _,λ_=>rfl⟩
theorem cL(l:List Int):Tr (trim l):=(iq _ l rfl).1
theorem sN(l:List Int):(trim l).length<=l.length:=(iq _ l rfl).2.1
theorem fx(l:List Int)(k:Nat):cf (trim l) k=cf l k:=(iq _ l rfl).2.2 k
theorem wa{l:List Int}(h:Tr l):trim l=l:=by
 rcases cF l with rfl |⟨r,x,rfl⟩
 ·rfl
 ·exact gn r (tr_snoc.mp h)
theorem gW{a b:List Int}(ha:Tr a)(hb:Tr b)(h:∀k,cf a k=cf b k):a=b:=by
 have le:∀{a b:List Int},Tr a->(∀k,cf a k=cf b k)->a.length<=b.length:=λ{a b} ha h=>by
  cases e:a.length with
  |zero=>exact GR _
  |succ n =>apply Classical.byContradiction;intro hn;exact ha n e (by rw[h n,bD (by omega)])
 have hl:a.length=b.length:=Nat.le_antisymm (le ha h) (le hb λk=>(h k).symm);exact cP hl λk _=>h k
theorem oK{l:List Int}{n:Nat}(hn:n<l.length)(h:cf l n=0):trim (l.take (n+1))=trim (l.take n):=by rw[HM,de hn,h];exact ir _
theorem oM{l:List Int}{n:Nat}(hn:n<l.length)(h:cf l n≠0):trim (l.take (n+1))=l.take (n+1):=by rw[HM,de hn];exact gn _ h
noncomputable def cH(f:Int)(a b:List Int):List Int:=(List.range (max a.length b.length)).map λk=>cf a k+f*cf b k
theorem fy(f:Int)(a b:List Int)(k:Nat):cf (cH f a b) k=cf a k+f*cf b k:=by
 unfold cH;rw[eh];by_cases h:k<max a.length b.length
 ·rw[if_pos h]
 ·have h1:a.length<=k:=by omega
  have h2:b.length<=k:=by omega
  rw[if_neg h,bD h1,bD h2];simp
noncomputable def fB(a b:List Int):List Int:=trim (cH 1 a b)
noncomputable def aZ(a b:List Int):List Int:=trim (cH (-1) a b)
noncomputable def tm(a b:List Int)(n i:Nat):Int:=if i<=n then cf a i*cf b (n-i)else 0
noncomputable def sm(a b:List Int)(n:Nat):Nat->Int
 |0=>0
 |j+1=>sm a b n j+tm a b n j
noncomputable def ao(a b:List Int)(n:Nat):Int:=sm a b n a.length
noncomputable def ae(a b:List Int):List Int:=if a=[]\/b=[]then[]else(List.range (a.length+b.length-1)).map (ao a b)
theorem wf{a b:List Int}{n i:Nat}(h:a.length<=i):tm a b n i=0:=by
 unfold tm;split
 ·rw[bD h,Ho]
 ·rfl
theorem iw{a b:List Int}{n i:Nat}(h:b.length<=n-i):tm a b n i=0:=by
 unfold tm;split
 ·rw[bD h,G7]
 ·rfl
theorem gy{a b:List Int}{n:Nat}:∀{j:Nat},(∀i,i<j->tm a b n i=0)->sm a b n j=0
 |0,_=>rfl
 |j+1,h=>by rw[sm,gy λi hi=>h i (Nat.lt_succ_of_lt hi),h j (HU _)];rfl
theorem rZ{a b:List Int}{n:Nat}(h:a.length+b.length<=n+1):ao a b n=0:=by apply gy;intro i hi;exact iw (by omega)
theorem lM{a b:List Int}{la lb:Nat}(ha:a.length=la+1)(hb:b.length=lb+1):ao a b (la+lb)=cf a la*cf b lb:=by unfold ao;rw[ha,sm,gy λi hi=>iw (by omega)];unfold tm;rw[if_pos (Nat.le_add_right _ _),Nat.add_sub_cancel_left,Im]
theorem aE(a b:List Int)(n:Nat):cf (ae a b) n=ao a b n:=by
 unfold ae;by_cases h:a=[]\/b=[]
 ·rw[if_pos h,bQ]
  symm
  apply gy;intro i hi;rcases h with rfl |rfl
  ·simp at hi
  ·exact iw (GR _)
 ·rw[if_neg h,eh];by_cases hn:n<a.length+b.length-1
  ·rw[if_pos hn]
  ·rw[if_neg hn,rZ (by omega)]
theorem eJ{a b:List Int}(ha:Tr a)(hb:Tr b):Tr (ae a b):=by
 intro n hn;rw[aE];by_cases h:a=[]\/b=[]
 ·unfold ae at hn;rw[if_pos h]at hn;simp at hn
 ·have h1:a≠[]:=λz=>h (.inl z)
  have h2:b≠[]:=λz=>h (.inr z)
  obtain⟨la,ea⟩:∃la,a.length=la+1:=⟨a.length-1,by have:=GQ.mpr h1;omega⟩;obtain⟨lb,eb⟩:∃lb,b.length=lb+1:=⟨b.length-1,by have:=GQ.mpr h2;omega⟩;unfold ae at hn
  rw[if_neg h,GO,Hm]at hn;have e:n=la+lb:=by omega
  subst e;rw[lM ea eb];exact G4 (ha la ea) (hb lb eb)
theorem r8{a b acc:List Int}{j k:Nat}(hj:j<a.length)(hk:k<b.length)(hl:j+k<acc.length)
 (h:∀n,n<acc.length->cf acc n=sm a b n j+(if j<=n/\n-j<k then tm a b n j else 0)) :
 ∀n,n<(acc.set (j+k) (cf acc (j+k)+cf a j*cf b k)).length->cf (acc.set (j+k) (cf acc (j+k)+cf a j*cf b k)) n=sm a b n j+(if j<=n/\n-j<k+1 then tm a b n j else 0):=by
 intro n hn;rw[Il]at hn;rw[g6 hl];by_cases e:n=j+k
 ·subst e;rw[if_pos rfl,h _ hl,if_neg (by omega),if_pos ⟨by omega,by omega⟩];unfold tm;rw[if_pos (by omega),Nat.add_sub_cancel_left,HN]
 ·rw[if_neg e,h n hn]
  congr 1
  by_cases h1:j<=n/\n-j<k
  ·rw[if_pos h1,if_pos ⟨h1.1,by omega⟩]
  ·rw[if_neg h1,if_neg (by omega)]
theorem sd{a b acc:List Int}{j:Nat}(h:∀n,n<acc.length->cf acc n=sm a b n j+(if j<=n/\n-j<b.length then tm a b n j else 0)):∀n,n<acc.length->cf acc n=sm a b n (j+1):=by
 intro n hn;rw[h n hn,sm]
 congr 1
 by_cases h1:j<=n/\n-j<b.length
 ·rw[if_pos h1]
 ·rw[if_neg h1];by_cases h2:j<=n
  ·rw[iw (by omega)]
  ·unfold tm;rw[if_neg h2]
theorem r9{a b acc:List Int}{j:Nat}(h:∀n,n<acc.length->cf acc n=sm a b n j):∀n,n<acc.length->cf acc n=sm a b n j+(if j<=n/\n-j<0 then tm a b n j else 0):=by intro n hn;rw[if_neg (by omega),HN];exact h n hn
theorem se{a b acc:List Int}(hl:a.length+b.length<=acc.length+1)(h:∀n,n<acc.length->cf acc n=sm a b n a.length)(n:Nat):cf acc n=ao a b n:=by
 by_cases hn:n<acc.length
 ·exact h n hn
 ·rw[bD (HG hn),rZ (by omega)]
theorem D2(a b:List Int):trim ((List.range (max a.length b.length)).map λk=>cf a k+cf b k)=fB a b:=by
 unfold fB cH
 congr 2;funext k;rw[G9]
theorem o3(a b:List Int):trim ((List.range (max a.length b.length)).map λk=>cf a k-cf b k)=aZ a b:=by
 unfold aZ cH
 congr 2;funext k;omega
noncomputable def dv(t b:Int):Int:=if b<0 then -((Nat.gcd t.natAbs b.natAbs:Nat):Int)else((Nat.gcd t.natAbs b.natAbs:Nat):Int)
noncomputable def rt(t b:Int):Int:=t.fdiv (dv t b)
noncomputable def rb(t b:Int):Int:=b.fdiv (dv t b)
theorem jp{t b:Int}(hb:b≠0):0<Nat.gcd t.natAbs b.natAbs:=Nat.gcd_pos_of_pos_right _ (HW.mpr hb)
theorem jw{t b:Int}(hb:b≠0):dv t b≠0:=by have:=@jp t b hb;unfold dv;split<;>omega
theorem gX(t b:Int):(dv t b).natAbs=Nat.gcd t.natAbs b.natAbs:=by unfold dv;split<;>omega
theorem CM(t b:Int):dv t b∣t:=Int.natAbs_dvd_natAbs.mp (by rw[gX];exact Io _ _)
theorem CL(t b:Int):dv t b∣b:=Int.natAbs_dvd_natAbs.mp (by rw[gX];exact Iz _ _)
theorem tZ{a d:Int}(hd:d≠0)(h:d∣a):d*a.fdiv d=a:=by obtain⟨c,rfl⟩:=h;rw[Int.mul_fdiv_cancel_left c hd]
theorem qA{t b:Int}(hb:b≠0):dv t b*rt t b=t:=tZ (jw hb) (CM t b)
theorem lu{t b:Int}(hb:b≠0):dv t b*rb t b=b:=tZ (jw hb) (CL t b)
theorem qJ{t b:Int}(hb:b≠0):0<rb t b:=by
 have h1:=@lu t b hb;have h2:=@jp t b hb;by_cases hn:b<0
 ·have hd:dv t b<0:=by unfold dv;rw[if_pos hn];omega
  apply Classical.byContradiction;intro h;have:0<=dv t b*rb t b:=I0 (GS hd) (by omega);omega
 ·have hd:0<dv t b:=by unfold dv;rw[if_neg hn];omega
  apply Classical.byContradiction;intro h;have:dv t b*rb t b<=0:=Int.mul_nonpos_of_nonneg_of_nonpos (GS hd) (by omega);omega
theorem xE{t b:Int}(hb:b≠0):(rt t b).natAbs<=t.natAbs:=by
 have h1:t.natAbs=Nat.gcd t.natAbs b.natAbs*(rt t b).natAbs:=by rw[<- gX,<- Hj,qA hb]
 rw[h1];exact IK _ (jp hb)
theorem xR{t b:Int}(hb:b≠0):(rb t b).natAbs<=b.natAbs:=by
 have h1:b.natAbs=Nat.gcd t.natAbs b.natAbs*(rb t b).natAbs:=by rw[<- gX,<- Hj,lu hb]
 rw[h1];exact IK _ (jp hb)
noncomputable def sg(x:Int):Int:=if x<0 then -1 else if 0<x then 1 else 0
theorem j8(x:Int):sg (-x) = -sg x:=by unfold sg;split<;>split<;>(try split)<;>(try split)<;>omega
theorem ka{x p:Int}(hp:0<p):sg (x*p)=sg x:=by
 unfold sg;by_cases h1:x<0
 ·rw[if_pos h1,if_pos (I9 h1 hp)]
 ·by_cases h2:0<x
  ·have:=G2 h2 hp;rw[if_neg h1,if_pos h2,if_neg (by omega),if_pos this]
  ·obtain rfl:x=0:=by omega
   simp
noncomputable def hv(t b:Int):List Int->Int
 | []=>0
 |v::l=>v*b^(l.length+1)+t*hv t b l
theorem tL(t b:Int):hv t b []=0:=rfl
theorem cY(t b v:Int)(l:List Int):hv t b (v::l)=v*b^(l.length+1)+t*hv t b l:=rfl
noncomputable def mb(a b:Int):Int->List Int->List Int
 |c,[]=>[c]
 |c,x::l=>(-a*x+c)::mb a b (b*x) l
theorem uT(x y:Int)(k:Nat):cf [x,y] k=if k=0 then x else if k=1 then y else 0:=by
 rcases k with _ |_ |k
 ·rfl
 ·rfl
 ·rw[if_neg (by omega),if_neg (by omega)];exact bD (by simp)
theorem yf{g:Int}(h:0<g)(n:Nat):0<g^n:=by
 induction n with
 |zero=>simp
 |succ n ih=>rw[Hq];exact G2 ih h
def At(l:List Int)(t b top bot:Int):Prop:=hv t b l*bot=top*b^l.length
theorem At.sign{l:List Int}{t b top bot:Int}(hb:0<b)(hbot:0<bot)(h:At l t b top bot):sg (hv t b l)=sg top:=by
 unfold At at h
 rw[<- ka (x:=hv t b l) hbot,h,ka (yf hb _)]
theorem tK(t u c:Int):hv t u [c]=c*u:=by show c*u^1+t*0=c*u;grind
theorem CO(t b:Int){l:List Int}{n:Nat}(h:n<l.length):hv t b (l.drop n)=cf l n*b^(l.length-n)+t*hv t b (l.drop (n+1)):=by
 rw[Ja h,cY,Ik,ck h];have e:l.length-(n+1)+1=l.length-n:=by omega
 rw[e]
noncomputable def lv(t b:Int):List Int->Int
 | []=>0
 |v::l=>v*b^l.length+t*lv t b l
theorem mG(t b:Int):∀l:List Int,hv t b l=b*lv t b l
 | []=>by show(0:Int)=b*0;simp
 |v::l=>by show v*b^(l.length+1)+t*hv t b l=b*(v*b^l.length+t*lv t b l);rw[mG t b l,Hq];generalize b^l.length=p;generalize lv t b l=x;grind
theorem ux(t b:Int){l:List Int}{n:Nat}(h:n<l.length):lv t b (l.drop n)=cf l n*b^(l.length-(n+1))+t*lv t b (l.drop (n+1)):=by
 have e:l.drop n=cf l n::l.drop (n+1):=by rw[ck h];exact Ja h
 rw[e];show cf l n*b^(l.drop (n+1)).length+_=_;rw[Ik]
noncomputable def chF(z:Int×Int)(s:Int):Int×Int:=(if s*z.2<0 then z.1+1 else z.1,if s=0 then z.2 else s)
noncomputable def chS(l:List Int):Int×Int:=l.foldl chF (0,0)
theorem m8(l:List Int)(s:Int):chS (l++[s])=chF (chS l) s:=by unfold chS;rw[List.foldl_append];rfl
theorem wV(x:Int):sg x=0↔x=0:=by unfold sg;split<;>(try split)<;>omega
theorem qu(x:Int):(x<0/\sg x = -1)\/(x=0/\sg x=0)\/(0<x/\sg x=1):=by unfold sg;split<;>(try split)<;>omega
theorem uR:∀(n:Nat) (l:List Int),l.length=n->(∀s∈l,s.natAbs<=1)->(chS l).2.natAbs<=1/\0<=(chS l).1/\(chS l).1<=l.length
 |n,l,hn,h=>by
  rcases cF l with rfl |⟨r,s,rfl⟩
  ·decide
  ·have hr:r.length+1=n:=by rw[<- hn,GZ];rfl
   obtain⟨i1,i2,i3⟩:=uR (n-1) r (by omega) (λx hx=>h x (Ig _ hx));have hs:=h s (by simp);rw[m8];unfold chF;refine⟨?_,?_,?_⟩
   ·dsimp only;split
    ·exact i1
    ·exact hs
   ·dsimp only;split<;>omega
   ·dsimp only;rw[GZ];show _<=((r.length+1:Nat):Int);split<;>omega
termination_by n=>n
theorem Dn(l:List Int)(h:∀s∈l,s.natAbs<=1):(chS l).2.natAbs<=1/\0<=(chS l).1/\(chS l).1<=l.length:=uR _ l rfl h
theorem qt(x:Int):(sg x).natAbs<=1:=by unfold sg;split<;>(try split)<;>decide
theorem qc{q q' b:List Int}{c l:Int}{p n:Nat}(h:∀k,cf q' k=c*cf q k+(if k=p then l else 0)) :
 ∀j,sm q' b n j=c*sm q b n j+(if p<j/\p<=n then l*cf b (n-p)else 0)
 |0=>by rw[sm,sm,if_neg (by omega)];simp
 |j+1=>by
  rw[sm,sm,qc h j];unfold tm;by_cases hj:j<=n
  ·rw[if_pos hj,if_pos hj,h j];by_cases e:j=p
   ·subst e;rw[if_pos rfl,if_neg (by omega),if_pos ⟨by omega,hj⟩];grind
   ·rw[if_neg e];by_cases h2:p<j/\p<=n
    ·rw[if_pos h2,if_pos ⟨by omega,h2.2⟩];grind
    ·rw[if_neg h2,if_neg (by omega)];grind
  ·rw[if_neg hj,if_neg hj];by_cases h2:p<j/\p<=n
   ·rw[if_pos h2,if_pos ⟨by omega,h2.2⟩];grind
   ·rw[if_neg h2,if_neg (by omega)];grind
theorem Aj{q q' b:List Int}{c l:Int}{p n:Nat}(hl:q'.length=q.length)(hp:p<q.length)(h:∀k,cf q' k=c*cf q k+(if k=p then l else 0)) :
 ao q' b n=c*ao q b n+(if p<=n then l*cf b (n-p)else 0):=by
 unfold ao;rw[hl,qc h];by_cases h2:p<=n
 ·rw[if_pos h2,if_pos ⟨hp,h2⟩]
 ·rw[if_neg h2,if_neg (by omega)]
noncomputable def scL(c:Int)(l:List Int):List Int:=l.map λx=>c*x
theorem bX(c:Int)(l:List Int):(scL c l).length=l.length:=by unfold scL;rw[GO]
theorem bv(c:Int)(l:List Int)(k:Nat):cf (scL c l) k=c*cf l k:=by
 by_cases h:k<l.length
 ·unfold cf scL;simp[h]
 ·rw[bD (by rw[bX];omega),bD (by omega)];simp
noncomputable def fg(r b:List Int)(p:Nat)(l:Int):List Int:=(List.range (r.length-1)).map λk=>cf r k-(if p<=k then l*cf b (k-p)else 0)
theorem sP(r b:List Int)(p:Nat)(l:Int):(fg r b p l).length=r.length-1:=by unfold fg;simp
theorem jC(r b:List Int)(p:Nat)(l:Int)(k:Nat):cf (fg r b p l) k=if k<r.length-1 then cf r k-(if p<=k then l*cf b (k-p)else 0)else 0:=by unfold fg;rw[eh]
theorem wY(x:Int):sg x*x=(x.natAbs:Int):=by unfold sg;split<;>(try split)<;>omega
noncomputable def ci(b:List Int)(z:List Int×List Int)(i:Nat):List Int×List Int :=
 let s:Int:=((cf b (b.length-1)).natAbs:Int)
 let l:=sg (cf b (b.length-1))*cf z.2 (z.2.length-1)
 ((scL s z.1).set i l,fg (scL s z.2) b i l)
noncomputable def aK(a b:List Int):Nat->List Int×List Int
 |0=>(List.replicate (a.length+1-b.length) 0,a)
 |i+1=>ci b (aK a b i) (a.length+1-b.length-1-i)
structure DivInv(a b:List Int)(i:Nat):Prop where
 lq:(aK a b i).1.length=a.length+1-b.length
 lr:(aK a b i).2.length=a.length-i
 low:∀k,k+i<a.length+1-b.length->cf (aK a b i).1 k=0
 eqn:∀n,((cf b (b.length-1)).natAbs:Int)^i*cf a n=ao (aK a b i).1 b n+cf (aK a b i).2 n
theorem lL{a b:List Int}{n:Nat}(h:∀k,cf a k=0):ao a b n=0:=by apply gy;intro i _;unfold tm;rw[h i];simp
theorem CQ{A B i:Nat}(hi:i+1<=A+1-B)(hb:0<B):∃p,A+1-B=p+i+1/\p+i+B=A:=⟨A-B-i,by omega,by omega⟩
theorem uB(p i:Nat):p<p+i+1:=Nat.lt_succ_of_le (Nat.le_add_right _ _)
theorem jx{P A C M R:Int}(en:P*A=M+R):P*C*A=C*M+C*R:=by rw[Int.mul_right_comm,en,Hv,Int.mul_add]
theorem CS(x y z:Int):x+y=x+z+(y-z):=by omega
theorem fm{a b:List Int}(hb:b≠[]):∀i,i<=a.length+1-b.length->DivInv a b i
 |0,_=>⟨by simp[aK],by simp[aK],λk _=>by show cf (List.replicate _ 0) k=0;rw[g7],λn=>by
  show _=ao (List.replicate _ 0) b n+cf a n
  rw[lL λk=>g7 _ _];simp⟩
 |i+1,hi=>by
  obtain⟨lq,lr,low,eqn⟩:=fm (a:=a) hb i (Nat.le_of_succ_le hi);have hbl:=GQ.mpr hb;have e:aK a b (i+1)=ci b (aK a b i) (a.length+1-b.length-1-i):=rfl;generalize aK a b i=z at e lq lr low eqn
  obtain⟨p,ep,ed⟩:=CQ hi hbl;rw[ep,show p+i+1-1-i=p from Nat.add_sub_cancel _ _]at e;rw[ep]at lq low;have lz:z.2.length=p+b.length:=by rw[lr,<- ed,Nat.add_right_comm,Nat.add_sub_cancel]
  have hp:p<(scL ((cf b (b.length-1)).natAbs:Int) z.1).length:=by rw[bX,lq];exact uB p i
  have hq:∀k,cf (ci b z p).1 k=((cf b (b.length-1)).natAbs:Int)*cf z.1 k+(if k=p then sg (cf b (b.length-1))*cf z.2 (z.2.length-1)else 0):=by
   intro k;unfold ci;dsimp only
   rw[g6 hp,bv];by_cases h:k=p
   ·rw[if_pos h,if_pos h,low k (by rw[h];exact HU _)];simp
   ·rw[if_neg h,if_neg h];simp
  have hlq:(ci b z p).1.length=p+i+1:=by unfold ci;dsimp only;rw[Il,bX,lq]
  refine⟨?_,?_,?_,?_⟩
  ·rw[e,hlq,ep]
  ·rw[e];unfold ci;dsimp only;rw[sP,bX,lr];rfl
  ·intro k hk;rw[ep]at hk;have hk':k<p:=by clear lq lr low eqn hp hq hlq lz e ep ed;omega
   rw[e,hq,if_neg (G6 hk'),low k (Nat.lt_trans (Nat.add_lt_add_right hk' i) (HU _))];simp
  ·intro n;rw[e,Aj (by rw[hlq,lq]) (by rw[lq];exact uB p i) hq,Hq];have en:=eqn n;unfold ci;dsimp only
   rw[jC,bX,bv,lz];clear lq lr low eqn hp hq hlq e ep ed;by_cases h1:n<p+b.length-1
   ·rw[if_pos h1];by_cases h2:p<=n
    ·rw[if_pos h2,jx en];exact CS _ _ _
    ·rw[if_neg h2,jx en,HN,Int.sub_zero]
   ·rw[if_neg h1];have h2:p<=n:=by clear en;omega
    by_cases h3:n=p+b.length-1
    ·have h4:n-p=b.length-1:=by clear en;omega
     rw[if_pos h2,h4];have sg:=wY (cf b (b.length-1));rw[<- h3,jx en,HN,Int.mul_right_comm,sg]
    ·have hc:cf z.2 n=0:=bD (by rw[lz];clear en;omega);rw[if_pos h2,bD (l:=b) (k:=n-p) (by clear en;omega),jx en,hc,G7,G7,HN,HN]
theorem uz{a b:List Int}(hb:b≠[])(ha:Tr a)(hbt:Tr b):∀i,i+1<=a.length+1-b.length->cf (aK a b (i+1)).1 (a.length+1-b.length-1)≠0
 |0,h=>by
  obtain⟨lq,lr,_,_⟩:=fm (a:=a) hb 0 (by omega);have hbl:=GQ.mpr hb;show cf (ci b (aK a b 0) _).1 _≠0;unfold ci;dsimp only
  rw[g6 (by rw[bX,lq];omega),if_pos (by omega)];have hb1:=hbt (b.length-1) (by omega);have ha1:=ha (a.length-1) (by omega);refine G4 ?_ ?_
  ·unfold sg;split<;>(try split)<;>omega
  ·rw[lr];exact ha1
 |i+1,h=>by
  have ih:=uz hb ha hbt i (by omega);obtain⟨lq,lr,_,_⟩:=fm (a:=a) hb (i+1) (by omega);have hbl:=GQ.mpr hb;show cf (ci b (aK a b (i+1)) _).1 _≠0;unfold ci;dsimp only
  have hN:∀n,i+1+1<=n->¬n-1=n-1-(i+1):=λn hn e=>by omega
  rw[g6 (by rw[bX,lq];omega),if_neg (hN _ h),bv];have hb1:=hbt (b.length-1) (by omega);refine G4 ?_ ih;omega
noncomputable def aQ(a b:List Int):Nat:=a.length+1-b.length
noncomputable def aS(a b:List Int):Int:=((cf b (b.length-1)).natAbs:Int)^aQ a b
noncomputable def aT(a b:List Int):List Int:=(aK a b (aQ a b)).1
noncomputable def aA(a b:List Int):List Int:=trim (aK a b (aQ a b)).2
theorem d9{a b:List Int}(hb:b≠[])(n:Nat):aS a b*cf a n=ao (aT a b) b n+cf (aA a b) n:=by unfold aA aT aS;rw[fx];exact(fm hb (aQ a b) (GP _)).eqn n
theorem d8{a b:List Int}(hb:b≠[]):(aA a b).length<b.length:=by
 have h:=(fm (a:=a) hb (aQ a b) (GP _)).lr;have h2:=sN (aK a b (aQ a b)).2;have hbl:=GQ.mpr hb;unfold aA;unfold aQ at *
 omega
theorem mS{a b:List Int}(hb:b≠[]):(aT a b).length=aQ a b:=(fm (a:=a) hb (aQ a b) (GP _)).lq
theorem CP{a b:List Int}(hb:b≠[])(ha:Tr a)(hbt:Tr b):Tr (aT a b):=by
 intro n hn;rw[mS hb]at hn;have h:=uz hb ha hbt n (by unfold aQ at hn;omega);unfold aT;rw[hn];have:a.length+1-b.length-1=n:=by unfold aQ at hn;rw[hn];rfl
 rwa [this]at h
theorem d7(a b:List Int):Tr (aA a b):=cL _
theorem qf{a a' b b':List Int}{n:Nat}(h1:∀k,cf a k=cf a' k)(h2:∀k,cf b k=cf b' k):∀j,sm a b n j=sm a' b' n j
 |0=>rfl
 |j+1=>by rw[sm,sm,qf h1 h2 j];unfold tm;rw[h1 j,h2 (n-j)]
theorem qd{a b:List Int}{n:Nat}:∀d,sm a b n (a.length+d)=ao a b n
 |0=>rfl
 |d+1=>by rw[<- Nat.add_assoc,sm,qd d,wf (by omega)];omega
theorem gz{a b:List Int}{n N:Nat}(h:a.length<=N):sm a b n N=ao a b n:=by obtain⟨d,rfl⟩:=Nat.exists_eq_add_of_le h;exact qd d
theorem iY{a a' b b':List Int}{n:Nat}(h1:∀k,cf a k=cf a' k)(h2:∀k,cf b k=cf b' k):ao a b n=ao a' b' n:=by rw[<- gz (Nat.le_max_left a.length a'.length),<- gz (Nat.le_max_right a.length a'.length)];exact qf h1 h2 _
theorem qb{a b c q:List Int}{x y:Int}{n:Nat}(h:∀k,cf c k=x*cf a k+y*cf b k):∀j,sm c q n j=x*sm a q n j+y*sm b q n j
 |0=>by simp[sm]
 |j+1=>by
  rw[sm,sm,sm,qb h j];unfold tm;rw[h j];by_cases hj:j<=n
  ·rw[if_pos hj,if_pos hj,if_pos hj];grind
  ·rw[if_neg hj,if_neg hj,if_neg hj];grind
theorem cN{a b c q:List Int}{x y:Int}{n:Nat}(h:∀k,cf c k=x*cf a k+y*cf b k):ao c q n=x*ao a q n+y*ao b q n:=by
 have h1:a.length<=a.length+b.length+c.length:=by omega
 have h2:b.length<=a.length+b.length+c.length:=by omega
 have h3:c.length<=a.length+b.length+c.length:=by omega
 rw[<- gz h1,<- gz h2,<- gz h3];exact qb h _
theorem p8{a b b':List Int}{c:Int}{n:Nat}(h:∀k,cf b' k=c*cf b k):∀j,sm a b' n j=c*sm a b n j
 |0=>by simp[sm]
 |j+1=>by
  rw[sm,sm,p8 h j];unfold tm;rw[h (n-j)];by_cases hj:j<=n
  ·rw[if_pos hj,if_pos hj];grind
  ·rw[if_neg hj,if_neg hj];grind
theorem gK{a b b':List Int}{c:Int}{n:Nat}(h:∀k,cf b' k=c*cf b k):ao a b' n=c*ao a b n:=p8 h _
theorem db(c:Int)(l:List Int)(n:Nat):ao [c] l n=c*cf l n:=by unfold ao;show sm [c] l n 0+tm [c] l n 0=_;unfold sm tm;rw[if_pos (GR _),ng,H0,Im]
theorem lK{l:List Int}(ht:Tr l)(h:∀k,cf l k=0):l=[]:=by
 refine Classical.byContradiction λhne=>?_
 have hl:=GQ.mpr hne;exact ht (l.length-1) (by omega) (h _)
theorem rW{d q:List Int}(hq:q≠[])(hqt:Tr q)(h:∀n,q.length<=n+1->ao d q n=0):∀k,cf d k=0:=by
 have e:trim d=[]:=by
  refine Classical.byContradiction λhne=>?_
  have hl:=GQ.mpr hne;have hql:=GQ.mpr hq;have ht:=cL d ((trim d).length-1) (by omega);have hb:=hqt (q.length-1) (by omega);have h1:=h ((trim d).length-1+(q.length-1)) (by omega);rw[<- iY (a:=trim d) (b:=q) (λk=>fx d k) (λ_=>rfl),lM (la:=(trim d).length-1) (lb:=q.length-1) (by omega) (by omega)]at h1;exact G4 ht hb h1
 intro k;rw[<- fx,e,bQ]
theorem gY{a b:List Int}(hb:b≠[])(hbt:Tr b):aS a b≠0:=by
 have hbl:=GQ.mpr hb;have h:=hbt (b.length-1) (by omega);have h1:((cf b (b.length-1)).natAbs:Int)≠0:=by omega
 unfold aS;generalize aQ a b=n
 induction n with
 |zero=>rw[Int.pow_zero];decide
 |succ n ih=>rw[Hq];exact G4 ih h1
noncomputable def cO(d:Nat)(l:List Int):Nat:=l.foldl (λd v=>Nat.gcd d v.natAbs) d
noncomputable def ak(l:List Int):Nat:=cO 0 l
theorem B7(d:Nat):cO d []=d:=rfl
theorem B8(d:Nat)(v:Int)(l:List Int):cO d (v::l)=cO (Nat.gcd d v.natAbs) l:=rfl
theorem B6(d:Nat)(l:List Int)(v:Int):cO d (l++[v])=Nat.gcd (cO d l) v.natAbs:=by unfold cO;rw[List.foldl_append];rfl
theorem tO(l:List Int)(v:Int):ak (l++[v])=Nat.gcd (ak l) v.natAbs:=B6 0 l v
theorem uu{m:Nat}:∀{l:List Int} {d:Nat},m∣cO d l↔m∣d/\∀v∈l,m∣v.natAbs
 | [],d=>by simp[B7]
 |v::l,d=>by rw[B8,uu,Nat.dvd_gcd_iff];simp only[GX,forall_eq_or_imp];exact⟨λ⟨⟨a,b⟩,c⟩=>⟨a,b,c⟩,λ⟨a,b,c⟩=>⟨⟨a,b⟩,c⟩⟩
theorem dvd_gcdL{m:Nat}{l:List Int}:m∣ak l↔∀v∈l,m∣v.natAbs:=by unfold ak;rw[uu];exact⟨λh=>h.2,λh=>⟨Nat.dvd_zero m,h⟩⟩
theorem jr{l:List Int}{v:Int}(h:v∈l):ak l∣v.natAbs:=dvd_gcdL.mp (Ia _) v h
theorem BZ(v:Int):ak [v]=v.natAbs:=by show Nat.gcd 0 v.natAbs=_;exact Nat.gcd_zero_left _
theorem tN{a b:Int}(ha:0<=a)(hb:0<b):Nat.gcd b.natAbs (a%b).natAbs=Nat.gcd a.natAbs b.natAbs:=by
 have e:(a%b).natAbs=a.natAbs%b.natAbs:=by obtain⟨x,rfl⟩:=Int.eq_ofNat_of_zero_le ha;obtain⟨y,rfl⟩:=Int.eq_ofNat_of_zero_le (GS hb);rfl
 rw[e,Nat.gcd_comm,<- Nat.gcd_rec,Nat.gcd_comm]
noncomputable def ah(l:List Int):List Int:=l.map λx=>x/(ak l:Int)
noncomputable def b5(l:List Int):Int:=cf l (l.length-1)
theorem dB(r:List Int)(x:Int):b5 (r++[x])=x:=by unfold b5;rw[GZ];exact gh r x
noncomputable def ca(l:List Int):List Int:=if b5 l<0 then l.map λx => -x else l
noncomputable def aH(l:List Int):List Int:=ca (ah l)
theorem oN{c:Int->Int}(h0:∀x,c x=0↔x=0):∀(n:Nat) (l:List Int),l.length=n->trim (l.map c)=(trim l).map c
 |0,l,h=>by rw[HA.mp h];rfl
 |n+1,l,h=>by
  rcases cF l with rfl |⟨r,x,rfl⟩
  ·rfl
  ·rw[G8];show trim (r.map c++[c x])=_;by_cases hx:x=0
   ·subst hx;rw[(h0 0).mpr rfl,ir,ir];exact oN h0 n r (by simpa using h)
   ·rw[gn r hx,gn _ (λz=>hx ((h0 x).mp z)),G8];rfl
def gk(l:List Int):Prop:=l=[]\/ak l=1
theorem wP{l:List Int}(h:gk l):ah l=l:=by
 rcases h with rfl |h
 ·rfl
 ·unfold ah;rw[h]
  conv=>rhs;rw[<- List.map_id l]
  apply Ib;intro x _;show x/1=x;exact Int.ediv_one x
theorem B5{l:List Int}{s:Int}(hs:s=1\/s = -1):ak (l.map λx=>x*s)=ak l:=by
 have key:∀m:Nat,m∣ak (l.map λx=>x*s)↔m∣ak l:=by
  intro m;rw[dvd_gcdL,dvd_gcdL]
  have e:∀x:Int,(x*s).natAbs=x.natAbs:=λx=>by
   rcases hs with rfl |rfl
   ·rw[Hs]
   ·rw[Int.mul_neg,Hs,Int.natAbs_neg]
  constructor
  ·intro h v hv;have:=h (v*s) (GT.mpr ⟨v,hv,rfl⟩)
   rwa [e]at this
  ·intro h v hv;obtain⟨u,hu,rfl⟩:=GT.mp hv;rw[e];exact h u hu
 exact Nat.dvd_antisymm ((key _).mp (Ia _)) ((key _).mpr (Ia _))
theorem yd{l:List Int}(h:gk l):gk (l.map λx => -x):=by
 rcases h with rfl |h
 ·exact .inl rfl
 ·right
  have e:(l.map λx => -x)=l.map λx=>x*(-1):=by apply Ib;intro x _;omega
  rw[e,B5 (.inr rfl),h]
theorem sS(l:List Int):b5 (l.map λx => -x) = -b5 l:=by
 rcases cF l with rfl |⟨r,x,rfl⟩
 ·rfl
 ·rw[G8];show b5 (r.map _++[-x])=_;rw[dB,dB]
theorem yc{l:List Int}(h:gk l):gk (ca l):=by
 unfold ca;split
 ·exact yd h
 ·exact h
theorem we{c:Int->Int}(h0:∀x,c x=0↔x=0){l:List Int}(h:Tr l):Tr (l.map c):=by rw[<- wa h,<- oN h0 _ l rfl];exact cL _
theorem wc{l:List Int}(h:Tr l):Tr (ca l):=by
 unfold ca;split
 ·exact we (λx=>by omega) h
 ·exact h
theorem tQ(c:Int):∀(l:List Int) (d:Nat),cO (c.natAbs*d) (scL c l)=c.natAbs*cO d l
 | [],d=>rfl
 |v::l,d=>by show cO (Nat.gcd (c.natAbs*d) (c*v).natAbs) (scL c l)=c.natAbs*cO (Nat.gcd d v.natAbs) l;rw[Hj,Nat.gcd_mul_left,tQ c l]
theorem jq(c:Int)(l:List Int):ak (scL c l)=c.natAbs*ak l:=by have h:=tQ c l 0;rw[Nat.mul_zero]at h;exact h
theorem gc{l:List Int}{x:Int}(h:x∈l):(ak l:Int)∣x:=Iq.mpr (jr h)
theorem wN{c:Int}(hc:0<c)(l:List Int):ah (scL c l)=ah l:=by
 unfold ah;rw[jq];unfold scL;rw[HQ];refine Ib λx _=>?_
 show c*x/((c.natAbs*ak l:Nat):Int)=x/(ak l:Int);have e:((c.natAbs*ak l:Nat):Int)=c*(ak l:Int):=by rw[IL];congr 1;omega
 rw[e,Int.mul_ediv_mul_of_pos _ _ hc]
theorem wO{c:Int}(hc:c<0)(l:List Int):ah (scL c l)=(ah l).map λx => -x:=by
 unfold ah;rw[jq];unfold scL;rw[HQ,HQ];refine Ib λx hx=>?_
 show c*x/((c.natAbs*ak l:Nat):Int) = -(x/(ak l:Int));have e:((c.natAbs*ak l:Nat):Int)=(-c)*(ak l:Int):=by rw[IL];congr 1;omega
 have e2:c*x=(-c)*(-x):=by rw[Int.neg_mul_neg]
 rw[e,e2,Int.mul_ediv_mul_of_pos _ _ (by omega:0 < -c),Int.neg_ediv_of_dvd (gc hx)]
theorem yi{m:List Int}(h:Tr m):ca (m.map λx => -x)=ca m:=by
 rcases cF m with rfl |⟨r,x,rfl⟩
 ·rfl
 have hx:x≠0:=tr_snoc.mp h;have h1:=sS (r++[x]);rw[dB]at h1;unfold ca;rw[h1,dB];by_cases hn:x<0
 ·rw[if_neg (by omega),if_pos hn]
 ·rw[if_pos (by omega),if_neg hn,HQ];rw[show((λx:Int => -x) ∘ λx:Int => -x)=id from by funext y;simp];exact List.map_id _
theorem c7{l:List Int}(h:Tr l):Tr (ah l):=by
 intro n hn;have hl:l.length=n+1:=by rw[<- hn];unfold ah;rw[GO]
 have hx:=h n hl;have hm:cf l n∈l:=by rw[ck (by omega)];exact Hu _
 have e:cf (ah l) n=cf l n/(ak l:Int):=by
  have h1:n<l.length:=by omega
  unfold ah cf;simp[List.getD,h1]
 rw[e];intro z;have d:=gc hm;have:=Int.mul_ediv_cancel' d;rw[z,G7]at this;exact hx this.symm
theorem lC{c:Int}(hc:c≠0){l:List Int}(h:Tr l):aH (scL c l)=aH l:=by
 unfold aH;by_cases hp:0<c
 ·rw[wN hp]
 ·rw[wO (by omega),yi (c7 h)]
theorem gs{c:Int}(hc:c≠0){l:List Int}(h:Tr l):Tr (scL c l):=by intro n hn;rw[bX]at hn;rw[bv];exact G4 hc (h n hn)
theorem yr{a b:List Int}{x y:Int}(hx:x≠0)(hy:y≠0)(ha:Tr a)(hb:Tr b)(h:∀k,x*cf a k=y*cf b k):aH a=aH b:=by
 have e:scL x a=scL y b:=gW (gs hx ha) (gs hy hb) λk=>by rw[bv,bv,h k]
 rw[<- lC hx ha,e,lC hy hb]
noncomputable def slopeL(l:List Int):List Int:=(List.range (l.length-1)).map λ(k:Nat)=>((k:Int)+1)*cf l (k+1)
noncomputable def lc(l:List Int)(m n:Nat):Int:=if n%m=0 then cf l (n/m)else 0
noncomputable def lp(l:List Int)(m i n:Nat):Int:=if n%m=0/\n/m<i then cf l (n/m)else 0
noncomputable def rst(one other:List Int):List Int:=if other=[]then[]else aA one other
noncomputable def nxt(one other:List Int):List Int:=ah (aZ [] (rst one other))
noncomputable def aF:Nat->List Int->List Int->List (List Int)
 |0,_,_=>[]
 |n+1,one,other=>if one=[]then[]else one::aF n other (nxt one other)
theorem eU(n:Nat)(o:List Int):aF n [] o=[]:=by cases n with |zero=>rfl |succ n=>show(if([]:List Int)=[]then _ else _)=_;rw[if_pos rfl]
noncomputable def up(f:Nat->Int)(n:Nat):Int:=if n=0 then 0 else f (n-1)
theorem qe(x:Int)(a b:List Int)(n:Nat):∀j,sm (x::a) b n (j+1)=x*cf b n+(if n=0 then 0 else sm a b (n-1) j)
 |0=>by
  show 0+tm (x::a) b n 0=_;unfold tm;rw[if_pos (GR _)];rw[ng,H0];by_cases h:n=0
  ·rw[if_pos h];omega
  ·rw[if_neg h];show _=_+0;omega
 |j+1=>by
  show sm (x::a) b n (j+1)+tm (x::a) b n (j+1)=_;rw[qe x a b n j];by_cases h:n=0
  ·rw[if_pos h,if_pos h];unfold tm;rw[if_neg (by omega)];omega
  ·rw[if_neg h,if_neg h];show _=_+(sm a b (n-1) j+tm a b (n-1) j)
   have e:tm (x::a) b n (j+1)=tm a b (n-1) j:=by
    unfold tm;rw[ni];by_cases h2:j+1<=n
    ·rw[if_pos h2,if_pos (by omega)]
     congr 2;omega
    ·rw[if_neg h2,if_neg (by omega)]
   rw[e];omega
theorem cD(x:Int)(a b:List Int)(n:Nat):ao (x::a) b n=x*cf b n+up (ao a b) n:=qe x a b n a.length
theorem cM(b:List Int)(n:Nat):ao [] b n=0:=rfl
theorem nq(x:Int)(a:List Int)(n:Nat):cf (x::a) n=(if n=0 then x else 0)+up (cf a) n:=by
 cases n with
 |zero=>show x=x+0;omega
 |succ n=>show cf a n=0+cf a n;omega
theorem lO(y:Int)(b:List Int):∀(a:List Int) (n:Nat),ao a (y::b) n=y*cf a n+up (ao a b) n
 | [],n=>by
  rw[cM,bQ];unfold up;split
  ·simp
  ·rw[cM];simp
 |x::a,n=>by
  rw[cD,nq,nq];cases n with
  |zero =>show x*(y+0)+0=y*(x+0)+0;simp only[HN];exact Hv _ _
  |succ n =>show x*(0+cf b n)+ao a (y::b) n=y*(0+cf a n)+ao (x::a) b n;rw[lO y b a n,cD];simp only[Im];omega
theorem lN:∀(a:List Int) (n:Nat),ao a [] n=0
 | [],n=>rfl
 |x::a,n=>by
  rw[cD,bQ];unfold up;split
  ·simp
  ·rw[lN a];simp
theorem dA:∀(a b:List Int) (n:Nat),ao a b n=ao b a n
 | [],b,n=>by rw[lN];rfl
 |x::a,b,n=>by
  rw[cD,lO]
  congr 1
  unfold up;split
  ·rfl
  ·exact dA a b _
theorem rY{a b c q:List Int}{x y:Int}{n:Nat}(h:∀k,cf c k=x*cf a k+y*cf b k):ao q c n=x*ao q a n+y*ao q b n:=by rw[dA q c,cN h,dA q a,dA q b]
theorem gZ(a:List Int)(n:Nat):cf (0::a) n=up (cf a) n:=by rw[nq];split<;>omega
theorem rX(a b:List Int)(n:Nat):ao (0::a) b n=up (ao a b) n:=by rw[cD];omega
theorem f8:∀(a b c:List Int) (n:Nat),ao (ae a b) c n=ao a (ae b c) n
 | [],b,c,n=>by rw[cM,lL λk=>by rw[aE,cM]]
 |x::a,b,c,n=>by
  rw[cD,aE]
  have e:∀k,cf (ae (x::a) b) k=x*cf b k+1*cf (0::ae a b) k:=λk=>by
   rw[aE,cD,gZ,G9]
   congr 1
   unfold up;split
   ·rfl
   ·rw[aE]
  rw[cN e,rX,G9]
  congr 1
  unfold up;split
  ·rfl
  ·exact f8 a b c _
def Dv(d p:List Int):Prop:=∃(c:Int) (q:List Int),c≠0/\∀n,c*cf p n=ao q d n
theorem Dv.refl(d:List Int):Dv d d:=⟨1,[1],by decide,λn=>by rw[db]⟩
theorem Dv.nil(d:List Int):Dv d []:=⟨1,[],by decide,λn=>by rw[bQ,cM];rfl⟩
theorem Dv.trans{d e p:List Int}(h1:Dv d e)(h2:Dv e p):Dv d p:=by obtain⟨c1,q1,hc1,e1⟩:=h1;obtain⟨c2,q2,hc2,e2⟩:=h2;refine⟨c1*c2,ae q2 q1,G4 hc1 hc2,λn=>?_⟩;rw[f8,HP,e2,<- gK (b':=ae q1 d) (λk=>by rw[aE,e1])]
theorem Dv.up{d a b r q:List Int}{f:Int}(hf:f≠0)(h:∀n,f*cf a n=ao q b n+cf r n)(hb:Dv d b)(hr:Dv d r):Dv d a:=by obtain⟨c1,q1,hc1,e1⟩:=hb;obtain⟨c2,q2,hc2,e2⟩:=hr;refine⟨c1*c2*f,cH c1 (scL c2 (ae q q1)) q2,G4 (G4 hc1 hc2) hf,λn=>?_⟩;rw[cN (a:=ae q q1) (b:=q2) (x:=c2) (y:=c1) (λk=>by rw[fy,bv]),f8,<- e2,gK (b:=b) (b':=ae q1 d) (c:=c1) (λk=>by rw[aE,e1])];have:=h n;grind
theorem Dv.down{d a b r q:List Int}{f:Int}(h:∀n,f*cf a n=ao q b n+cf r n)(ha:Dv d a)(hb:Dv d b):Dv d r:=by obtain⟨c1,q1,hc1,e1⟩:=ha;obtain⟨c2,q2,hc2,e2⟩:=hb;refine⟨c1*c2,cH (-c1) (scL (f*c2) q1) (ae q q2),G4 hc1 hc2,λn=>?_⟩;rw[cN (a:=q1) (b:=ae q q2) (x:=f*c2) (y := -c1) (λk=>by rw[fy,bv]),f8,<- e1,gK (b:=b) (b':=ae q2 d) (c:=c2) (λk=>by rw[aE,e2])];have:=h n;grind
theorem Dv.prop_right{d p p':List Int}{x y:Int}(hx:x≠0)(h:∀n,x*cf p' n=y*cf p n)(hd:Dv d p):Dv d p':=by obtain⟨c,q,hc,e⟩:=hd;refine⟨c*x,scL y q,G4 hc hx,λn=>?_⟩;rw[cN (a:=q) (b:=[]) (x:=y) (y:=0) (λk=>by rw[bv];simp),<- e];have:=h n;grind
theorem Dv.prop_left{d d' p:List Int}{x y:Int}(hx:x≠0)(hy:y≠0)(h:∀n,x*cf d' n=y*cf d n)(hd:Dv d p):Dv d' p :=
 Dv.trans (Dv.prop_right hy (λn=>(h n).symm) (Dv.refl d')) hd
theorem eX{l:List Int}(h:Tr l):∃g:Int,g≠0/\∀n,cf l n=g*cf (aH l) n:=by
 by_cases hl:l=[]
 ·subst hl;exact⟨1,by decide,λn=>by rw[bQ];show 0=1*cf [] n;rw[bQ];rfl⟩
 have hg:(ak l:Int)≠0:=by obtain⟨r,x,rfl⟩:=(cF l).resolve_left hl;have hx:x≠0:=tr_snoc.mp h;have h1:0<ak (r++[x]):=Nat.pos_of_dvd_of_pos (jr (by simp:x∈r++[x])) (HW.mpr hx);omega
 have e1:∀n,cf l n=(ak l:Int)*cf (ah l) n:=λn=>by
  unfold ah;by_cases hn:n<l.length
  ·rw[ck hn,ck (by rw[GO];exact hn),List.getElem_map];exact(Int.mul_ediv_cancel' (gc (Hu hn))).symm
  ·rw[bD (by omega),bD (by rw[GO];omega),G7]
 unfold aH ca;split
 ·refine⟨-(ak l:Int),by omega,λn=>?_⟩
  have e2:cf ((ah l).map λx => -x) n = -cf (ah l) n:=by
   by_cases hn:n<(ah l).length
   ·rw[ck hn,ck (by rw[GO];exact hn),List.getElem_map]
   ·rw[bD (l:=ah l) (by omega),bD (l:=(ah l).map λx => -x) (by rw[GO];omega)];rfl
  rw[e1,e2];grind
 ·exact⟨_,hg,e1⟩
theorem Dv.plain{d p:List Int}(hp:Tr p):Dv d (aH p)↔Dv d p:=by obtain⟨g,hg,e⟩:=eX hp;exact⟨λh=>Dv.prop_right (x:=1) (y:=g) (by decide) (λn=>by rw[e];omega) h,λh=>Dv.prop_right (x:=g) (y:=1) hg (λn=>by rw[<- e];omega) h⟩
theorem plain_len(l:List Int):(aH l).length=l.length:=by unfold aH ca ah;split<;>simp
theorem fG{l:List Int}(h:Tr l):Tr (aH l):=wc (c7 h)
noncomputable def cE:Nat->List Int->List Int->List Int
 |0,one,_=>one
 |n+1,one,other=>if other=[]then one else cE n other (aH (aA one other))
theorem Dk(n:Nat)(one:List Int):cE n one []=one:=by cases n<;>rfl
theorem Dj{n:Nat}{one other:List Int}(h:other≠[]):cE (n+1) one other=cE n other (aH (aA one other)):=by show(if other=[]then one else cE n other (aH (aA one other)))=_;rw[if_neg h]
theorem uO:∀(n:Nat) (one other:List Int),other.length<=n->Tr one->Tr other->Tr (cE n one other)/\Dv (cE n one other) one/\Dv (cE n one other) other/\(∀d,Dv d one->Dv d other->Dv d (cE n one other))/\(one≠[]\/other≠[]->cE n one other≠[])/\(cE n one other=one\/cE n one other=other\/∃l,Tr l/\cE n one other=aH l)
 |n,one,[],_,t1,_=>by rw[Dk];exact⟨t1,Dv.refl _,Dv.nil _,λd h _=>h,λh=>h.resolve_right λz=>z rfl,.inl rfl⟩
 |0,one,x::o,h,_,_=>absurd h (Nat.not_succ_le_zero _)
 |n+1,one,x::o,h,t1,t2=>by
  have hne:x::o≠[]:=λz=>nomatch z
  rw[Dj hne];generalize x::o=other at h t2 hne
  have tr:=d7 one other;have hl:=d8 (a:=one) hne;obtain⟨c1,c2,c3,c4,c5,c6⟩:=uO n other (aH (aA one other)) (by rw[plain_len];omega) t2 (fG tr);have eq:=λk=>d9 (a:=one) hne k
  refine⟨c1,Dv.up (gY (a:=one) hne t2) eq c2 ((Dv.plain tr).mp c3),c2,λd h1 h2=>c4 d h2 ((Dv.plain tr).mpr (Dv.down eq h1 h2)),λ_=>c5 (.inl hne),?_⟩;rcases c6 with e |e |e
  ·exact .inr (.inl e)
  ·exact .inr (.inr ⟨_,tr,e⟩)
  ·exact .inr (.inr e)
def Cop(a:List Int)(m:Nat):Prop:=∀k:Nat,k∣m->(∀n,(k:Int)∣cf a n)->k=1
theorem mK:∀(N:Nat) (a b:List Int) (m:Nat),a.length+b.length<=N->Cop a m->Cop b m->(∀n,(m:Int)∣ao a b n)->m=1
 |_,[],b,m,_,h1,_,_=>h1 m (Ia _) λn=>by rw[bQ];exact Int.dvd_zero _
 |_,_::_,[],m,_,_,h2,_=>h2 m (Ia _) λn=>by rw[bQ];exact Int.dvd_zero _
 |0,_::_,_::_,_,h,_,_,_=>absurd h (by simp)
 |N+1,x::a,y::b,m,h,h1,h2,h3=>by
  have d1:Nat.gcd m x.natAbs=1:=by
   refine mK N a (y::b) _ (by simp at h ⊢;omega) (λk hk hn=>h1 k (IA hk (Io _ _)) λn=>?_) (λk hk=>h2 k (IA hk (Io _ _))) λn=>?_
   ·cases n with
    |zero=>exact Iq.mpr (IA hk (Iz _ _))
    |succ n=>exact hn n
   ·have e:=cD x a (y::b) (n+1);have g1:((Nat.gcd m x.natAbs:Nat):Int)∣ao (x::a) (y::b) (n+1):=Int.dvd_trans (Int.ofNat_dvd.mpr (Io _ _)) (h3 _);have g2:((Nat.gcd m x.natAbs:Nat):Int)∣x*cf (y::b) (n+1):=Int.dvd_mul_of_dvd_left (Iq.mpr (Iz _ _))
    have e2:ao a (y::b) n=ao (x::a) (y::b) (n+1)-x*cf (y::b) (n+1):=by rw[e];show _=_+ao a (y::b) n-_;omega
    rw[e2];exact Int.dvd_sub g1 g2
  have d2:Nat.gcd m y.natAbs=1:=by
   refine mK N (x::a) b _ (by simp at h ⊢;omega) (λk hk=>h1 k (IA hk (Io _ _))) (λk hk hn=>h2 k (IA hk (Io _ _)) λn=>?_) λn=>?_
   ·cases n with
    |zero=>exact Iq.mpr (IA hk (Iz _ _))
    |succ n=>exact hn n
   ·have e:=lO y b (x::a) (n+1);have g1:((Nat.gcd m y.natAbs:Nat):Int)∣ao (x::a) (y::b) (n+1):=Int.dvd_trans (Int.ofNat_dvd.mpr (Io _ _)) (h3 _);have g2:((Nat.gcd m y.natAbs:Nat):Int)∣y*cf (x::a) (n+1):=Int.dvd_mul_of_dvd_left (Iq.mpr (Iz _ _))
    have e2:ao (x::a) b n=ao (x::a) (y::b) (n+1)-y*cf (x::a) (n+1):=by rw[e];show _=_+ao (x::a) b n-_;omega
    rw[e2];exact Int.dvd_sub g1 g2
  have h0:=h3 0;rw[cD]at h0
  have h0':m∣x.natAbs*y.natAbs:=by
   rw[<- Hj];refine Iq.mp ?_
   have e:x*cf (y::b) 0+up (ao a (y::b)) 0=x*y:=by show x*y+0=x*y;omega
   rwa [e]at h0
  have h4:m∣y.natAbs:=Nat.Coprime.dvd_of_dvd_mul_left d1 h0';rw[Nat.gcd_eq_left h4]at d2;exact d2
theorem Ap{l:List Int}{v:Int}(h:v∈l):∃n,n<l.length/\cf l n=v:=by obtain⟨n,hn,e⟩:=HZ h;exact⟨n,hn,by rw[ck hn,e]⟩
theorem uK{a:List Int}{m:Nat}(h:ak a=1):Cop a m:=λk _ hn=>by
 have:k∣ak a:=dvd_gcdL.mpr λv hv=>by obtain⟨n,_,rfl⟩:=Ap hv;exact Iq.mp (hn n)
 rw[h]at this;exact Nat.dvd_one.mp this
theorem ye{a b:List Int}(ha:ak a=1)(hb:ak b=1):ak (ae a b)=1:=by
 refine mK _ a b _ (GP _) (uK ha) (uK hb) λn=>?_
 rw[<- aE];by_cases hn:n<(ae a b).length
 ·rw[ck hn];exact gc (Hu hn)
 ·rw[bD (by omega)];exact Int.dvd_zero _
structure Pln(l:List Int):Prop where
 tr:Tr l
 ne:l≠[]
 prim:ak l=1
 pos:0<b5 l
theorem A6{l:List Int}(h:Tr l)(hne:l≠[]):b5 l≠0:=by have:=GQ.mpr hne;exact h (l.length-1) (by omega)
theorem Pln.plain{l:List Int}(h:Pln l):aH l=l:=by unfold aH;rw[wP (.inr h.prim)];unfold ca;rw[if_neg (by have:=h.pos;omega)]
theorem gA{l:List Int}:scL (ak l:Int) (ah l)=l:=by unfold scL ah;rw[HQ];refine(Ib (g:=id) λx hx=>?_).trans (List.map_id _);exact Int.mul_ediv_cancel' (gc hx)
theorem eW{l:List Int}(h:Tr l)(hne:l≠[]):Pln (aH l):=by
 have hg:0<ak l:=by obtain⟨r,x,rfl⟩:=(cF l).resolve_left hne;have hx:x≠0:=tr_snoc.mp h;exact Nat.pos_of_dvd_of_pos (jr (by simp:x∈r++[x])) (HW.mpr hx)
 have h1:ak (ah l)=1:=by have e:=jq (ak l:Int) (ah l);rw[gA,Hw]at e;exact Nat.eq_of_mul_eq_mul_left hg (by rw[<- e,Nat.mul_one])
 have hs:ah l≠[]:=λz=>hne (by have:=congrArg List.length z;unfold ah at this;simpa using this)
 have hl:=A6 (c7 h) hs
 have hp:ak (aH l)=1:=by
  rcases yc (.inr h1:gk (ah l))with z |z
  ·exact absurd (congrArg List.length z) (by
    have:=plain_len l;unfold aH at this
    rw[this]
    exactλq=>hne (HA.mp q))
  ·exact z
 refine⟨fG h,λz=>hne (HA.mp (by rw[<- plain_len,z];rfl)),hp,?_⟩;unfold aH ca;split
 ·rw[sS];omega
 ·omega
theorem bJ{a b:List Int}(ha:a≠[])(hb:b≠[]):(ae a b).length=a.length+b.length-1:=by unfold ae;rw[if_neg (λz=>z.elim ha hb),GO,Hm]
theorem A5{a b:List Int}(ha:a≠[])(hb:b≠[]):b5 (ae a b)=b5 a*b5 b:=by
 have h1:=GQ.mpr ha;have h2:=GQ.mpr hb;unfold b5;rw[bJ ha hb,aE];have e:a.length+b.length-1-1=(a.length-1)+(b.length-1):=by omega
 rw[e,lM (by omega) (by omega)]
theorem Pln.mul{a b:List Int}(ha:Pln a)(hb:Pln b):Pln (ae a b):=by
 refine⟨eJ ha.tr hb.tr,λz=>?_,ye ha.prim hb.prim,by rw[A5 ha.ne hb.ne];exact G2 ha.pos hb.pos⟩;have h1:=GQ.mpr ha.ne;have h2:=GQ.mpr hb.ne;have:=bJ ha.ne hb.ne;rw[z]at this;simp at this
 omega
theorem yu{p q d:List Int}{c:Int}(hc:c≠0)(hp:Tr p)(hpn:p≠[])(hq:Tr q)(hd:Pln d)(h:∀n,c*cf p n=ao q d n):ae (aH q) d=aH p:=by
 have hqn:q≠[]:=λz=>by have h1:=GQ.mpr hpn;have h2:=h (p.length-1);rw[z,cM]at h2;exact G4 hc (hp (p.length-1) (by omega)) h2
 obtain⟨g,hg,e⟩:=eX hq;have hm:=(eW hq hqn).mul hd;rw[<- hm.plain];refine yr hg hc hm.tr hp λk=>?_
 rw[h,aE,cN (a:=aH q) (b:=[]) (x:=g) (y:=0) (c:=q) (λk=>by rw[e];simp),cM];simp
theorem Dv.trim{d p:List Int}(h:Dv d p):∃(c:Int) (q:List Int),c≠0/\Tr q/\∀n,c*cf p n=ao q d n:=by obtain⟨c,q,hc,e⟩:=h;exact⟨c,RM.trim q,hc,cL q,λn=>by rw[e];exact(iY (λk=>fx q k) λ_=>rfl).symm⟩
theorem Dv.fellow{d p:List Int}(hd:Pln d)(hp:Tr p)(hpn:p≠[])(h:Dv d p):∃q,Pln q/\ae q d=aH p:=by
 obtain⟨c,q,hc,hq,e⟩:=h.trim
 have hqn:q≠[]:=λz=>by have h1:=GQ.mpr hpn;have h2:=e (p.length-1);rw[z,cM]at h2;exact G4 hc (hp (p.length-1) (by omega)) h2
 exact⟨aH q,eW hq hqn,yu hc hp hpn hq hd e⟩
theorem Pln.const{l:List Int}(h:Pln l)(h1:l.length=1):l=[1]:=by
 obtain⟨x,rfl⟩:∃x,l=[x]:=List.length_eq_one_iff.mp h1;have h2:=h.prim;rw[BZ]at h2;have h3:0<x:=h.pos;have:x=1:=by omega
 rw[this]
theorem one_mul(l:List Int)(h:Tr l):ae [1] l=l:=by
 refine gW (eJ (tr_snoc (r:=[]).mpr (by decide)) h) h λk=>?_
 rw[aE,db];omega
theorem rq{a b:List Int}(ha:Pln a)(hb:Pln b)(h1:Dv a b)(h2:Dv b a):a=b:=by obtain⟨q,hq,e⟩:=h1.fellow ha hb.tr hb.ne;obtain⟨r,hr,e'⟩:=h2.fellow hb ha.tr ha.ne;rw[hb.plain]at e;rw[ha.plain]at e';have l1:=bJ hq.ne ha.ne;have l2:=bJ hr.ne hb.ne;rw[e]at l1;rw[e']at l2;have p1:=GQ.mpr hq.ne;have p2:=GQ.mpr hr.ne;have p3:=GQ.mpr ha.ne;have hq1:=hq.const (by omega);rw[hq1,one_mul a ha.tr]at e;exact e
theorem Dv.short{d r:List Int}(hd:d≠[])(hdt:Tr d)(hr:Tr r)(hl:r.length<d.length)(h:Dv d r):r=[]:=by
 obtain⟨c,q,hc,e⟩:=h;have z:=rW hd hdt (d:=q) λn hn=>by rw[<- e,bD (by omega),G7]
 refine lK hr λk=>?_
 have h1:=e k;rw[lL z]at h1;exact(Hk.mp h1).resolve_left hc
theorem Dv.rest{d p:List Int}(hd:d≠[])(hdt:Tr d)(h:Dv d p):aA p d=[] :=
 Dv.short hd hdt (d7 _ _) (d8 hd) (Dv.down (λn=>d9 (a:=p) hd n) h (Dv.refl d))
theorem Dv.mul_right(a b:List Int):Dv b (ae a b):=⟨1,a,by decide,λn=>by rw[aE];omega⟩
theorem Dv.mul_left(a b:List Int):Dv a (ae a b):=⟨1,b,by decide,λn=>by rw[aE,dA];omega⟩
theorem eR{x p:Int}(hp:0<p):sg (p*x)=sg x:=by rw[Hv];exact ka hp
theorem mH{t n x y:Int}:∀(a b c:List Int),a.length=c.length->b.length=c.length->(∀k,cf c k=x*cf a k+y*cf b k)->hv t n c=x*hv t n a+y*hv t n b
 | [],[],[],_,_,_=>by simp[tL]
 |u::a,v::b,w::c,ha,hb,h=>by
  have h0:w=x*u+y*v:=h 0;have ih:=mH (t:=t) (n:=n) (x:=x) (y:=y) a b c (by simpa using ha) (by simpa using hb) (λk=>h (k+1));have la:a.length=c.length:=by simpa using ha
  have lb:b.length=c.length:=by simpa using hb
  rw[cY,cY,cY,ih,h0,la,lb];generalize n^(c.length+1)=p;grind
 | [],_::_,[],_,h,_=>by simp at h
 |_::_,_,[],h,_,_=>by simp at h
 | [],_,_::_,h,_,_=>by simp at h
 |_::_,[],_::_,_,h,_=>by simp at h
theorem tH(t n g:Int)(l:List Int):hv t n (scL g l)=g*hv t n l:=by have:=mH (t:=t) (n:=n) (x:=g) (y:=0) l l (scL g l) (by rw[bX]) (by rw[bX]) (λk=>by rw[bv];simp);rw[this];simp
theorem tG(t n:Int):∀(k:Nat) (l:List Int),hv t n (l++List.replicate k 0)=n^k*hv t n l
 |k,[]=>by
  rw[List.nil_append,tL,G7]
  induction k with
  |zero=>rfl
  |succ k ih=>rw[HX,cY,ih];simp
 |k,v::l=>by
  rw[List.cons_append,cY,tG t n k l,cY];have:(l++List.replicate k (0:Int)).length+1=l.length+1+k:=by simp;omega
  rw[this,Int.pow_add];generalize n^(l.length+1)=p;generalize n^k=q;grind
theorem Do(l:List Int)(k j:Nat):cf (l++List.replicate k 0) j=cf l j:=by
 by_cases h:j<l.length
 ·rw[uW h]
 ·rw[nr (by omega),g7,bD (by omega)]
theorem jn(t n:Int){b:List Int}(hb:b≠[]):∀{a:List Int},a≠[]->n*hv t n (ae a b)=hv t n a*hv t n b
 | [x],_=>by
  have e:ae [x] b=scL x b:=by
   apply cP
   ·rw[bJ (by simp) hb,bX];simp
   ·intro k _;rw[aE,db,bv]
  rw[e,tH,tK];grind
 |x::y::a,_=>by
  have ih:=jn t n hb (a:=y::a) (by simp);have lm:(ae (x::y::a) b).length=(y::a).length+b.length:=by rw[bJ (by simp) hb,Hl];omega
  have lm2:(ae (y::a) b).length+1=(y::a).length+b.length:=by rw[bJ (by simp) hb];have:=GQ.mpr hb;rw[Hl];omega
  have e:=mH (t:=t) (n:=n) (x:=x) (y:=1) (b++List.replicate (y::a).length 0) (0::ae (y::a) b) (ae (x::y::a) b) (by rw[lm,GZ,IV];omega) (by rw[lm,Hl,lm2])
   (λk=>by rw[aE,cD,Do,gZ];rw[G9];congr 1;unfold up;split<;>first |rfl |rw[aE])
  rw[e,tG,cY (v:=0),cY (v:=x)];have:n*(x*(n^(y::a).length*hv t n b)+1*(0*n^((ae (y::a) b).length+1)+t*hv t n (ae (y::a) b)))=x*(n^(y::a).length*n)*hv t n b+t*(n*hv t n (ae (y::a) b)):=by grind
  rw[this,ih,<- Hq];grind
noncomputable def pr(t n:Int):List (List Int)->Int
 | []=>1
 |s::ss=>hv t n s*pr t n ss
noncomputable def sl:List (List Int)->Nat
 | []=>0
 |s::ss=>s.length+sl ss
theorem sf{a b:List Int}(ha:a≠[])(hb:b≠[]):ae a b≠[]:=λz=>by have:=bJ ha hb;rw[z]at this;have h1:=GQ.mpr ha;have h2:=GQ.mpr hb;rw[List.length_nil]at this;omega
noncomputable def bF(acc:List Int)(ss:List (List Int)):List Int:=ss.foldl ae acc
theorem rf(acc:List Int)(ss:List (List Int))(s:List Int):bF acc (ss++[s])=ae (bF acc ss) s:=by unfold bF;rw[List.foldl_append];rfl
theorem rg:∀(ss:List (List Int)) (acc:List Int),acc≠[]->Tr acc->(∀s∈ss,s≠[]/\Tr s)->bF acc ss≠[]/\Tr (bF acc ss)/\(bF acc ss).length+ss.length=acc.length+sl ss
 | [],acc,h1,h2,_=>⟨h1,h2,by simp[bF,sl]⟩
 |s::ss,acc,h1,h2,h3=>by have hs:=h3 s (GY ..);obtain⟨a,b,c⟩:=rg ss (ae acc s) (sf h1 hs.1) (eJ h2 hs.2) (λx hx=>h3 x (GU _ hx));refine⟨a,b,?_⟩;have l:=bJ h1 hs.1;have p1:=GQ.mpr h1;have p2:=GQ.mpr hs.1;show(bF (ae acc s) ss).length+(ss.length+1)=acc.length+(s.length+sl ss);omega
theorem tJ(t n:Int):∀(ss:List (List Int)) (acc:List Int),acc≠[]->(∀s∈ss,s≠[])->n^ss.length*hv t n (bF acc ss)=hv t n acc*pr t n ss
 | [],acc,_,_=>by show n^0*hv t n acc=hv t n acc*1;simp
 |s::ss,acc,h1,h3=>by have hs:=h3 s (GY ..);have ih:=tJ t n ss (ae acc s) (sf h1 hs) (λx hx=>h3 x (GU _ hx));have e:=jn t n hs h1;show n^(ss.length+1)*hv t n (bF (ae acc s) ss)=hv t n acc*(hv t n s*pr t n ss);rw[Hq,Hv _ n,HP,ih,<- HP,e,HP]
theorem iy{r:List Int}(h:Tr r):aZ [] r=scL (-1) r:=by
 refine gW (cL _) (gs (by decide) h) λk=>?_
 unfold aZ;rw[fx,fy,bv,bQ];omega
theorem uC{a b:List Int}(hb:b≠[])(hbt:Tr b):0<aS a b:=by
 have h:=gY (a:=a) hb hbt
 have h2:0<=aS a b:=by
  unfold aS;generalize aQ a b=n
  induction n with
  |zero=>rw[Int.pow_zero];decide
  |succ n ih=>rw[Hq];exact HH ih (IB _)
 omega
structure Chn(r:List (List Int)):Prop where
 step:∀k,k+2<r.length->r.getD (k+2) []=nxt (r.getD k []) (r.getD (k+1) [])
 last:∀k,k+2=r.length->nxt (r.getD k []) (r.getD (k+1) [])=[]
 ne:∀xs∈r,xs≠[]
theorem xJ{n:Nat}{one:List Int}(h:one≠[])(hn:0<n):aF n one []=[one]:=by obtain⟨m,rfl⟩:∃m,n=m+1:=⟨n-1,by omega⟩;show(if one=[]then[]else one::aF m [] (nxt one []))=_;rw[if_neg h,eU]
noncomputable def Ends:Nat->List Int->List Int->Prop
 |0,one,_=>one=[]
 |n+1,one,other=>one=[]\/Ends n other (nxt one other)
theorem qD:∀(n:Nat) (one other:List Int),Ends n one other->Chn (aF n one other)/\(one≠[]->(aF n one other).getD 0 []=one/\0<(aF n one other).length/\(other≠[]->(aF n one other).getD 1 []=other/\1<(aF n one other).length)/\(other=[]->(aF n one other).length=1))
 |0,one,other,h=>by have h':one=[]:=h;subst h';exact⟨⟨λk hk=>by simp[aF]at hk,λk hk=>by simp[aF]at hk,λxs hx=>by simp[aF]at hx⟩,λz=>absurd rfl z⟩
 |n+1,one,other,h=>by
  by_cases h0:one=[]
  ·subst h0;rw[eU];exact⟨⟨λk hk=>by simp at hk,λk hk=>by simp at hk,λxs hx=>by simp at hx⟩,λz=>absurd rfl z⟩
  ·have hE:=(show one=[]\/Ends n other (nxt one other)from h).resolve_left h0;obtain⟨⟨c1,c2,c3⟩,c4⟩:=qD n other (nxt one other) hE
   have e:aF (n+1) one other=one::aF n other (nxt one other):=by show(if one=[]then[]else one::aF n other (nxt one other))=_;rw[if_neg h0]
   rw[e];by_cases ho:other=[]
   ·subst ho;rw[eU];exact⟨⟨λk hk=>by simp at hk,λk hk=>by simp at hk,λxs hx=>by rw[G1.mp hx];exact h0⟩,λ_=>⟨rfl,by simp,λz=>absurd rfl z,λ_=>rfl⟩⟩
   ·obtain⟨d1,d2,d3,d4⟩:=c4 ho;generalize aF n other (nxt one other)=r at c1 c2 c3 d1 d2 d3 d4
    refine⟨⟨λk hk=>?_,λk hk=>?_,λxs hx=>?_⟩,λ_=>⟨rfl,by simp,λ_=>⟨d1,by simpa using d2⟩,λz=>absurd z ho⟩⟩
    ·rw[Hl]at hk;cases k with
     |zero =>
      have hx:nxt one other≠[]:=λz=>by have:=d4 z;omega
      show r.getD 1 []=nxt one (r.getD 0 []);rw[d1,(d3 hx).1]
     |succ j =>show r.getD (j+2) []=nxt (r.getD j []) (r.getD (j+1) []);exact c1 j (by omega)
    ·rw[Hl]at hk;cases k with
     |zero =>
      show nxt one (r.getD 0 [])=[];rw[d1];refine Classical.byContradiction λhx=>?_
      have:=(d3 hx).2;omega
     |succ j =>show nxt (r.getD j []) (r.getD (j+1) [])=[];exact c2 j (by omega)
    ·rcases GX.mp hx with rfl |hx
     ·exact h0
     ·exact c3 xs hx
noncomputable def gr(B:Nat):Nat->Nat
 |0=>B
 |1=>2*B
 |k+2=>2*gr B (k+1)+gr B k
theorem BR(B:Nat):∀k,gr B k<=gr B (k+1)
 |0=>by show B<=2*B;omega
 |k+1=>by show gr B (k+1)<=2*gr B (k+1)+gr B k;omega
theorem gd(B:Nat){j k:Nat}(h:j<=k):gr B j<=gr B k:=by
 induction h with
 |refl=>exact GP _
 |step _ ih=>exact GW ih (BR B _)
theorem tM(B j:Nat):∀d,gr B j+(d+2)*gr B (j+1)<=gr B (j+2+d)
 |0=>by show gr B j+2*gr B (j+1)<=2*gr B (j+1)+gr B j;omega
 |d+1=>by
  have ih:=tM B j d
  have e:gr B (j+2+(d+1))=2*gr B (j+2+d)+gr B (j+1+d):=by
   have:j+2+(d+1)=(j+1+d)+2:=by omega
   rw[this];show 2*gr B (j+1+d+1)+gr B (j+1+d)=_;have e2:j+1+d+1=j+2+d:=by omega
   rw[e2]
  have hm:gr B (j+1)<=gr B (j+1+d):=gd B (by omega);rw[e,Nat.add_mul]at *;have e3:(d+1)*gr B (j+1)=d*gr B (j+1)+gr B (j+1):=by rw[Nat.add_mul,Nat.one_mul]
  omega
theorem dP(a:List Int):ae [] a=[]:=by unfold ae;rw[if_pos (.inl rfl)]
theorem dN(a:List Int):ae a []=[]:=by unfold ae;rw[if_pos (.inr rfl)]
theorem i7(a b:List Int):ae a b=ae b a:=by
 by_cases ha:a=[]
 ·rw[ha,dP,dN]
 by_cases hb:b=[]
 ·rw[hb,dP,dN]
 refine cP ?_ λk _=>?_
 ·rw[bJ ha hb,bJ hb ha];omega
 ·rw[aE,aE,dA]
theorem iZ{a b:List Int}(ha:a≠[])(hb:b≠[]):ae a b≠[]:=λz=>by have:=bJ ha hb;rw[z,List.length_nil]at this;have:=GQ.mpr ha;have:=GQ.mpr hb;omega
theorem gL(a b c:List Int):ae (ae a b) c=ae a (ae b c):=by
 by_cases ha:a=[]
 ·rw[ha,dP,dP,dP]
 by_cases hb:b=[]
 ·rw[hb,dP,dN,dP]
 by_cases hc:c=[]
 ·rw[hc,dN,dN,dN]
 have h1:=iZ ha hb;have h2:=iZ hb hc;refine cP ?_ λk _=>?_
 ·have:=GQ.mpr hb;rw[bJ h1 hc,bJ ha h2,bJ ha hb,bJ hb hc];obtain⟨y,ey⟩:=Nat.exists_eq_succ_of_ne_zero (Nat.ne_of_gt this);rw[ey,Nat.succ_add,Nat.add_succ,Nat.succ_sub_one,Nat.succ_sub_one,Nat.add_assoc]
 ·rw[aE,aE,f8]
instance:Std.Commutative ae:=⟨i7⟩
instance:Std.Associative ae:=⟨gL⟩
theorem i9(a:List Int):ae [1] a=a:=by
 by_cases ha:a=[]
 ·rw[ha,dN]
 refine cP ?_ λk _=>?_
 ·rw[bJ (by simp) ha];simp
 ·rw[aE,db];omega
theorem i8(a:List Int):ae a [1]=a:=by rw[i7,i9]
theorem pln_one:Pln [1]:=⟨tr_snoc (r:=[]).mpr (by decide),by simp,by decide,by decide⟩
theorem rz{a:List Int}(h:Pln a):1<=a.length:=GQ.mpr h.ne
def Sim(a b:List Int):Prop:=∃x y:Int,x≠0/\y≠0/\∀n,x*cf a n=y*cf b n
theorem Sim.refl(a:List Int):Sim a a:=⟨1,1,by decide,by decide,λ_=>rfl⟩
theorem Sim.dv{a b d:List Int}(h:Sim a b)(hd:Dv d b):Dv d a:=by obtain⟨x,y,hx,hy,e⟩:=h;exact Dv.prop_right hx e hd
theorem Sim.symm{a b:List Int}(h:Sim a b):Sim b a:=by obtain⟨x,y,hx,hy,e⟩:=h;exact⟨y,x,hy,hx,λn=>(e n).symm⟩
theorem Dv.cancel{d a b:List Int}(hd:d≠[])(ht:Tr d)(h:Dv (ae d a) (ae d b)):Dv a b:=by
 obtain⟨c,q,hc,e⟩:=h
 have key:∀k,cf (cH (-1) (scL c b) (ae q a)) k=0:=by
  refine rW hd ht λn _=>?_
  rw[cN (a:=b) (b:=ae q a) (x:=c) (y := -1) (λk=>by rw[fy,bv])]
  have e1:ao (ae q a) d n=ao q (ae d a) n:=by
   rw[<- aE,<- aE]
   congr 1
   rw[gL,i7 a d]
  have e2:=e n;rw[aE,dA]at e2;rw[e1,<- e2];omega
 refine⟨c,q,hc,λn=>?_⟩;have:=key n;rw[fy,bv,aE]at this;omega
noncomputable def prd(ss:List (List Int)):List Int:=ss.foldr ae [1]
theorem tW:∀(ss:List (List Int)) (acc:List Int),ss.foldl ae acc=ae acc (prd ss)
 | [],acc=>(i8 acc).symm
 |s::ss,acc=>by show ss.foldl ae (ae acc s)=ae acc (ae s (prd ss));rw[tW ss,gL]
theorem gG:∀(ss:List (List Int)),(∀s∈ss,Pln s)->Pln (prd ss)
 | [],_=>pln_one
 |s::ss,h=>(h s (GY ..)).mul (gG ss λx hx=>h x (GU _ hx))
structure Pri(s:List Int):Prop where
 pln:Pln s
 two:2<=s.length
 or:∀a b,Dv s (ae a b)->Dv s a\/Dv s b
theorem Pri.not_one{s:List Int}(h:Pri s):¬Dv s [1]:=λz=>by have:=Dv.short h.pln.ne h.pln.tr pln_one.tr (by have:=h.two;show 1<s.length;omega) z;exact absurd this (by simp)
theorem Pri.prd{s:List Int}(h:Pri s):∀ss:List (List Int),Dv s (prd ss)->∃t∈ss,Dv s t
 | [],hd=>absurd hd h.not_one
 |t::ss,hd=>by
  rcases h.or t (RM.prd ss) hd with z |z
  ·exact⟨t,GY ..,z⟩
  ·obtain⟨t',ht,z'⟩:=Pri.prd h ss z;exact⟨t',GU _ ht,z'⟩
theorem Pri.same{s t:List Int}(hs:Pri s)(ht:Pri t)(h:Dv s t):s=t:=by
 obtain⟨q,hq,e⟩:=h.fellow hs.pln ht.pln.tr ht.pln.ne;rw[ht.pln.plain]at e;have l:=bJ hq.ne hs.pln.ne;rw[e]at l;have:=hs.two;have:=rz hq;rcases ht.or q s (e ▸ Dv.refl _)with z |z
 ·exact absurd (Dv.short ht.pln.ne ht.pln.tr hq.tr (by omega) z) hq.ne
 ·exact rq hs.pln ht.pln h z
theorem uy:∀(ps:List (List Int)) {E:List Int},(∀p∈ps,Pri p)->Pln E->Dv E (prd ps)->E=[1]\/∃p∈ps,Dv p E
 | [],E,_,hE,h=>by
  refine .inl (hE.const ?_);have:=rz hE;refine Classical.byContradiction λz=>?_
  have:=Dv.short hE.ne hE.tr pln_one.tr (by show 1<E.length;omega) h;exact absurd this (by simp)
 |p::ps,E,hp,hE,h=>by
  obtain⟨c,q,hc,e⟩:=h;have P:=hp p (GY ..)
  have d1:Dv p (ae q E):=Dv.prop_right (x:=1) (y:=c) (by decide) (λn=>by
   show 1*cf (ae q E) n=c*cf (RM.prd (p::ps)) n
   rw[e,aE];omega) (Dv.mul_left p (prd ps))
  rcases P.or q E d1 with z |z
  ·obtain⟨c',q',hc',e'⟩:=z
   have d2:Dv (ae p E) (ae p (prd ps)):=by
    refine⟨c*c',q',G4 hc hc',λn=>?_⟩;have e1:=e n;rw[show ae p (prd ps)=RM.prd (p::ps)from rfl]
    have e2:ao (ae q' p) E n=c'*ao q E n:=by have:=cN (a:=q) (b:=[]) (x:=c') (y:=0) (c:=ae q' p) (q:=E) (n:=n) (λk=>by rw[aE,<- e'];simp);rw[this];simp
    rw[<- f8,e2,<- e1,Hv c c',HP]
   rcases uy ps (λx hx=>hp x (GU _ hx)) hE (Dv.cancel P.pln.ne P.pln.tr d2)with w |⟨t,ht,w⟩
   ·exact .inl w
   ·exact .inr ⟨t,GU _ ht,w⟩
  ·exact .inr ⟨p,GY ..,z⟩
theorem Dh{A B C D L M:List Int}{ps:List (List Int)}(hC:Pln C)(cA:Dv C A)(cB:Dv C B)(call:∀d,Dv d A->Dv d B->Dv d C)(hD:Pln D)(sA:Sim A (ae D L))(sB:Sim B (ae D M))(hps:∀p∈ps,Pri p)(hL:L=prd ps)(hM:∀p∈ps,¬Dv p M):C=D:=by
 have dC:Dv D C:=call D (sA.dv (Dv.mul_left _ _)) (sB.dv (Dv.mul_left _ _));obtain⟨E,hE,e⟩:=dC.fellow hD hC.tr hC.ne;rw[hC.plain,i7]at e;have EL:Dv E L:=Dv.cancel hD.ne hD.tr (by rw[e];exact sA.symm.dv cA);have EM:Dv E M:=Dv.cancel hD.ne hD.tr (by rw[e];exact sB.symm.dv cB);rw[hL]at EL;rcases uy ps hps hE EL with z |⟨p,hp,z⟩
 ·rw[<- e,z,i8]
 ·exact absurd (z.trans EM) (hM p hp)
theorem dj(l:List Int)(n:Nat):cf (slopeL l) n=((n:Int)+1)*cf l (n+1):=by
 unfold slopeL;rw[eh];by_cases h:n<l.length-1
 ·rw[if_pos h]
 ·rw[if_neg h,bD (l:=l) (by omega),G7]
theorem qj(x:Int)(a:List Int)(n:Nat):cf (slopeL (x::a)) n=1*cf a n+1*cf (0::slopeL a) n:=by
 rw[dj,ni,gZ];cases n with
 |zero=>show(((0:Nat):Int)+1)*cf a 0=1*cf a 0+1*0;omega
 |succ n =>
  show(((n+1:Nat):Int)+1)*cf a (n+1)=1*cf a (n+1)+1*cf (slopeL a) n;rw[dj];have:((n+1:Nat):Int)=(n:Int)+1:=by omega
  rw[this,Int.add_mul];omega
theorem j4:∀(a b:List Int) (n:Nat),cf (slopeL (ae a b)) n=ao (slopeL a) b n+ao a (slopeL b) n
 | [],b,n=>by rw[dP];show cf (slopeL []) n=ao (slopeL []) b n+ao [] (slopeL b) n;have:slopeL []=[]:=rfl;rw[this,bQ,cM,cM];omega
 |x::a,b,n=>by
  rw[dj,aE,cD,cN (q:=b) (qj x a),rX,cD,dj];show((n:Int)+1)*(x*cf b (n+1)+ao a b n)=_;cases n with
  |zero =>show(((0:Nat):Int)+1)*(x*cf b 1+ao a b 0)=1*ao a b 0+1*0+(x*((((0:Nat):Int)+1)*cf b 1)+0);simp;omega
  |succ n =>
   have ih:=j4 a b n;rw[dj,aE]at ih;show(((n+1:Nat):Int)+1)*(x*cf b (n+1+1)+ao a b (n+1))=1*ao a b (n+1)+1*ao (slopeL a) b n+(x*((((n+1:Nat):Int)+1)*cf b (n+1+1))+ao a (slopeL b) n);have:((n+1:Nat):Int)=(n:Int)+1:=by omega
   rw[this];generalize ao a b (n+1)=z at *
   generalize ao (slopeL a) b n=z1 at *
   generalize ao a (slopeL b) n=z2 at *
   generalize cf b (n+1+1)=z3 at *
   generalize (n:Int)=m at *
   grind
noncomputable def pw(s:List Int):Nat->List Int
 |0=>[1]
 |n+1=>ae s (pw s n)
theorem qX(s:List Int):pw s 1=s:=i8 s
theorem qY(s:List Int):∀a b,ae (pw s a) (pw s b)=pw s (a+b)
 |0,b=>by rw[Nat.zero_add];exact i9 _
 |a+1,b=>by rw[show a+1+b=a+b+1 by omega];show ae (ae s (pw s a)) (pw s b)=ae s (pw s (a+b));rw[gL,qY s a b]
theorem qW{s:List Int}(h:Pln s):∀n,Pln (pw s n)
 |0=>pln_one
 |n+1=>h.mul (qW h n)
theorem qh(s:List Int):∀(k n:Nat),cf (slopeL (pw s (k+1))) n=((k:Int)+1)*ao (slopeL s) (pw s k) n
 |0,n=>by rw[qX];show _=(((0:Nat):Int)+1)*ao (slopeL s) [1] n;rw[dA,db];omega
 |k+1,n=>by
  show cf (slopeL (ae s (pw s (k+1)))) n=_;rw[j4];have e:ao s (slopeL (pw s (k+1))) n=((k:Int)+1)*ao s (ae (slopeL s) (pw s k)) n:=gK λj=>by rw[qh s k j,aE]
  have e2:ao s (ae (slopeL s) (pw s k)) n=ao (slopeL s) (pw s (k+1)) n:=by
   show _=ao (slopeL s) (ae s (pw s k)) n;rw[<- aE,<- aE]
   congr 1
   ac_rfl
  rw[e,e2];have:((k+1:Nat):Int)=(k:Int)+1:=by omega
  rw[this,Int.add_mul ((k:Int)+1) 1];omega
noncomputable def fP(g:Nat->Nat)(us:List (List Int×Nat)):List Int:=us.foldr (λp acc=>ae (pw p.1 (g p.2)) acc) [1]
theorem dg(g:Nat->Nat)(p:List Int×Nat)(us:List (List Int×Nat)):fP g (p::us)=ae (pw p.1 (g p.2)) (fP g us):=rfl
theorem mP(g h:Nat->Nat):∀us,ae (fP g us) (fP h us)=fP (λm=>g m+h m) us
 | []=>i9 _
 |p::us=>by
  rw[dg,dg,dg,<- mP g h us,<- qY]
  ac_rfl
theorem gf{g h:Nat->Nat}:∀us:List (List Int×Nat),(∀p∈us,g p.2=h p.2)->fP g us=fP h us
 | [],_=>rfl
 |p::us,H=>by rw[dg,dg,H p (GY ..),gf us λx hx=>H x (GU _ hx)]
theorem um{g:Nat->Nat}:∀us:List (List Int×Nat),(∀p∈us,Pri p.1)->Pln (fP g us)
 | [],_=>pln_one
 |p::us,h=>(qW (h p (GY ..)).pln _).mul (um us λx hx=>h x (GU _ hx))
theorem uk(c:Nat->Bool):∀us:List (List Int×Nat),fP (λm=>if c m then 1 else 0) us=prd ((us.filter λp=>c p.2).map (·.1))
 | []=>rfl
 |p::us=>by
  rw[dg,uk c us,List.filter_cons];cases h:c p.2 with
  |true =>simp only[if_true,HC];rw[qX];rfl
  |false =>simp only[Bool.false_eq_true,if_false];exact i9 _
theorem uo{g:Nat->Nat}:∀(us:List (List Int×Nat)) {p:List Int×Nat},p∈us->0<g p.2->Dv p.1 (fP g us)
 |q::us,p,hp,h0=>by
  rw[dg];rcases GX.mp hp with rfl |hp
  ·obtain⟨k,hk⟩:∃k,g p.2=k+1:=⟨g p.2-1,by omega⟩;rw[hk];show Dv p.1 (ae (ae p.1 (pw p.1 k)) _);rw[gL];exact Dv.mul_left _ _
  ·exact(uo us hp h0).trans (Dv.mul_right _ _)
theorem Pri.pw{s t:List Int}(h:Pri s):∀n,Dv s (pw t n)->0<n/\Dv s t
 |0,hd=>absurd hd h.not_one
 |n+1,hd=>by
  refine⟨by omega,?_⟩;rcases h.or t (RM.pw t n) hd with z |z
  ·exact z
  ·exact(Pri.pw h n z).2
theorem Pri.fP{s:List Int}(h:Pri s){g:Nat->Nat}:∀us:List (List Int×Nat),Dv s (fP g us)->∃p∈us,0<g p.2/\Dv s p.1
 | [],hd=>absurd hd h.not_one
 |p::us,hd=>by
  rcases h.or (RM.pw p.1 (g p.2)) (RM.fP g us) hd with z |z
  ·exact⟨p,GY ..,(h.pw _ z)⟩
  ·obtain⟨q,hq,z'⟩:=Pri.fP h us z;exact⟨q,GU _ hq,z'⟩
structure Use(us:List (List Int×Nat)):Prop where
 pri:∀p∈us,Pri p.1
 pos:∀p∈us,1<=p.2
 nd:(us.map (·.1)).Nodup
theorem Use.tail{p:List Int×Nat}{us:List (List Int×Nat)}(h:Use (p::us)):Use us :=
 ⟨λx hx=>h.pri x (GU _ hx),λx hx=>h.pos x (GU _ hx),(Ij.mp h.nd).2⟩
theorem Use.head{p q:List Int×Nat}{us:List (List Int×Nat)}(h:Use (p::us))(hq:q∈us):p.1≠q.1:=λz =>(Ij.mp h.nd).1 (GT.mpr ⟨q,hq,z.symm⟩)
theorem fh(l:List Int):(slopeL l).length=l.length-1:=by unfold slopeL;simp
theorem gq{l:List Int}(h:Tr l):Tr (slopeL l):=λn hn=>by rw[fh]at hn;rw[dj];exact G4 (by omega) (h (n+1) (by omega))
theorem qi:∀us:List (List Int×Nat),Use us->∃M,(∀n,cf (slopeL (fP id us)) n=ao (fP (·-1) us) M n)/\∀q∈us,¬Dv q.1 M
 | [],_=>⟨[],λn=>by
  show cf (slopeL [1]) n=ao [1] [] n
  rw[lN];exact bQ n,λ_ h=>nomatch h⟩
 |p::us,h=>by
  obtain⟨M',e',h'⟩:=qi us h.tail;obtain⟨s,m⟩:=p;have P:Pri s:=h.pri _ (GY ..);obtain⟨k,hk⟩:∃k,m=k+1:=⟨m-1,by have:=h.pos _ (GY ..);simp at this;omega⟩;subst hk
  have eF:fP id us=ae (fP (·-1) us) (fP (λ_=>1) us):=by rw[mP];exact gf us λp hp=>by have:=h.tail.pos p hp;show p.2=p.2-1+1;omega
  have hX:∀n,cf (cH 1 (ae (scL ((k:Int)+1) (slopeL s)) (fP (λ_=>1) us)) (ae s M')) n=1*cf (ae (scL ((k:Int)+1) (slopeL s)) (fP (λ_=>1) us)) n+1*cf (ae s M') n:=λn=>by rw[fy];omega
  refine⟨cH 1 (ae (scL ((k:Int)+1) (slopeL s)) (fP (λ_=>1) us)) (ae s M'),λn=>?_,λq hq hd=>?_⟩
  ·rw[dg,dg];show cf (slopeL (ae (pw s (k+1)) (fP id us))) n=ao (ae (pw s k) (fP (·-1) us)) _ n;rw[j4,rY hX]
   have a1:ao (slopeL (pw s (k+1))) (fP id us) n=ao (ae (pw s k) (fP (·-1) us)) (ae (scL ((k:Int)+1) (slopeL s)) (fP (λ_=>1) us)) n:=by
    rw[eF]
    have:ao (slopeL (pw s (k+1))) (ae (fP (·-1) us) (fP (λ_=>1) us)) n=ao (ae (scL ((k:Int)+1) (slopeL s)) (pw s k)) (ae (fP (·-1) us) (fP (λ_=>1) us)) n:=by
     refine iY (λj=>?_) λ_=>rfl
     rw[qh,aE];have:=cN (a:=slopeL s) (b:=[]) (x:=(k:Int)+1) (y:=0) (c:=scL ((k:Int)+1) (slopeL s)) (q:=pw s k) (n:=j) (λi=>by rw[bv];simp);rw[this];simp
    rw[this,<- aE,<- aE]
    congr 1
    ac_rfl
   have a2:ao (pw s (k+1)) (slopeL (fP id us)) n=ao (ae (pw s k) (fP (·-1) us)) (ae s M') n:=by
    rw[iY (a':=pw s (k+1)) (b':=ae (fP (·-1) us) M') (λ_=>rfl) (λj=>by rw[e',aE])];show ao (ae s (pw s k)) _ n=_;rw[<- aE,<- aE]
    congr 1
    ac_rfl
   rw[a1,a2];omega
  ·have hX':∀n,1*cf (cH 1 (ae (scL ((k:Int)+1) (slopeL s)) (fP (λ_=>1) us)) (ae s M')) n=ao M' s n+cf (ae (scL ((k:Int)+1) (slopeL s)) (fP (λ_=>1) us)) n:=λn=>by rw[hX,aE s,dA s];omega
   rcases GX.mp hq with rfl |hq
   ·have d1:=Dv.down hX' hd (Dv.refl _);rcases P.or _ _ d1 with z |z
    ·have t:Tr (scL ((k:Int)+1) (slopeL s)):=gs (by omega) (gq P.pln.tr);have l:(scL ((k:Int)+1) (slopeL s)).length=s.length-1:=by rw[bX,fh]
     have:=P.two;have n:=Dv.short P.pln.ne P.pln.tr t (by omega) z;rw[n]at l;simp at l
     omega
    ·obtain⟨q',hq',_,w⟩:=P.fP us z;exact h.head hq' (P.same (h.tail.pri q' hq') w)
   ·have Q:=h.tail.pri q hq;have d0:Dv q.1 (ae (scL ((k:Int)+1) (slopeL s)) (fP (λ_=>1) us)):=(uo us hq (g:=λ_=>1) (by decide)).trans (Dv.mul_right _ _);have d1:Dv q.1 (ae s M'):=Dv.down (f:=1) (q:=[1]) (λn=>by rw[hX,db];omega) hd d0;rcases Q.or _ _ d1 with z |z
    ·exact h.head hq (Q.same P z).symm
    ·exact h' q hq z
theorem xL{s a b:List Int}(hs:s≠[])(h:Dv s (ae a b)):Dv s (ae (aA a s) (aA b s)):=by
 have e1:=λn=>d9 (a:=a) hs n
 have e2:=λn=>d9 (a:=b) hs n
 have d1:Dv s (ae (aA a s) b):=by
  refine Dv.down (f:=aS a s) (q:=ae (aT a s) b) (b:=s) (λn=>?_) h (Dv.refl _);rw[aE,aE];have l:=cN (a:=ae (aT a s) s) (b:=aA a s) (x:=1) (y:=1) (c:=scL (aS a s) a) (q:=b) (n:=n) (λk=>by rw[bv,e1,aE];omega);have l2:=cN (a:=a) (b:=[]) (x:=aS a s) (y:=0) (c:=scL (aS a s) a) (q:=b) (n:=n) (λk=>by rw[bv];simp)
  have l3:ao (ae (aT a s) s) b n=ao (ae (aT a s) b) s n:=by
   rw[<- aE,<- aE]
   congr 1
   ac_rfl
  rw[l2,l3]at l;rw[cM]at l;omega
 refine Dv.down (f:=aS b s) (q:=ae (aA a s) (aT b s)) (b:=s) (λn=>?_) d1 (Dv.refl _);rw[aE,aE];have l:=rY (a:=ae (aT b s) s) (b:=aA b s) (x:=1) (y:=1) (c:=scL (aS b s) b) (q:=aA a s) (n:=n) (λk=>by rw[bv,e2,aE];omega);have l2:=gK (a:=aA a s) (b:=b) (b':=scL (aS b s) b) (c:=aS b s) (n:=n) (λk=>by rw[bv])
 have l3:ao (aA a s) (ae (aT b s) s) n=ao (ae (aA a s) (aT b s)) s n:=by
  rw[<- aE,<- aE]
  congr 1
  ac_rfl
 rw[l2,l3]at l;omega
theorem uv{s a:List Int}(hs:s≠[])(ht:Tr s)(h:aA a s=[]):Dv s a :=
 ⟨aS a s,aT a s,gY hs ht,λn=>by rw[d9 hs,h,bQ];omega⟩
noncomputable def aD(u e b:Int):List Int:=if e=0 then[-u,b]else[u*u-e,-2*b*u,b*b]
theorem eI{u e b:Int}(hb:1<=b):Tr (aD u e b)/\2<=(aD u e b).length:=by
 unfold aD;split
 ·exact⟨(tr_snoc (r:=[-u])).mpr (by omega),by show 2<=2;decide⟩
 ·exact⟨(tr_snoc (r:=[u*u-e,-2*b*u])).mpr (G4 (by omega) (by omega)),by show 2<=3;decide⟩
theorem rQ{n e:Int}(hn:0<=n)(h1:n*n<e)(h2:e<(n+1)*(n+1)):∀(k:Nat) (x y:Int),x.toNat<=k->0<x->0<=y->e*(x*x)=y*y->False
 |0,x,y,hk,hx,_,_=>by omega
 |k+1,x,y,hk,hx,hy,h=>by
  have hxx:0<x*x:=G2 hx hx
  have a1:n*x<y:=by
   refine Int.not_le.mp λz=>?_
   have:=Ir z z hy (Int.le_trans hy z);have:=Is h1 hxx;have e1:n*x*(n*x)=n*n*(x*x):=by grind
   omega
  have a2:y<(n+1)*x:=by
   refine Int.not_le.mp λz=>?_
   have z0:0<=(n+1)*x:=HH (by omega) (by omega);have:=Ir z z z0 hy;have:=Is h2 hxx;have e1:(n+1)*x*((n+1)*x)=(n+1)*(n+1)*(x*x):=by grind
   omega
  have a3:(n+1)*x=n*x+x:=by rw[Int.add_mul];omega
  refine rQ hn h1 h2 k (y-n*x) ((e*x-n*y).natAbs:Int) (by omega) (by omega) (by omega) ?_;rw[Int.natAbs_mul_self' (e*x-n*y)];grind
def NS(e:Int):Prop:=e<=0\/∃n:Int,0<=n/\n*n<e/\e<(n+1)*(n+1)
theorem NS.no{e x y:Int}(h:NS e)(he:e≠0)(hx:x≠0)(eq:x*x*e=y*y):False:=by
 rcases h with h |⟨n,hn,h1,h2⟩
 ·have hxx:0<x*x:=by
   rcases Ic hx with z |z
   ·exact Int.mul_pos_of_neg_of_neg z z
   ·exact G2 z z
  have:x*x*e<0:=Jb hxx (by omega)
  have:0<=y*y:=by
   rcases Int.le_total 0 y with z |z
   ·exact HH z z
   ·exact I0 z z
  omega
 ·refine rQ hn h1 h2 _ (x.natAbs:Int) (y.natAbs:Int) (GP _) (by omega) (by omega) ?_;rw[Int.natAbs_mul_self' x,Int.natAbs_mul_self' y,<- eq,Hv]
theorem xU{u e b:Int}(hb:1<=b)(he:NS e){p q:List Int}(h:Dv (aD u e b) (ae p q)):Dv (aD u e b) p\/Dv (aD u e b) q:=by
 obtain⟨tr,l2⟩:=eI (u:=u) (e:=e) hb;have hne:aD u e b≠[]:=λz=>by rw[z]at l2;simp at l2
 by_cases hp:aA p (aD u e b)=[]
 ·exact .inl (uv hne tr hp)
 by_cases hq:aA q (aD u e b)=[]
 ·exact .inr (uv hne tr hq)
 exfalso;have d:=xL hne h;have t1:=d7 p (aD u e b);have t2:=d7 q (aD u e b);have n1:=d8 (a:=p) hne;have n2:=d8 (a:=q) hne;generalize aA p (aD u e b)=r1 at *
 generalize aA q (aD u e b)=r2 at *
 have lm:=bJ hp hq;have p1:=GQ.mpr hp;have p2:=GQ.mpr hq;by_cases hs:(ae r1 r2).length<(aD u e b).length
 ·exact iZ hp hq (Dv.short hne tr (eJ t1 t2) hs d)
 by_cases h0:e=0
 ·have:(aD u e b).length=2:=by unfold aD;rw[if_pos h0];rfl
  omega
 have er:aD u e b=[u*u-e,-2*b*u,b*b]:=by unfold aD;rw[if_neg h0]
 rw[er]at hs n1 n2 d hne tr;simp only[Hl,List.length_nil]at hs n1 n2
 obtain⟨α,β,rfl⟩:∃α β,r1=[α,β]:=by
  match r1,(show r1.length=2 by omega)with
  | [α,β],_=>exact⟨α,β,rfl⟩
 obtain⟨γ,δ,rfl⟩:∃γ δ,r2=[γ,δ]:=by
  match r2,(show r2.length=2 by omega)with
  | [γ,δ],_=>exact⟨γ,δ,rfl⟩
 have hβ:β≠0:=(tr_snoc (r:=[α])).mp t1;have hδ:δ≠0:=(tr_snoc (r:=[γ])).mp t2
 have em:ae [α,β] [γ,δ]=[α*γ,α*δ+β*γ,β*δ]:=by
  refine cP (by rw[lm];rfl) λk hk=>?_
  rw[lm]at hk;rw[aE];have hk':k<3:=hk;have:k=0\/k=1\/k=2:=by omega
  rcases this with rfl |rfl |rfl
  ·show(0+(α*γ))+0=α*γ;omega
  ·show(0+(α*δ))+(β*γ)=α*δ+β*γ;omega
  ·show(0+α*cf [γ,δ] 2)+(β*δ)=β*δ;have:cf [γ,δ] 2=0:=rfl;rw[this];simp
 rw[em]at d;have hr:=d.rest hne tr;have eqn:=λn=>d9 (a:=[α*γ,α*δ+β*γ,β*δ]) hne n
 have hf:=gY (a:=[α*γ,α*δ+β*γ,β*δ]) hne tr;have lq:=mS (a:=[α*γ,α*δ+β*γ,β*δ]) hne;generalize aS [α*γ,α*δ+β*γ,β*δ] [u*u-e,-2*b*u,b*b]=f at *
 generalize aT [α*γ,α*δ+β*γ,β*δ] [u*u-e,-2*b*u,b*b]=Q at *
 rw[hr]at eqn;have lq':Q.length=1:=lq;obtain⟨κ,rfl⟩:∃κ,Q=[κ]:=List.length_eq_one_iff.mp lq';have g0:=eqn 0;have g1:=eqn 1;have g2:=eqn 2;rw[db,bQ]at g0 g1 g2
 replace g0:f*(α*γ)=κ*(u*u-e)+0:=g0
 replace g1:f*(α*δ+β*γ)=κ*(-2*b*u)+0:=g1
 replace g2:f*(β*δ)=κ*(b*b)+0:=g2
 have hκ:κ≠0:=λz=>by rw[z,Ho]at g2;exact G4 hf (G4 hβ hδ) (by omega)
 refine he.no h0 (x:=2*κ*b) (y:=f*(α*δ-β*γ)) (G4 (G4 (by decide) hκ) (by omega)) ?_;have k1:f*(α*δ-β*γ)*(f*(α*δ-β*γ))=f*(α*δ+β*γ)*(f*(α*δ+β*γ))-4*((f*(α*γ))*(f*(β*δ))):=by grind
 rw[k1,g0,g1,g2];grind
theorem xT{u e b:Int}(hb:1<=b)(he:NS e):Pri (aH (aD u e b)):=by
 obtain⟨tr,l2⟩:=eI (u:=u) (e:=e) hb;have hne:aD u e b≠[]:=λz=>by rw[z]at l2;simp at l2
 obtain⟨g,hg,eg⟩:=eX tr;have to:∀p,Dv (aH (aD u e b)) p->Dv (aD u e b) p:=λp h=>Dv.prop_left (x:=1) (y:=g) (by decide) hg (λn=>by rw[eg];omega) h
 have fr:∀p,Dv (aD u e b) p->Dv (aH (aD u e b)) p:=λp h=>Dv.prop_left (x:=g) (y:=1) hg (by decide) (λn=>by rw[<- eg];omega) h
 refine⟨eW tr hne,by rw[plain_len];exact l2,λp q h=>?_⟩;exact(xU hb he (to _ h)).imp (fr _) (fr _)
noncomputable def com(xs ys:List Int):List Int:=cE 20 (aH xs) (aH ys)
structure ComOk(xs ys:List Int):Prop where
 pln:xs≠[]\/ys≠[]->Pln (com xs ys)
 left:Dv (com xs ys) xs
 right:Dv (com xs ys) ys
 all:∀d,Dv d xs->Dv d ys->Dv d (com xs ys)
theorem uN{xs ys:List Int}(h2:ys.length<=19)(t1:Tr xs)(t2:Tr ys):ComOk xs ys:=by
 obtain⟨c1,c2,c3,c4,c5,c6⟩:=uO 20 (aH xs) (aH ys) (by rw[plain_len];omega) (fG t1) (fG t2);refine⟨λh=>?_,(Dv.plain t1).mp c2,(Dv.plain t2).mp c3,λd a b=>c4 d ((Dv.plain t1).mpr a) ((Dv.plain t2).mpr b)⟩;have hne:com xs ys≠[]:=c5 (h.imp (λz q=>z (HA.mp (by rw[<- plain_len,q];rfl))) (λz q=>z (HA.mp (by rw[<- plain_len,q];rfl))))
 obtain⟨l,tl,el⟩:∃l,Tr l/\com xs ys=aH l:=by
  rcases c6 with e |e |e
  ·exact⟨xs,t1,e⟩
  ·exact⟨ys,t2,e⟩
  ·exact e
 have hl:l≠[]:=λz=>hne (by rw[el,z];rfl)
 rw[el];exact eW tl hl
theorem Di{A B D L M:List Int}{ps:List (List Int)}(tA:Tr A)(nA:A≠[])(tB:Tr B)(lB:B.length<=19)(hD:Pln D)(sA:Sim A (ae D L))(sB:Sim B (ae D M))(hps:∀p∈ps,Pri p)(hL:L=prd ps)(hM:∀p∈ps,¬Dv p M):com A B=D :=
 have C:=uN lB tA tB
 Dh (C.pln (.inl nA)) C.left C.right C.all hD sA sB hps hL hM
noncomputable def eq1(k m:Nat):Nat:=if m=k then 1 else 0
noncomputable def rK(_:Nat):Nat:=1
noncomputable def mor(us:List (List Int×Nat))(k:Nat):List Int:=fP (·-k) us
noncomputable def flt(us:List (List Int×Nat)):List Int:=fP rK us
variable {us:List (List Int×Nat)}
theorem tY:flt us=prd (us.map (·.1)):=by
 have:=uk (λ_=>true) us;have e:us.filter (λp=>(λ_=>true) p.2)=us:=List.filter_eq_self.mpr λ_ _=>rfl
 rw[e]at this;rw[<- this];exact gf us λp _=>rfl
theorem ul(h:Use us)(g:Nat->Nat):Pln (fP g us):=um us h.pri
noncomputable def whl(c:Int)(us:List (List Int×Nat)):List Int:=ae [c] (fP id us)
theorem jM(c:Int):whl c us=scL c (fP id us):=by
 unfold whl;by_cases h:fP id us=[]
 ·rw[h,dN];rfl
 refine cP ?_ λk _=>?_
 ·rw[bJ (by simp) h,bX];simp
 ·rw[aE,db,bv]
theorem oC(h:Use us){c:Int}(hc:c≠0):Tr (whl c us)/\whl c us≠[]/\aH (whl c us)=fP id us:=by have pl:=ul h id;rw[jM];refine⟨gs hc pl.tr,λz=>pl.ne (HA.mp (by rw[<- bX c,z];rfl)),?_⟩;rw[lC hc pl.tr,pl.plain]
theorem vO(h:Use us):ae (mor us 1) (flt us)=fP id us:=by unfold mor flt;rw[mP];exact gf us λp hp=>by have:=h.pos p hp;show p.2-1+1=p.2;omega
theorem vN(h:Use us){c:Int}(hc:c≠0)(hl:(whl c us).length<=20):com (whl c us) (slopeL (whl c us))=mor us 1:=by
 obtain⟨t,n,p⟩:=oC h hc;obtain⟨M,eM,hM⟩:=qi us h;refine Di (L:=flt us) (M:=M) (ps:=us.map (·.1)) t n (gq t) (by rw[fh];omega) (ul h _) ⟨1,c,by decide,hc,λk=>?_⟩ ⟨1,c,by decide,hc,λk=>?_⟩ (λp hp=>?_) tY (λp hp=>?_)
 ·rw[vO h,jM,bv];omega
 ·rw[aE];have e:=eM k;rw[dj]at e;show 1*cf (slopeL (whl c us)) k=c*ao (fP (·-1) us) M k;rw[<- e,dj,jM,bv];grind
 ·obtain⟨q,hq,rfl⟩:=GT.mp hp;exact h.pri q hq
 ·obtain⟨q,hq,rfl⟩:=GT.mp hp;exact hM q hq
noncomputable def aX(sq due:Int):Int:=if due<0\/due*due<sq then 1 else 0-(if sq<due*due then 1 else 0)
noncomputable def aU(l:List Int)(t n:Int):Int:=if 0<cf l 3 then aX (cf l 1*n*n) (cf l 2*t-cf l 0*n)else 0-aX (cf l 1*n*n) (0-(cf l 2*t-cf l 0*n))
theorem bL(sq d:Int):(aX sq d=1/\(d<0\/d*d<sq))\/(aX sq d=0/\0<=d/\d*d=sq)\/(aX sq d = -1/\0<=d/\sq<d*d):=by
 unfold aX;by_cases h:d<0\/d*d<sq
 ·rw[if_pos h];exact .inl ⟨rfl,h⟩
 ·rw[if_neg h];by_cases h2:sq<d*d
  ·rw[if_pos h2];exact .inr (.inr ⟨rfl,by omega,h2⟩)
  ·rw[if_neg h2];exact .inr (.inl ⟨rfl,by omega,by omega⟩)
structure Spt(l:List Int):Prop where
 is:∃u e b s:Int,l=[u,e,b,s]/\0<=e/\1<=b/\(s=1\/s = -1)
theorem gt{x y:Int}(hx:0<=x)(h:x<=y):x*x<=y*y:=Ir h h hx (by omega)
theorem jR{x y:Int}(hx:0<=x)(h:x<y):x*x<y*y:=by have h1:x*x<=x*y:=Jc (GS h) hx;have h2:x*y<y*y:=Is h (by omega);omega
theorem AX{x y:Int}(hy:0<=y)(h:x*x<y*y):x<y:=Int.not_le.mp λz=>by have:=gt hy z;omega
theorem A2{x y:Int}(hy:0<=y)(h:x*x<=y*y):x<=y:=Int.not_lt.mp λz=>by have:=jR hy z;omega
theorem o1{g sq d:Int}(hg:0<g):aX (sq*(g*g)) (g*d)=aX sq d:=by
 have hgg:0<g*g:=G2 hg hg;have e1:g*d*(g*d)=d*d*(g*g):=by grind
 have e2:(g*d<0)↔d<0:=by
  constructor
  ·intro h;refine Int.not_le.mp λz=>?_
   have:=HH (GS hg) z;omega
  ·intro h;exact Jb hg h
 have e3:∀x y:Int,(x*(g*g)<y*(g*g))↔x<y:=λx y=>⟨λh=>IC h (GS hgg),λh=>Is h hgg⟩
 unfold aX;rw[e1];simp only[e2,e3]
theorem j5{g t n:Int}(l:List Int)(hg:0<g):aU l (g*t) (g*n)=aU l t n:=by
 have e1:cf l 1*(g*n)*(g*n)=cf l 1*n*n*(g*g):=by grind
 have e2:cf l 2*(g*t)-cf l 0*(g*n)=g*(cf l 2*t-cf l 0*n):=by grind
 have e3:0-g*(cf l 2*t-cf l 0*n)=g*(0-(cf l 2*t-cf l 0*n)):=by grind
 unfold aU;rw[e1,e2,e3,o1 hg,o1 hg]
theorem wM{t n t' n':Int}(l:List Int)(hn:0<n)(hn':0<n')(e:t*n'=t'*n):aU l t n=aU l t' n':=by
 rw[<- j5 (g:=n') l hn',<- j5 (g:=n) (t:=t') l hn];have e1:n'*t=n*t':=by rw[Hv,e,Hv]
 rw[e1,Hv n' n]
theorem qm(l:List Int)(t n:Int):aU l t n=1\/aU l t n=0\/aU l t n = -1:=by
 unfold aU;split
 ·rcases bL (cf l 1*n*n) (cf l 2*t-cf l 0*n)with h |h |h<;>omega
 ·rcases bL (cf l 1*n*n) (0-(cf l 2*t-cf l 0*n))with h |h |h<;>omega
theorem wL{l:List Int}(hl:Spt l){t n t' n':Int}(hn:0<n)(hn':0<n')(h:t*n'<t'*n)(hs:aU l t n<=0):aU l t' n' = -1:=by
 obtain⟨u,e,b,s,rfl,he,hb,hs1⟩:=hl
 have hlt:(b*t-u*n)*n'<(b*t'-u*n')*n:=by
  have h1:b*(t*n')<b*(t'*n):=Int.mul_lt_mul_of_pos_left h (by omega);have e1:(b*t-u*n)*n'=b*(t*n')-u*n*n':=by grind
  have e2:(b*t'-u*n')*n=b*(t'*n)-u*n*n':=by grind
  omega
 have hnn:0<n*n:=G2 hn hn;have hnn':0<n'*n':=G2 hn' hn';rcases hs1 with rfl |rfl
 ·have z0:(0:Int)<1:=by decide
  have hs:aX (e*n*n) (b*t-u*n)<=0:=hs;show aX (e*n'*n') (b*t'-u*n') = -1;generalize b*t-u*n=a at *
  generalize b*t'-u*n'=a' at *
  have k1:0<=a/\e*n*n<=a*a:=by rcases bL (e*n*n) a with h |h |h<;>omega
  have k2:0<=a*n':=HH k1.1 (GS hn');have k3:0<a':=IC (a:=n) (by omega) (GS hn);have k4:=jR k2 hlt;have k5:e*n*n*(n'*n')<=a*a*(n'*n'):=HD k1.2 (GS hnn')
  have k6:e*n'*n'*(n*n)<a'*a'*(n*n):=by
   have e1:e*n'*n'*(n*n)=e*n*n*(n'*n'):=by grind
   have e2:a'*a'*(n*n)=a'*n*(a'*n):=by grind
   have e3:a*a*(n'*n')=a*n'*(a*n'):=by grind
   omega
  have k7:=IC k6 (GS hnn);rcases bL (e*n'*n') a' with h |h |h<;>omega
 ·have hs:0-aX (e*n*n) (0-(b*t-u*n))<=0:=hs;show 0-aX (e*n'*n') (0-(b*t'-u*n')) = -1;generalize ha:0-(b*t-u*n)=a at *
  generalize ha':0-(b*t'-u*n')=a' at *
  have hlt':a'*n<a*n':=by
   have e1:a'*n = -((b*t'-u*n')*n):=by rw[<- ha'];grind
   have e2:a*n' = -((b*t-u*n)*n'):=by rw[<- ha];grind
   omega
  have k1:a<0\/a*a<=e*n*n:=by rcases bL (e*n*n) a with h |h |h<;>omega
  have k2:a'<0\/a'*a'<e*n'*n':=by
   by_cases z:a'<0
   ·exact .inl z
   right;have p1:0<=a'*n:=HH (by omega) (GS hn);have p2:0<a:=IC (a:=n') (by omega) (GS hn');have p3:=jR p1 hlt';have k5:a*a*(n'*n')<=e*n*n*(n'*n'):=HD (by omega) (GS hnn')
   have k6:a'*a'*(n*n)<e*n'*n'*(n*n):=by
    have e1:e*n'*n'*(n*n)=e*n*n*(n'*n'):=by grind
    have e2:a'*a'*(n*n)=a'*n*(a'*n):=by grind
    have e3:a*a*(n'*n')=a*n'*(a*n'):=by grind
    omega
   exact IC k6 (GS hnn)
  rcases bL (e*n'*n') a' with h |h |h<;>omega
noncomputable def spF(f:List Int):List (List Int):=(if 0<=cf f 1 then[[cf f 0,cf f 1,cf f 2,1]]else[])++(if 0<cf f 1 then[[cf f 0,cf f 1,cf f 2,-1]]else[])
noncomputable def spots(fs:List (List Int)):List (List Int):=fs.flatMap spF
noncomputable def spr(t n:Int):List (List Int)->Int
 | []=>1
 |l::ls => -aU l t n*spr t n ls
theorem o8(t n:Int):∀a b,spr t n (a++b)=spr t n a*spr t n b
 | [],b=>by show _=1*_;rw[G9];rfl
 |x::a,b=>by show _*spr t n (a++b)=_*_*_;rw[o8 t n a b,HP]
theorem eO{f l:List Int}{u e b:Int}(hf:f=[u,e,b])(hb:1<=b)(h:l∈spF f):Spt l/\∃s,l=[u,e,b,s]/\0<=e/\(s=1\/s = -1/\0<e):=by
 subst hf;have hd:spF [u,e,b]=(if 0<=e then[[u,e,b,1]]else[])++(if 0<e then[[u,e,b,-1]]else[]):=rfl;rw[hd]at h;rcases HK.mp h with h |h
 ·by_cases z:0<=e
  ·rw[if_pos z]at h;obtain rfl:=G1.mp h;exact⟨⟨u,e,b,1,rfl,z,hb,.inl rfl⟩,1,rfl,z,.inl rfl⟩
  ·rw[if_neg z]at h;cases h
 ·by_cases z:0<e
  ·rw[if_pos z]at h;obtain rfl:=G1.mp h;exact⟨⟨u,e,b,-1,rfl,by omega,hb,.inr rfl⟩,-1,rfl,by omega,.inr ⟨rfl,z⟩⟩
  ·rw[if_neg z]at h;cases h
theorem xS{u e b t n:Int}(hn:0<n):sg (hv t n (aD u e b))=spr t n (spF [u,e,b]):=by
 have hd:spF [u,e,b]=(if 0<=e then[[u,e,b,1]]else[])++(if 0<e then[[u,e,b,-1]]else[]):=rfl;rw[hd];by_cases h0:e=0
 ·subst h0;have er:aD u 0 b=[-u,b]:=by unfold aD;rw[if_pos rfl]
  have ev:hv t n [-u,b]=n*(b*t-u*n):=by show -u*n^2+t*(b*n^1+t*0)=_;grind
  rw[er,ev,eR hn,if_pos (HV _),if_neg (by omega)];show _ = -aX (0*n*n) (b*t-u*n)*1;generalize b*t-u*n=a;rw[Ho,Ho];have:a<0\/a=0\/0<a:=by omega
  rcases this with h |h |h
  ·have h1:sg a = -1:=by unfold sg;rw[if_pos h]
   rcases bL 0 a with z |z |z<;>omega
  ·subst h;rfl
  ·have h1:sg a=1:=by unfold sg;rw[if_neg (by omega),if_pos h]
   have h2:=G2 h h;rcases bL 0 a with z |z |z<;>omega
 ·have er:aD u e b=[u*u-e,-2*b*u,b*b]:=by unfold aD;rw[if_neg h0]
  have ev:hv t n [u*u-e,-2*b*u,b*b]=n*((b*t-u*n)*(b*t-u*n)-e*n*n):=by show(u*u-e)*n^3+t*((-2*b*u)*n^2+t*((b*b)*n^1+t*0))=_;grind
  rw[er,ev,eR hn];by_cases hp:0<=e
  ·rw[if_pos hp,if_pos (by omega)];show _ = -aX (e*n*n) (b*t-u*n)*(-(0-aX (e*n*n) (0-(b*t-u*n)))*1);generalize b*t-u*n=a;have hE:0<e*n*n:=G2 (G2 (by omega) hn) hn;generalize e*n*n=E at *
   have e1:(0-a)*(0-a)=a*a:=by grind
   have h1:=bL E a;have h2:=bL E (0-a);rw[e1]at h2;have az:a=0->a*a=0:=λz=>by rw[z];rfl
   have s3:(a*a<E/\sg (a*a-E) = -1)\/(a*a=E/\sg (a*a-E)=0)\/(E<a*a/\sg (a*a-E)=1):=by unfold sg;split<;>(try split)<;>omega
   generalize a*a=q at *
   rcases h1 with⟨x1,x2⟩ |⟨x1,x2⟩ |⟨x1,x2⟩<;>rcases h2 with⟨y1,y2⟩ |⟨y1,y2⟩ |⟨y1,y2⟩<;>rw[x1,y1]<;>simp<;>omega
  ·rw[if_neg hp,if_neg (by omega)]
   have h1:0<=(b*t-u*n)*(b*t-u*n):=by
    rcases Int.le_total 0 (b*t-u*n)with z |z
    ·exact HH z z
    ·exact I0 z z
   have h2:e*n*n<0:=by rw[HP];exact I9 (by omega) (G2 hn hn)
   show sg _=1;unfold sg;rw[if_neg (by omega),if_pos (by omega)]
noncomputable def ay(f:List Int):List Int:=aH (aD (cf f 0) (cf f 1) (cf f 2))
theorem eT(x y:Int):sg (x*y)=sg x*sg y:=by
 rcases Int.lt_trichotomy x 0 with hx |hx |hx
 ·have h1:sg x = -1:=by unfold sg;rw[if_pos hx]
  have e:x*y = -((-x)*y):=by grind
  rw[e,j8,eR (by omega),h1];omega
 ·subst hx;rw[Ho];show(0:Int)=0*_;rw[Ho]
 ·have h1:sg x=1:=by unfold sg;rw[if_neg (by omega),if_pos hx]
  rw[eR hx,h1,G9]
theorem yt{l:List Int}(h:Tr l)(hne:l≠[])(hp:0<b5 l):∃g:Int,0<g/\l=scL g (aH l):=by
 obtain⟨g,hg,e⟩:=eX h
 have e2:l=scL g (aH l):=by
  apply cP
  ·rw[bX,plain_len]
  ·intro k _;rw[bv,e k]
 have hP:=eW h hne;refine⟨g,?_,e2⟩;obtain⟨r,x,er⟩:=(cF l).resolve_left hne;have hx:b5 l=cf l r.length:=by rw[er,dB,gh]
 obtain⟨r',x',er'⟩:=(cF (aH l)).resolve_left hP.ne;have hx':b5 (aH l)=cf (aH l) r'.length:=by rw[er',dB,gh]
 have hl:r.length=r'.length:=by have:=plain_len l;have h1:=congrArg List.length er;have h2:=congrArg List.length er';simp at h1 h2;omega
 have h3:=e r.length;rw[<- hx,hl,<- hx']at h3;have h4:=hP.pos;rw[h3]at hp;rcases Ic hg with z |z
 ·have:=I9 z h4;omega
 ·exact z
theorem wQ{u e b t n:Int}(hb:1<=b)(hn:0<n):sg (hv t n (ay [u,e,b]))=spr t n (spF [u,e,b]):=by
 obtain⟨tr,l2⟩:=eI (u:=u) (e:=e) hb;have hne:aD u e b≠[]:=λz=>by rw[z]at l2;simp at l2
 have hlast:0<b5 (aD u e b):=by
  unfold aD;split
  ·show 0<b5 ([-u]++[b]);rw[dB];omega
  ·show 0<b5 ([u*u-e,-2*b*u]++[b*b]);rw[dB];exact G2 (by omega) (by omega)
 obtain⟨g,hg,eg⟩:=yt tr hne hlast;rw[<- xS hn];show sg (hv t n (aH (aD u e b)))=_
 have e3:hv t n (aD u e b)=g*hv t n (aH (aD u e b)):=by
  calc hv t n (aD u e b)=hv t n (scL g (aH (aD u e b))):=by rw[<- eg]
   _=_:=tH _ _ _ _
 rw[e3,eR hg]
def fD(f:List Int):Prop:=∃u e b:Int,f=[u,e,b]/\1<=b
theorem rm{t n:Int}(hn:0<n):∀(fs:List (List Int)),(∀f∈fs,fD f)->sg (pr t n (fs.map ay))=spr t n (spots fs)
 | [],_=>rfl
 |f::fs,h=>by
  obtain⟨u,e,b,rfl,hb⟩:=h f (GY ..);have ih:=rm (t:=t) hn fs λx hx=>h x (GU _ hx)
  have e1:spots ([u,e,b]::fs)=spF [u,e,b]++spots fs:=by unfold spots;rw[List.flatMap_cons]
  show sg (hv t n (ay [u,e,b])*pr t n (fs.map ay))=_;rw[eT,wQ hb hn,ih,e1,o8]
theorem wS{f:List Int}(h:fD f):ay f≠[]/\Tr (ay f):=by obtain⟨u,e,b,rfl,hb⟩:=h;obtain⟨tr,l2⟩:=eI (u:=u) (e:=e) hb;refine⟨λz=>?_,fG tr⟩;have:=plain_len (aD u e b);have z':aH (aD u e b)=[]:=z;rw[z']at this;simp at this;omega
theorem re{t n c:Int}(hn:0<n){fs:List (List Int)}(h:∀f∈fs,fD f):sg (hv t n (ae [c] (bF [1] (fs.map ay))))=sg c*spr t n (spots fs):=by
 have hs:∀s∈fs.map ay,s≠[]/\Tr s:=λs hs=>by obtain⟨x,hx,rfl⟩:=GT.mp hs;exact wS (h x hx)
 obtain⟨p1,p2,p3⟩:=rg (fs.map ay) [1] (by simp) ((tr_snoc (r:=[])).mpr (by decide)) hs;have e1:=jn t n (a:=[c]) (b:=bF [1] (fs.map ay)) p1 (by simp);have e2:=tJ t n (fs.map ay) [1] (by simp) λs h=>(hs s h).1
 rw[tK]at e1 e2;rw[<- rm hn fs h]
 have e3:hv t n (ae [c] (bF [1] (fs.map ay)))=c*hv t n (bF [1] (fs.map ay)):=by refine IY (Iy hn) ?_;rw[e1];grind
 rw[e3,eT];have e4:=congrArg sg e2;rw[eR (Int.pow_pos hn),G9,eR hn]at e4;rw[e4]
def inS(l:List Int)(A B D:Int):Prop:=0<aU l A D/\aU l B D<=0
instance (l:List Int) (A B D:Int):Decidable (inS l A B D):=inferInstanceAs (Decidable (_/\_))
structure Fsm(u e b:Int):Prop where
 u1 : -1000000000<=u
 u2:u<=1000000000
 e0:0<=e
 e1:e<=10000000000000000
 b1:1<=b
 b2:b<=1000
theorem A3{x:Int}{n:Nat}(h1 : -(n:Int)<=x)(h2:x<=n):x.natAbs<=n:=by omega
theorem jg{x D:Int}(hD:0<D)(h1 : -(30000000000000*D)<=x)(h2:x<=30000000000000*D):x.natAbs<=30000000000000*D.natAbs:=by
 have e:((30000000000000*D.natAbs:Nat):Int)=30000000000000*D:=by rw[IL,Int.natAbs_of_nonneg (GS hD)];rfl
 exact A3 (by rw[e];exact h1) (by rw[e];exact h2)
theorem rT{u e b s A B D:Int}(h:Fsm u e b)(hs:s=1\/s = -1/\0<e)(hD:2^200<=D)(hw:B=A+128)(hi:inS [u,e,b,s] A B D):((b*A-u*D)*(b*A-u*D)-e*D*D).natAbs<=30000000000000*D.natAbs:=by
 obtain⟨u1,u2,e0,e1,b1,b2⟩:=h;have hDD:0<D:=by omega
 have eB:b*B-u*D=b*A-u*D+128*b:=by rw[hw];grind
 have h36:e*D*D<=100000000*D*(100000000*D):=by
  have h1:e*(D*D)<=10000000000000000*(D*D):=HD (by omega) (GS (G2 hDD hDD));have e2:e*D*D=e*(D*D):=by grind
  have e3:100000000*D*(100000000*D)=10000000000000000*(D*D):=by grind
  omega
 have hE0:0<=e*D*D:=HH (HH e0 (by omega)) (by omega)
 have hbig:e=0\/16384000000<e*D*D:=by
  rcases ID 0 e with z |z
  ·right;have h1:1*(D*D)<=e*(D*D):=HD (by omega) (GS (G2 hDD hDD));have e2:e*D*D=e*(D*D):=by grind
   have h2:1*D<=D*D:=HD (by omega) (by omega);omega
  ·left;omega
 rcases hs with rfl |⟨rfl,hp⟩
 ·have i1:0<aX (e*D*D) (b*A-u*D):=hi.1;have i2:aX (e*D*D) (b*B-u*D)<=0:=hi.2;rw[eB]at i2;generalize b*A-u*D=a at *
  have k1:a<0\/a*a<e*D*D:=by rcases bL (e*D*D) a with z |z |z<;>omega
  have k2:0<=a+128*b/\e*D*D<=(a+128*b)*(a+128*b):=by rcases bL (e*D*D) (a+128*b)with z |z |z<;>omega
  by_cases ha:a<0
  ·have q1:=gt k2.1 (show a+128*b<=128000 by omega);have z0:e=0:=by omega
   subst z0;have q2:(-a)*(-a)<=128000*128000:=gt (by omega) (by omega);have q3:(-a)*(-a)=a*a:=by grind
   have q4:0<=a*a:=by rw[<- q3];exact HH (by omega) (by omega)
   rw[Ho,Ho];exact jg hDD (by omega) (by omega)
  ·have k3:a*a<e*D*D:=by omega
   have k4:a<100000000*D:=AX (by omega) (by omega);have e3:(a+128*b)*(a+128*b)=a*a+256*(b*a)+16384*(b*b):=by grind
   have k5:b*a<=1000*a:=HD b2 (by omega);have k6:b*b<=1000000:=Ir b2 b2 (by omega) (by omega);exact jg hDD (by omega) (by omega)
 ·have i1:0<0-aX (e*D*D) (0-(b*A-u*D)):=hi.1;have i2:0-aX (e*D*D) (0-(b*B-u*D))<=0:=hi.2;rw[eB]at i2;have eq1:(b*A-u*D)*(b*A-u*D)=(0-(b*A-u*D))*(0-(b*A-u*D)):=by grind
  have eq2:0-(b*A-u*D+128*b)=0-(b*A-u*D)-128*b:=by omega
  rw[eq1];rw[eq2]at i2;generalize 0-(b*A-u*D)=c at *
  have k1:0<=c/\e*D*D<c*c:=by rcases bL (e*D*D) c with z |z |z<;>omega
  have k2:c-128*b<0\/(c-128*b)*(c-128*b)<=e*D*D:=by rcases bL (e*D*D) (c-128*b)with z |z |z<;>omega
  by_cases hc:c-128*b<0
  ·have q1:=gt k1.1 (show c<=128000 by omega);exact jg hDD (by omega) (by omega)
  ·have k3:(c-128*b)*(c-128*b)<=e*D*D:=by omega
   have k4:c-128*b<=100000000*D:=A2 (by omega) (by omega);have e3:c*c=(c-128*b)*(c-128*b)+256*(b*c)-16384*(b*b):=by grind
   have k5:b*c<=1000*c:=HD b2 (by omega);have k6:0<=b*b:=HH (by omega) (by omega);exact jg hDD (by omega) (by omega)
theorem vV{u e b A B D:Int}(h:Fsm u e b)(he:0<e)(hD:2^200<=D)(hw:B=A+128)(h1:inS [u,e,b,1] A B D)(h2:inS [u,e,b,-1] A B D):False:=by
 obtain⟨u1,u2,e0,e1,b1,b2⟩:=h;have hDD:0<D:=by omega
 have eB:b*B-u*D=b*A-u*D+128*b:=by rw[hw];grind
 have i1:aX (e*D*D) (b*B-u*D)<=0:=h1.2;have i2:0<0-aX (e*D*D) (0-(b*A-u*D)):=h2.1;rw[eB]at i1;generalize b*A-u*D=a at *
 have k1:0<=a+128*b:=by rcases bL (e*D*D) (a+128*b)with z |z |z<;>omega
 have k2:0<=0-a/\e*D*D<(0-a)*(0-a):=by rcases bL (e*D*D) (0-a)with z |z |z<;>omega
 have k3:=gt k2.1 (show 0-a<=128000 by omega);have h3:1*(D*D)<=e*(D*D):=HD (by omega) (GS (G2 hDD hDD));have e2:e*D*D=e*(D*D):=by grind
 have h4:1*D<=D*D:=HD (by omega) (by omega);omega
theorem b7{x y:Int}{a b:Nat}(hx:x.natAbs<=a)(hy:y.natAbs<=b):(x*y).natAbs<=a*b:=by rw[Hj];exact IM hx hy
theorem rV(N:Nat):1000*1000*(30000000000000*N)+1000*1000*(30000000000000*N)<=60000000000000000000*N/\1000*1000*(30000000000000*N)<=30000000000000000000*N:=by omega
theorem Ad{n2 n3 n4 x1 x2 x3:Nat}(h:n4<=x1+x2+x3)(t1:x1<=482400000000000000000000000000000000000000000*n3)(t2:x2<=3600000000000000000000000000000000000000*n2)(t3:x3<=480000000000000000000000000000000000000000000*n3)(m1:n2<=n3)(m2:1606938044258990275541962092341162602522202993782792835301376*n3<=n4)(m4:0<n3):False:=by omega
theorem Ae{u e b u' e' b' A D:Int}(h:Fsm u e b)(h':Fsm u' e' b')(hD:2^200<=D)
 (n1:((b*A-u*D)*(b*A-u*D)-e*D*D).natAbs<=30000000000000*D.natAbs) (n2:((b'*A-u'*D)*(b'*A-u'*D)-e'*D*D).natAbs<=30000000000000*D.natAbs) :
 4*((b*u'-u*b')*(b*u'-u*b'))*(b*b*e')=(b'*b'*e-b*b*e'-(b*u'-u*b')*(b*u'-u*b'))*(b'*b'*e-b*b*e'-(b*u'-u*b')*(b*u'-u*b')):=by
 obtain⟨u1,u2,e0,e1,b1,b2⟩:=h;obtain⟨u1',u2',e0',e1',b1',b2'⟩:=h';obtain⟨N,rfl⟩:=Int.eq_ofNat_of_zero_le (show 0<=D by omega);rw[Hw]at n1 n2;have hN:1606938044258990275541962092341162602522202993782792835301376<=N:=by omega
 have q9:(b'*b').natAbs<=1000*1000:=b7 (a:=1000) (b:=1000) (by omega) (by omega);have q9':(b*b).natAbs<=1000*1000:=b7 (a:=1000) (b:=1000) (by omega) (by omega);have d1:=b7 q9 n1;have d2:=b7 q9' n2
 have hU:(b*u'-u*b').natAbs<=2000000000000:=by have a1:(b*u').natAbs<=1000*1000000000:=b7 (by omega) (by omega);have a2:(u*b').natAbs<=1000000000*1000:=b7 (by omega) (by omega);exact GW (IE _ _) (Nat.add_le_add a1 a2)
 have hE1:(b'*b'*e).natAbs<=1000*1000*10000000000000000:=b7 q9 (by omega);have hE2:(b*b*e').natAbs<=1000*1000*10000000000000000:=b7 q9' (by omega);have r1:(b'*(b*A-u*N))*(b'*(b*A-u*N))=b'*b'*e*(N*N)+b'*b'*((b*A-u*N)*(b*A-u*N)-e*N*N):=by grind
 have r2:(b*(b'*A-u'*N))*(b*(b'*A-u'*N))=b*b*e'*(N*N)+b*b*((b'*A-u'*N)*(b'*A-u'*N)-e'*N*N):=by grind
 have r3:b'*(b*A-u*N)=b*(b'*A-u'*N)+(b*u'-u*b')*N:=by grind
 generalize b'*b'*((b*A-u*N)*(b*A-u*N)-e*N*N)=δ1 at *
 generalize b*b*((b'*A-u'*N)*(b'*A-u'*N)-e'*N*N)=δ2 at *
 rw[r3]at r1;generalize b*(b'*A-u'*N)=Y at *
 generalize b*u'-u*b'=U at *
 generalize b'*b'*e=E1 at *
 generalize b*b*e'=E2 at *
 clear n1 n2 q9 q9' r3 u1 u2 e0 e1 b1 b2 u1' u2' e0' e1' b1' b2' hD;have hUU:(U*U).natAbs<=2000000000000*2000000000000:=b7 hU hU;have hW:(E1-E2-U*U).natAbs<=4020000000000000000000000:=GW (IE _ _) (GW (Nat.add_le_add (GW (IE _ _) (Nat.add_le_add hE1 hE2)) hUU) (by decide));generalize hWd:E1-E2-U*U=W at *
 have r4:2*U*N*Y=W*(N*N)+(δ1-δ2):=by rw[<- hWd];grind
 have r5:(2*U*N*Y)*(2*U*N*Y)=4*(U*U)*(N*N)*(Y*Y):=by grind
 rw[r4,r2]at r5;have hM:(δ1-δ2).natAbs<=60000000000000000000*N:=GW (IE _ _) (GW (Nat.add_le_add d1 d2) (rV N).1);have hδ2:δ2.natAbs<=30000000000000000000*N:=GW d2 (rV N).2;generalize δ1-δ2=δ at *
 have hNN:(0:Int)<(N:Int)*N:=G2 (by omega) (by omega);have r6:(4*(U*U)*E2-W*W)*(N*N)*(N*N)=2*W*δ*(N*N)+δ*δ-4*(U*U)*δ2*(N*N):=by grind
 refine Int.sub_eq_zero.mp (Classical.byContradiction λhne=>?_);generalize hZ:4*(U*U)*E2-W*W=Z at *
 have hZ1:1<=Z.natAbs:=by omega
 have b1:(Z*(N*N)*(N*N)).natAbs=Z.natAbs*(N*N)*(N*N):=by rw[Hj,Hj,Hj,Hw]
 have t1:(2*W*δ*(N*N)).natAbs<=2*4020000000000000000000000*(60000000000000000000*N)*(N*N):=by refine b7 (b7 (b7 (by decide) hW) hM) ?_;rw[Hj,Hw];exact GP _
 have t2:(δ*δ).natAbs<=60000000000000000000*N*(60000000000000000000*N):=b7 hM hM
 have t3:(4*(U*U)*δ2*(N*N)).natAbs<=4*(2000000000000*2000000000000)*(30000000000000000000*N)*(N*N):=by refine b7 (b7 (b7 (by decide) hUU) hδ2) ?_;rw[Hj,Hw];exact GP _
 have t4:1*(N*N)*(N*N)<=Z.natAbs*(N*N)*(N*N):=HI _ (HI _ hZ1);rw[<- b1,r6]at t4;have e1:2*4020000000000000000000000*(60000000000000000000*N)*(N*N)=482400000000000000000000000000000000000000000*(N*N*N):=by grind
 have e2:60000000000000000000*N*(60000000000000000000*N)=3600000000000000000000000000000000000000*(N*N):=by grind
 have e3:4*(2000000000000*2000000000000)*(30000000000000000000*N)*(N*N)=480000000000000000000000000000000000000000000*(N*N*N):=by grind
 have e4:1*(N*N)*(N*N)=N*(N*N*N):=by grind
 have m1:1*(N*N)<=N*(N*N):=HI _ (by omega);have m2:1606938044258990275541962092341162602522202993782792835301376*(N*N*N)<=N*(N*N*N):=HI _ hN;have m3:N*(N*N)=N*N*N:=by grind
 have m4:0<N*N*N:=Nat.mul_pos (Nat.mul_pos (by omega) (by omega)) (by omega);rw[e4]at t4;rw[e1]at t1;rw[e2]at t2;rw[e3]at t3;rw[Nat.one_mul,m3]at m1;exact Ad (GW t4 (GW (IE _ _) (Nat.add_le_add_right (Int.natAbs_add_le _ _) _))) t1 t2 t3 m1 m2 m4
theorem wT{u e b u' e' b':Int}(h:Fsm u e b)(h':Fsm u' e' b')(hs:NS e)(hs':NS e')
 (eq:4*((b*u'-u*b')*(b*u'-u*b'))*(b*b*e')=(b'*b'*e-b*b*e'-(b*u'-u*b')*(b*u'-u*b'))*(b'*b'*e-b*b*e'-(b*u'-u*b')*(b*u'-u*b'))):ay [u,e,b]=ay [u',e',b']:=by
 obtain⟨u1,u2,e0,e1,b1,b2⟩:=h;obtain⟨u1',u2',e0',e1',b1',b2'⟩:=h'
 have key:b*u'-u*b'=0/\b'*b'*e=b*b*e':=by
  by_cases hz:e'=0
  ·subst hz
   have e3:(b'*b'*e-(b*u'-u*b')*(b*u'-u*b'))*(b'*b'*e-(b*u'-u*b')*(b*u'-u*b'))=0:=by
    have:b*b*(0:Int)=0:=G7 _;rw[this]at eq;rw[G7]at eq;have h9:b'*b'*e-0-(b*u'-u*b')*(b*u'-u*b')=b'*b'*e-(b*u'-u*b')*(b*u'-u*b'):=by omega
    rw[h9]at eq;exact eq.symm
   have e4:b'*b'*e=(b*u'-u*b')*(b*u'-u*b'):=by rcases Hk.mp e3 with z |z<;>omega
   by_cases hz2:e=0
   ·subst hz2;rw[G7]at e4;refine⟨?_,by rw[G7,G7]⟩;rcases Hk.mp e4.symm with z |z<;>exact z
   ·exact(hs.no hz2 (by omega) e4).elim
  ·by_cases hU:b*u'-u*b'=0
   ·rw[hU]at eq
    have e3:(b'*b'*e-b*b*e')*(b'*b'*e-b*b*e')=0:=by
     have h8:4*((0:Int)*0)*(b*b*e')=0:=by rw[G7,G7,Ho]
     rw[h8]at eq;have h9:b'*b'*e-b*b*e'-0*0=b'*b'*e-b*b*e':=by omega
     rw[h9]at eq;exact eq.symm
    refine⟨hU,?_⟩;rcases Hk.mp e3 with z |z<;>omega
   ·refine(hs'.no hz (x:=2*(b*u'-u*b')*b) (G4 (G4 (by decide) hU) (by omega)) (Eq.trans ?_ eq)).elim;grind
 obtain⟨k1,k2⟩:=key;show aH (aD u e b)=aH (aD u' e' b');obtain⟨tr,l2⟩:=eI (u:=u) (e:=e) b1;obtain⟨tr',l2'⟩:=eI (u:=u') (e:=e') b1';have hne:aD u e b≠[]:=λz=>by rw[z]at l2;simp at l2
 have hne':aD u' e' b'≠[]:=λz=>by rw[z]at l2';simp at l2'
 have hz:e=0↔e'=0:=by
  constructor
  ·intro z;rw[z,G7]at k2;rcases Hk.mp k2.symm with y |y
   ·rcases Hk.mp y with y |y<;>omega
   ·exact y
  ·intro z;rw[z,G7]at k2;rcases Hk.mp k2 with y |y
   ·rcases Hk.mp y with y |y<;>omega
   ·exact y
 have prop:∃x y:Int,x≠0/\y≠0/\∀n,x*cf (aD u' e' b') n=y*cf (aD u e b) n:=by
  by_cases h0:e=0
  ·have h0':=hz.mp h0;refine⟨b,b',by omega,by omega,λn=>?_⟩;unfold aD;rw[if_pos h0,if_pos h0',uT,uT];split
   ·have:b*u'=u*b':=by omega
    grind
   ·split
    ·grind
    ·omega
  ·have h0':¬e'=0:=λz=>h0 (hz.mpr z)
   refine⟨b*b,b'*b',G4 (by omega) (by omega),G4 (by omega) (by omega),λn=>?_⟩;have k3:b*u'=u*b':=by omega
   unfold aD;rw[if_neg h0,if_neg h0']
   match n with
   |0 =>
    show b*b*(u'*u'-e')=b'*b'*(u*u-e);have:(b*u')*(b*u')=(u*b')*(u*b'):=by rw[k3]
    grind
   |1 =>
    show b*b*(-2*b'*u')=b'*b'*(-2*b*u);have:b*b'*(b*u')=b*b'*(u*b'):=by rw[k3]
    grind
   |2 =>show b*b*(b'*b')=b'*b'*(b*b);grind
   |n+3 =>show b*b*0=b'*b'*0;omega
 obtain⟨x,y,hx,hy,hp⟩:=prop;refine rq (eW tr hne) (eW tr' hne') ?_ ?_
 ·rw[Dv.plain tr'];refine Dv.prop_right hx hp ?_;obtain⟨g,hg,eg⟩:=eX tr;exact⟨1,[g],by decide,λn=>by rw[db,<- eg];omega⟩
 ·rw[Dv.plain tr];refine Dv.prop_right (x:=y) (y:=x) hy (λn=>(hp n).symm) ?_;obtain⟨g,hg,eg⟩:=eX tr';exact⟨1,[g],by decide,λn=>by rw[db,<- eg];omega⟩
def FacG(f:List Int):Prop:=∃u e b:Int,f=[u,e,b] /\ -1000000000<=u/\u<=1000000000 /\ -10000000000000000<=e/\e<=10000000000000000/\1<=b/\b<=1000/\NS e
theorem FacG.q{f:List Int}(h:FacG f):fD f:=by obtain⟨u,e,b,rfl,_,_,_,_,h5,_⟩:=h;exact⟨u,e,b,rfl,h5⟩
def vM(l l':List Int):Prop:=∀A B D:Int,2^200<=D->B=A+128->inS l A B D->inS l' A B D->False
theorem o9{fs:List (List Int)}(hF:∀f∈fs,FacG f)(hn:(fs.map ay).Nodup):(spots fs).Pairwise vM:=by
 unfold spots;rw[List.pairwise_flatMap];constructor
 ·intro f hf;obtain⟨u,e,b,rfl,h1,h2,h3,h4,h5,h6,h7⟩:=hF f hf;have hd:spF [u,e,b]=(if 0<=e then[[u,e,b,1]]else[])++(if 0<e then[[u,e,b,-1]]else[]):=rfl;rw[hd];by_cases z:0<e
  ·rw[if_pos (by omega),if_pos z];show List.Pairwise _ [[u,e,b,1],[u,e,b,-1]];refine List.pairwise_pair.mpr λA B D hD hw a1 a2=>?_
   exact vV ⟨h1,h2,by omega,h4,h5,h6⟩ z hD hw a1 a2
  ·rw[if_neg z];split
   ·exact List.pairwise_singleton _ _
   ·exact List.Pairwise.nil
 ·rw[List.nodup_iff_pairwise_ne,IN]at hn;refine hn.imp_of_mem λ{f g} hf hg hne x hx y hy A B D hD hw a1 a2=>hne ?_
  obtain⟨u,e,b,rfl,h1,h2,h3,h4,h5,h6,h7⟩:=hF f hf;obtain⟨u',e',b',rfl,h1',h2',h3',h4',h5',h6',h7'⟩:=hF g hg;obtain⟨_,s,rfl,he,hs⟩:=eO rfl h5 hx;obtain⟨_,s',rfl,he',hs'⟩:=eO rfl h5' hy;have F1:Fsm u e b:=⟨h1,h2,he,h4,h5,h6⟩;have F2:Fsm u' e' b':=⟨h1',h2',he',h4',h5',h6'⟩;exact wT F1 F2 h7 h7' (Ae F1 F2 hD (rT F1 hs hD hw a1) (rT F2 hs' hD hw a2))
theorem fH{fs:List (List Int)}(hF:∀f∈fs,fD f){l:List Int}(hl:l∈spots fs):Spt l:=by obtain⟨f,hf,hm⟩:=List.mem_flatMap.mp hl;obtain⟨u,e,b,rfl,hb⟩:=hF f hf;exact(eO rfl hb hm).1
noncomputable def pv:List Int->Rat->Rat
 | [],_=>0
 |c::l,x=>(c:Rat)+x*pv l x
theorem rc:∀(N:Nat) (a b c:List Int) (u v:Int) (x:Rat),a.length<=N->b.length<=N->c.length<=N->(∀n,cf c n=u*cf a n+v*cf b n)->pv c x=(u:Rat)*pv a x+(v:Rat)*pv b x
 |0,a,b,c,u,v,x,ha,hb,hc,_=>by rw[IP (Iu.mp ha),IP (Iu.mp hb),IP (Iu.mp hc)];show(0:Rat)=u*0+v*0;grind
 |N+1,a,b,c,u,v,x,ha,hb,hc,h=>by
  have key:∀l:List Int,l.length<=N+1->pv l x=(cf l 0:Rat)+x*pv l.tail x/\l.tail.length<=N/\∀n,cf l.tail n=cf l (n+1):=λl hl=>by
   cases l with
   |nil=>exact⟨by show(0:Rat)=((0:Int):Rat)+x*0;grind,GR _,λn=>by rw[bQ];rfl⟩
   |cons y l=>exact⟨rfl,by simpa using hl,λn=>rfl⟩
  obtain⟨a1,a2,a3⟩:=key a ha;obtain⟨b1,b2,b3⟩:=key b hb;obtain⟨c1,c2,c3⟩:=key c hc;have ih:=rc N a.tail b.tail c.tail u v x a2 b2 c2 λn=>by rw[a3,b3,c3,h]
  have h0:(cf c 0:Rat)=(u:Rat)*(cf a 0:Rat)+(v:Rat)*(cf b 0:Rat):=by rw[h 0,HR,Hg,Hg]
  rw[a1,b1,c1,ih,h0];grind
theorem iS{a b c:List Int}{u v:Int}(x:Rat)(h:∀n,cf c n=u*cf a n+v*cf b n):pv c x=(u:Rat)*pv a x+(v:Rat)*pv b x :=
 rc (a.length+b.length+c.length) a b c u v x (by omega) (by omega) (by omega) h
theorem gE{a c:List Int}{u:Int}(x:Rat)(h:∀n,cf c n=u*cf a n):pv c x=(u:Rat)*pv a x:=by
 have:=iS (a:=a) (b:=[]) (c:=c) (u:=u) (v:=0) x λn=>by rw[h n,Ho,HN]
 rw[this];show _+((0:Int):Rat)*0=_;grind
theorem ra(x:Rat):∀(a b c:List Int),(∀n,cf c n=ao a b n)->pv c x=pv a x*pv b x
 | [],b,c,h=>by
  have:=gE (a:=[]) (c:=c) (u:=0) x λn=>by rw[h n,cM];simp
  rw[this];show _=(0:Rat)*_;show((0:Int):Rat)*0=0*_;grind
 |y::a,b,c,h=>by
  have ih:=ra x a b (ae a b) (aE a b)
  have:=iS (a:=b) (b:=0::ae a b) (c:=c) (u:=y) (v:=1) x λn=>by
   rw[h n,cD,gZ,G9]
   congr 1
   unfold up;split
   ·rfl
   ·rw[aE]
  rw[this];show(y:Rat)*pv b x+((1:Int):Rat)*(((0:Int):Rat)+x*pv (ae a b) x)=((y:Rat)+x*pv a x)*pv b x;rw[ih];grind
theorem eV{a b:Rat}(ha:0<a)(hb:0<b):0<a/b:=by rw[Rat.div_def];exact Hr ha (Rat.inv_pos.mpr hb)
noncomputable def Bd(M v:Rat):Prop := -M<=v/\v<=M
theorem Bd.mul{M N u v:Rat}(h1:Bd M u)(h2:Bd N v):Bd (M*N) (u*v):=by obtain⟨a,b⟩:=h1;obtain⟨c,d⟩:=h2;have p1:0<=(M-u)*(N-v):=G3 (by grind) (by grind);have p2:0<=(M+u)*(N+v):=G3 (by grind) (by grind);have p3:0<=(M-u)*(N+v):=G3 (by grind) (by grind);have p4:0<=(M+u)*(N-v):=G3 (by grind) (by grind);constructor<;>grind
theorem Bd.add{M N u v:Rat}(h1:Bd M u)(h2:Bd N v):Bd (M+N) (u+v):=by obtain⟨a,b⟩:=h1;obtain⟨c,d⟩:=h2;constructor<;>grind
theorem Bd.mono{M N u:Rat}(h1:Bd M u)(h:M<=N):Bd N u:=by obtain⟨a,b⟩:=h1;constructor<;>grind
def Nice(f:Rat->Rat):Prop:=∀R:Rat,0<=R->∃M:Rat,0<=M/\(∀x,Bd R x->Bd M (f x))/\∀x y,Bd R x->Bd R y->x<=y->Bd (M*(y-x)) (f y-f x)
theorem f6(c:Rat):Nice λ_=>c:=λR _=>by
 rcases HE (a:=0) (b:=c)with h |h
 ·exact⟨c,h,λx _=>⟨by grind,by grind⟩,λx y _ _ hxy=>by
   have:=G3 h (show 0<=y-x by grind)
   exact⟨by grind,by grind⟩⟩
 ·exact⟨-c,by grind,λx _=>⟨by grind,by grind⟩,λx y _ _ hxy=>by
   have:=G3 (show 0 <= -c by grind) (show 0<=y-x by grind)
   exact⟨by grind,by grind⟩⟩
theorem nice_id:Nice λx=>x:=λR hR=>by refine⟨R+1,by grind,λx h=>h.mono (by grind),λx y _ _ hxy=>?_⟩;have:=G3 hR (show 0<=y-x by grind);exact⟨by grind,by grind⟩
theorem Nice.add{f g:Rat->Rat}(hf:Nice f)(hg:Nice g):Nice λx=>f x+g x:=λR hR=>by
 obtain⟨M,m0,m1,m2⟩:=hf R hR;obtain⟨N,n0,n1,n2⟩:=hg R hR;refine⟨M+N,by grind,λx h=>(m1 x h).add (n1 x h),λx y hx hy hxy=>?_⟩;have:=(m2 x y hx hy hxy).add (n2 x y hx hy hxy);have e1:M*(y-x)+N*(y-x)=(M+N)*(y-x):=by grind
 have e2:f y-f x+(g y-g x)=f y+g y-(f x+g x):=by grind
 rwa [e1,e2]at this
theorem Nice.mul{f g:Rat->Rat}(hf:Nice f)(hg:Nice g):Nice λx=>f x*g x:=λR hR=>by
 obtain⟨M,m0,m1,m2⟩:=hf R hR;obtain⟨N,n0,n1,n2⟩:=hg R hR;have p:=G3 m0 n0;refine⟨2*(M*N),by grind,λx h=>((m1 x h).mul (n1 x h)).mono (by grind),λx y hx hy hxy=>?_⟩;have:=((m2 x y hx hy hxy).mul (n1 y hy)).add ((m1 x hx).mul (n2 x y hx hy hxy));have e1:M*(y-x)*N+M*(N*(y-x))=2*(M*N)*(y-x):=by grind
 have e2:(f y-f x)*g y+f x*(g y-g x)=f y*g y-f x*g x:=by grind
 rwa [e1,e2]at this
theorem dz:∀l:List Int,Nice (pv l)
 | []=>f6 0
 |c::l=>(f6 (c:Rat)).add (nice_id.mul (dz l))
theorem qZ:∀(l:List Int) (R:Rat),0<=R->∃M:Rat,0<=M/\∀x y,Bd R x->Bd R y->x<=y->Bd (M*((y-x)*(y-x))) (pv l y-pv l x-(y-x)*pv (slopeL l) x)
 | [],R,_=>⟨0,by grind,λx y _ _ _=>by
  have e:pv [] y-pv [] x-(y-x)*pv (slopeL []) x=0:=by show(0:Rat)-0-(y-x)*0=0;grind
  rw[e];constructor<;>grind⟩
 |c::l,R,hR=>by
  obtain⟨M,m0,m1⟩:=qZ l R hR;obtain⟨N,n0,n1,n2⟩:=dz l R hR;have p:=G3 hR m0;refine⟨N+R*M,by grind,λx y hx hy hxy=>?_⟩
  have hd:pv (slopeL (c::l)) x=pv l x+x*pv (slopeL l) x:=by
   have:=iS (a:=l) (b:=0::slopeL l) (c:=slopeL (c::l)) (u:=1) (v:=1) x λn=>qj c l n
   rw[this];show((1:Int):Rat)*pv l x+((1:Int):Rat)*(((0:Int):Rat)+x*pv (slopeL l) x)=_;grind
  have hz:Bd (y-x) (y-x):=⟨by grind,by grind⟩;have:=(hz.mul (n2 x y hx hy hxy)).add (hx.mul (m1 x y hx hy hxy));have e1:(y-x)*(N*(y-x))+R*(M*((y-x)*(y-x)))=(N+R*M)*((y-x)*(y-x)):=by grind
  have e2:(y-x)*(pv l y-pv l x)+x*(pv l y-pv l x-(y-x)*pv (slopeL l) x)=pv (c::l) y-pv (c::l) x-(y-x)*pv (slopeL (c::l)) x:=by rw[hd];show _=((c:Rat)+y*pv l y)-((c:Rat)+x*pv l x)-_;grind
  rwa [e1,e2]at this
noncomputable def sgR(v:Rat):Int:=if v<0 then -1 else if 0<v then 1 else 0
theorem bN(v:Rat):(v<0/\sgR v = -1)\/(v=0/\sgR v=0)\/(0<v/\sgR v=1):=by
 unfold sgR;by_cases h:v<0
 ·exact .inl ⟨h,by rw[if_pos h]⟩
 ·by_cases h2:0<v
  ·exact .inr (.inr ⟨h2,by rw[if_neg h,if_pos h2]⟩)
  ·exact .inr (.inl ⟨by grind,by rw[if_neg h,if_neg h2]⟩)
def Sta(f:Rat->Rat)(x y:Rat):Prop:=sgR (f x)=sgR (f y)/\sgR (f x)≠0
theorem lJ{f:Rat->Rat}{x y D:Rat}(h:¬Sta f x y)(hd:Bd D (f y-f x)):Bd D (f x)/\Bd D (f y):=by
 obtain⟨d1,d2⟩:=hd
 have key:(f x<=0/\0<=f y)\/(0<=f x/\f y<=0):=by
  rcases bN (f x)with⟨a,b⟩ |⟨a,b⟩ |⟨a,b⟩<;>rcases bN (f y)with⟨c,d⟩ |⟨c,d⟩ |⟨c,d⟩
  ·exact absurd ⟨by rw[b,d],by rw[b];decide⟩ h
  ·exact .inl ⟨by grind,by grind⟩
  ·exact .inl ⟨by grind,by grind⟩
  ·exact .inr ⟨by grind,by grind⟩
  ·exact .inl ⟨by grind,by grind⟩
  ·exact .inl ⟨by grind,by grind⟩
  ·exact .inr ⟨by grind,by grind⟩
  ·exact .inr ⟨by grind,by grind⟩
  ·exact absurd ⟨by rw[b,d],by rw[b];decide⟩ h
 rcases key with⟨a,b⟩ |⟨a,b⟩
 ·exact⟨⟨by grind,by grind⟩,⟨by grind,by grind⟩⟩
 ·exact⟨⟨by grind,by grind⟩,⟨by grind,by grind⟩⟩
inductive SRow:List (List Int)->Prop
 |last {c:Int} (h:c≠0):SRow [[c]]
 |two {a:List Int} {c:Int} (h:c≠0):SRow [a,[c]]
 |cons {a b c:List Int} {r:List (List Int)} {q:List Int} {α β:Rat} (hα:0<α) (hβ:0<β) (e:∀x,α*pv a x=pv q x*pv b x-β*pv c x) (h:SRow (b::c::r)):SRow (a::b::c::r)
theorem lw(c:Int)(x:Rat):pv [c] x=(c:Rat):=by show(c:Rat)+x*0=c;grind
theorem bez:∀{row:List (List Int)},SRow row->∀a b r,row=a::b::r->∃(A B:Rat->Rat) (k:Rat),Nice A/\Nice B/\k≠0/\∀x,A x*pv a x+B x*pv b x=k
 |_,.last h,a,b,r,e=>by cases e
 |_,.two (c:=c) h,a,b,r,e=>by cases e;refine⟨λ_=>0,λ_=>1,(c:Rat),f6 0,f6 1,λz=>h (IQ.mp (by rw[z];rfl)),λx=>?_⟩;rw[lw];grind
 |_,.cons (a:=a0) (b:=b0) (c:=c) (q:=q) (α:=α) (β:=β) hα hβ eq h,a,b,r,e=>by
  cases e;obtain⟨A,B,k,nA,nB,hk,hAB⟩:=bez h _ _ _ rfl;refine⟨λx=>(-α)*B x,λx=>β*A x+B x*pv q x,β*k,(f6 (-α)).mul nB,((f6 β).mul nA).add (nB.mul (dz q)),λz=>?_,λx=>?_⟩
  ·rcases Rat.mul_eq_zero.mp z with y |y
   ·grind
   ·exact hk y
  ·have h1:=hAB x;have h2:=eq x;have:(-α)*B x*pv a0 x+(β*A x+B x*pv q x)*pv b0 x=B x*(pv q x*pv b0 x-α*pv a0 x)+β*A x*pv b0 x:=by grind
   rw[this,h2];have:B x*(pv q x*pv b0 x-(pv q x*pv b0 x-β*pv c x))+β*A x*pv b0 x=β*(A x*pv b0 x+B x*pv c x):=by grind
   rw[this,h1]
theorem rC{a b:Rat->Rat}(na:Nice a)(nb:Nice b){A B:Rat->Rat}{k:Rat}(nA:Nice A)(nB:Nice B)(hk:0<k)(hAB:∀x,A x*a x+B x*b x=k\/A x*a x+B x*b x = -k){R:Rat}(hR:0<=R) :
 ∃(δ κ:Rat),0<δ/\0<κ/\∀x y,Bd R x->Bd R y->x<y->y-x<=δ->¬Sta a x y->Sta b x y/\(κ<=b x\/b x <= -κ)/\(κ<=b y\/b y <= -κ):=by
 obtain⟨M1,p1,q1,r1⟩:=na R hR;obtain⟨M2,p2,q2,r2⟩:=nb R hR;obtain⟨M3,p3,q3,_⟩:=nA R hR;obtain⟨M4,p4,q4,_⟩:=nB R hR;have h31:=G3 p3 p1;have h42:=G3 p4 p2;have hT:0<2*(M3*M1+M4*M2+1):=by grind
 have hT4:0<2*(M4+1):=by grind
 refine⟨k/(2*(M3*M1+M4*M2+1)),k/(2*(M4+1)),eV hk hT,eV hk hT4,λx y hx hy hxy hd hs=>?_⟩
 have hd':(y-x)*(2*(M3*M1+M4*M2+1))<=k:=by
  have:=Hn hd (GV hT)
  rwa [Hh (by grind)]at this
 have hyx:0<y-x:=by grind
 obtain⟨a1,a2⟩:=lJ hs (r1 x y hx hy (by grind));have hM1:0<=M1*(y-x):=G3 p1 (GV hyx)
 have far:∀z,Bd R z->Bd (M1*(y-x)) (a z)->k/(2*(M4+1))<=b z\/b z <= -(k/(2*(M4+1))):=λz hz ha=>by
  have e1:=(q3 z hz).mul ha
  have e2:2*(M3*(M1*(y-x)))<=k:=by have h1:=G3 h42 (GV hyx);grind
  have hB:(k<=2*(B z*b z))\/(2*(B z*b z) <= -k):=by
   obtain⟨f1,f2⟩:=e1;rcases hAB z with g |g
   ·left;grind
   ·right;grind
  rcases HE (a:=k/(2*(M4+1))) (b:=b z)with g |g
  ·exact .inl g
  ·rcases HE (a:=b z) (b := -(k/(2*(M4+1))))with g2 |g2
   ·exact .inr g2
   ·exfalso;have hb:Bd (k/(2*(M4+1))) (b z):=⟨g2,g⟩;obtain⟨f1,f2⟩:=(q4 z hz).mul hb
    have e3:2*(M4*(k/(2*(M4+1))))<k:=by
     have e4:k/(2*(M4+1))*(2*(M4+1))=k:=Hh (by grind);have e5:=eV hk hT4;generalize k/(2*(M4+1))=w at *
     grind
    rcases hB with g3 |g3<;>grind
 refine⟨Classical.byContradiction λhs2=>?_,far x hx a1,far y hy a2⟩;obtain⟨b1,b2⟩:=lJ hs2 (r2 x y hx hy (by grind));obtain⟨e1,e2⟩:=(q3 x hx).mul a1;obtain⟨e3,e4⟩:=(q4 x hx).mul b1;have hM:0<=(M3*M1+M4*M2)*(y-x):=G3 (by grind) (GV hyx);have e5:M3*(M1*(y-x))+M4*(M2*(y-x))=(M3*M1+M4*M2)*(y-x):=by grind
 have e6:(y-x)*(2*(M3*M1+M4*M2+1))=2*((M3*M1+M4*M2)*(y-x))+2*(y-x):=by grind
 rcases hAB x with g |g<;>grind
theorem vc{row:List (List Int)}(h:SRow row){a b:List Int}{r:List (List Int)}(e:row=a::b::r):∃(A B:Rat->Rat) (k:Rat),Nice A/\Nice B/\0<k/\∀x,A x*pv a x+B x*pv b x=k\/A x*pv a x+B x*pv b x = -k:=by
 obtain⟨A,B,k,nA,nB,hk,hAB⟩:=bez h a b r e;rcases HE (a:=0) (b:=k)with g |g
 ·exact⟨A,B,k,nA,nB,by grind,λx=>.inl (hAB x)⟩
 ·exact⟨A,B,-k,nA,nB,by grind,λx=>.inr (by rw[hAB x];grind)⟩
noncomputable def vr:Int->List Int->Int
 |_,[]=>0
 |b,s::r=>(if s*b<0 then 1 else 0)+vr (if s=0 then b else s) r
theorem uQ:∀(l:List Int) (n b:Int),l.foldl chF (n,b)=(n+vr b l,(l.foldl chF (n,b)).2)
 | [],n,b=>by show(n,b)=(n+0,b);rw[HN]
 |s::r,n,b=>by
  show r.foldl chF (chF (n,b) s)=(n+((if s*b<0 then 1 else 0)+vr (if s=0 then b else s) r),(r.foldl chF (chF (n,b) s)).2)
  have e:chF (n,b) s=(n+(if s*b<0 then 1 else 0),if s=0 then b else s):=by
   unfold chF;by_cases h:s*b<0
   ·rw[if_pos h,if_pos h]
   ·rw[if_neg h,if_neg h,HN]
  rw[e];have:=uQ r (n+(if s*b<0 then 1 else 0)) (if s=0 then b else s);rw[Int.add_assoc]at this;exact this
theorem uS(l:List Int):(chS l).1=vr 0 l:=by unfold chS;rw[uQ l 0 0];show 0+vr 0 l=_;omega
def dk(s:Int):Prop:=s=1\/s=0\/s = -1
inductive Al:Int->List Int->List Int->Prop
 |nil {b:Int}:Al b [] []
 |stab {b s:Int} {r r':List Int} (h:s≠0) (t:Al s r r'):Al b (s::r) (s::r')
 |unst {b s s':Int} {r r':List Int} (h1:dk s) (h2:dk s') (t:Al (-b) r r'):Al b (s :: -b::r) (s' :: -b::r')
theorem oF{b s:Int}(hb:b=1\/b = -1)(hs:dk s)(r:List Int):vr b (s :: -b::r)=1+vr (-b) r:=by
 have hb0:¬(-b=0):=by omega
 rcases hs with rfl |rfl |rfl
 ·rcases hb with rfl |rfl<;>simp[vr]
 ·rcases hb with rfl |rfl<;>simp[vr]
 ·rcases hb with rfl |rfl<;>simp[vr]
theorem Al.vr:∀{b:Int} {r r':List Int},Al b r r'->(b=1\/b = -1)->(∀s∈r,dk s)->RM.vr b r=RM.vr b r'
 |_,_,_,.nil,_,_=>rfl
 |b,_,_,.stab (s:=s) (r:=r) (r':=r') h t,hb,hu=>by
  have hs:dk s:=hu s (GY ..);have hs':s=1\/s = -1:=by rcases hs with z |z |z;exact .inl z;exact absurd z h;exact .inr z
  have ih:=Al.vr t hs' λx hx=>hu x (GU _ hx)
  show _+RM.vr (if s=0 then b else s) r=_+RM.vr (if s=0 then b else s) r';rw[if_neg h,ih]
 |b,_,_,.unst h1 h2 t,hb,hu=>by
  have ih:=Al.vr t (by omega) λx hx=>hu x (GU _ (GU _ hx))
  rw[oF hb h1,oF hb h2,ih]
noncomputable def sgX(row:List (List Int))(x:Rat):List Int:=row.map λf=>sgR (pv f x)
theorem iF(v:Rat):dk (sgR v):=by
 rcases bN v with⟨_,h⟩ |⟨_,h⟩ |⟨_,h⟩<;>rw[h]
 ·exact .inr (.inr rfl)
 ·exact .inr (.inl rfl)
 ·exact .inl rfl
theorem qv(row:List (List Int))(x:Rat):∀s∈sgX row x,dk s:=λs hs=>by obtain⟨f,_,rfl⟩:=GT.mp hs;exact iF _
def vz(row:List (List Int))(R:Rat):Prop:=∃δ:Rat,0<δ/\∀x y,Bd R x->Bd R y->x<y->y-x<=δ->∀a r,row=a::r->Sta (pv a) x y->Al (sgR (pv a x)) (sgX r x) (sgX r y)
theorem xb{c:Int}(h:c≠0):sgR (c:Rat)≠0:=by
 rcases bN (c:Rat)with⟨_,e⟩ |⟨z,_⟩ |⟨_,e⟩
 ·rw[e];decide
 ·exact absurd (IQ.mp (by rw[z];rfl)) h
 ·rw[e];decide
theorem sK:∀{row:List (List Int)},SRow row->∀R:Rat,0<=R->vz row R/\vz row.tail R
 |_,.last h,R,_=>⟨⟨1,by grind,λx y _ _ _ _ a r e _=>by cases e;exact .nil⟩,⟨1,by grind,λx y _ _ _ _ a r e _=>by cases e⟩⟩
 |_,.two (c:=c) h,R,_=>by refine⟨⟨1,by grind,λx y _ _ _ _ a r e _=>?_⟩,⟨1,by grind,λx y _ _ _ _ a r e _=>by cases e;exact .nil⟩⟩;cases e;show Al _ [sgR (pv [c] x)] [sgR (pv [c] y)];rw[lw,lw];exact .stab (xb h) .nil
 |_,.cons (a:=a) (b:=b) (c:=c) (r:=r) (q:=q) (α:=α) (β:=β) hα hβ eq h,R,hR=>by
  obtain⟨⟨δ1,d1,l1⟩,⟨δ2,d2,l2⟩⟩:=sK h R hR;refine⟨?_,⟨δ1,d1,l1⟩⟩;obtain⟨A,B,k,nA,nB,hk,hAB⟩:=vc h rfl;obtain⟨δ3,κ,d3,hκ,l3⟩:=rC (dz b) (dz c) nA nB hk hAB hR;obtain⟨M,m0,m1,m2⟩:=dz b R hR;obtain⟨N,n0,n1,_⟩:=dz q R hR;have hMN:=G3 n0 m0;have hT:0<N*M+1:=by grind
  have hβκ:=Hr hβ hκ
  obtain⟨δ,hδ,g1,g2,g3,g4⟩:∃δ:Rat,0<δ/\δ<=δ1/\δ<=δ2/\δ<=δ3/\δ*(N*M+1)<=β*κ:=by
   have hw:=eV hβκ hT;have hw2:β*κ/(N*M+1)*(N*M+1)=β*κ:=Hh (by grind)
   have two:∀u v:Rat,0<u->0<v->∃w:Rat,0<w/\w<=u/\w<=v:=λu v hu hv=>by
    rcases HE (a:=u) (b:=v)with z |z
    ·exact⟨u,hu,Rat.le_refl,z⟩
    ·exact⟨v,hv,z,Rat.le_refl⟩
   obtain⟨u,hu,u1,u2⟩:=two δ1 δ2 d1 d2;obtain⟨v,hv,v1,v2⟩:=two u δ3 hu d3;obtain⟨w,hw',w1,w2⟩:=two v _ hv hw;refine⟨w,hw',by grind,by grind,by grind,?_⟩;have:=Hn w2 (GV hT)
   rwa [hw2]at this
  refine⟨δ,hδ,λx y hx hy hxy hd a' r' e sa=>?_⟩;cases e;show Al (sgR (pv a x)) (sgR (pv b x)::sgX (c::r) x) (sgR (pv b y)::sgX (c::r) y);by_cases sb:Sta (pv b) x y
  ·have t:=l1 x y hx hy hxy (by grind) b (c::r) rfl sb;rw[<- sb.1];exact .stab sb.2 t
  ·obtain⟨sc,c1,c2⟩:=l3 x y hx hy hxy (by grind) sb;obtain⟨b1,_⟩:=lJ sb (m2 x y hx hy (by grind));have hyx:0<y-x:=by grind
   have hop:sgR (pv c x) = -sgR (pv a x):=by
    obtain⟨f1,f2⟩:=(n1 x hx).mul b1;have e1:=eq x
    have e2:N*(M*(y-x))<β*κ:=by have h1:(y-x)*(N*M+1)<=δ*(N*M+1):=Hn hd (GV hT);grind
    rcases c1 with z |z
    ·have h2:β*κ<=β*pv c x:=Iv z (GV hβ);have h3:α*pv a x<0:=by grind
     have h4:pv a x<0:=by
      rcases HE (a:=0) (b:=pv a x)with w |w
      ·have:=G3 (GV hα) w;grind
      ·rcases bN (pv a x)with⟨w2,_⟩ |⟨w2,_⟩ |⟨w2,_⟩
       ·exact w2
       ·rw[w2]at h3;grind
       ·grind
     rcases bN (pv c x)with⟨w,_⟩ |⟨w,_⟩ |⟨_,w⟩
     ·grind
     ·grind
     ·rcases bN (pv a x)with⟨_,v⟩ |⟨v,_⟩ |⟨v,_⟩
      ·rw[w,v];decide
      ·grind
      ·grind
    ·have h2:β*pv c x<=β*(-κ):=Iv z (GV hβ);have h3:0<α*pv a x:=by grind
     have h4:0<pv a x:=by
      rcases bN (pv a x)with⟨w2,_⟩ |⟨w2,_⟩ |⟨w2,_⟩
      ·have:=G3 (GV hα) (show 0 <= -pv a x by grind);grind
      ·rw[w2]at h3;grind
      ·exact w2
     rcases bN (pv c x)with⟨_,w⟩ |⟨w,_⟩ |⟨w,_⟩
     ·rcases bN (pv a x)with⟨v,_⟩ |⟨v,_⟩ |⟨_,v⟩
      ·grind
      ·grind
      ·rw[w,v]
     ·grind
     ·grind
   have hop':sgR (pv c y) = -sgR (pv a x):=by rw[<- sc.1];exact hop
   have t:Al (sgR (pv c x)) (sgX r x) (sgX r y):=l2 x y hx hy hxy (by grind) c r rfl sc;rw[hop]at t;show Al _ (_::sgR (pv c x)::sgX r x) (_::sgR (pv c y)::sgX r y);rw[hop,hop'];exact .unst (iF _) (iF _) t
noncomputable def chg(f:Rat->Rat)(x y:Rat):Int:=if sgR (f x)≠0/\sgR (f y)≠sgR (f x)then 1 else 0
noncomputable def vrs(row:List (List Int))(x:Rat):Int:=vr 0 (sgX row x)
theorem vQ{s:Int}(r:List Int):vr 0 (s::r)=vr s r:=by
 show(if s*0<0 then 1 else 0)+vr (if s=0 then 0 else s) r=_;rw[G7,if_neg (by decide),Im];split
 ·rename_i h;rw[h]
 ·rfl
theorem wz{F0 F1:List Int}{r:List (List Int)}(h:SRow (F0::F1::r)){γ:Rat}(hγ:0<γ)(hd:∀x,pv (slopeL F0) x=γ*pv F1 x){R:Rat}(hR:0<=R) :
 ∃δ:Rat,0<δ/\∀x y,Bd R x->Bd R y->x<y->y-x<=δ->vrs (F0::F1::r) x-vrs (F0::F1::r) y=chg (pv F0) x y:=by
 obtain⟨⟨δ1,d1,l1⟩,⟨δ2,d2,l2⟩⟩:=sK h R hR;obtain⟨A,B,k,nA,nB,hk,hAB⟩:=vc h rfl;obtain⟨δ3,κ,d3,hκ,l3⟩:=rC (dz F0) (dz F1) nA nB hk hAB hR;obtain⟨M,m0,m1⟩:=qZ F0 R hR;have hγκ:=Hr hγ hκ
 obtain⟨δ,hδ,g1,g2,g3,g4⟩:∃δ:Rat,0<δ/\δ<=δ1/\δ<=δ2/\δ<=δ3/\δ*(M+1)<=γ*κ:=by
  have hT:0<M+1:=by grind
  have hw:=eV hγκ hT;have hw2:γ*κ/(M+1)*(M+1)=γ*κ:=Hh (by grind)
  have two:∀u v:Rat,0<u->0<v->∃w:Rat,0<w/\w<=u/\w<=v:=λu v hu hv=>by
   rcases HE (a:=u) (b:=v)with z |z
   ·exact⟨u,hu,Rat.le_refl,z⟩
   ·exact⟨v,hv,z,Rat.le_refl⟩
  obtain⟨u,hu,u1,u2⟩:=two δ1 δ2 d1 d2;obtain⟨v,hv,v1,v2⟩:=two u δ3 hu d3;obtain⟨w,hw',w1,w2⟩:=two v _ hv hw;refine⟨w,hw',by grind,by grind,by grind,?_⟩;have:=Hn w2 (GV hT)
  rwa [hw2]at this
 refine⟨δ,hδ,λx y hx hy hxy hyd=>?_⟩;have e0:∀z,vrs (F0::F1::r) z=vr (sgR (pv F0 z)) (sgX (F1::r) z):=λz=>vQ _
 have nz:∀{v:Rat},sgR v≠0->sgR v=1\/sgR v = -1:=λ{v} hv=>by rcases iF v with z |z |z;exact .inl z;exact absurd z hv;exact .inr z
 rw[e0,e0];by_cases s0:Sta (pv F0) x y
 ·have t:=(l1 x y hx hy hxy (by grind) F0 (F1::r) rfl s0).vr (nz s0.2) (qv _ _);rw[<- s0.1,t];unfold chg;rw[if_neg (λz=>z.2 s0.1.symm)];omega
 ·obtain⟨s1,c1,c2⟩:=l3 x y hx hy hxy (by grind) s0;have t:=(l2 x y hx hy hxy (by grind) F1 r rfl s1).vr (nz s1.2) (qv _ _);have hyx:0<y-x:=by grind
  have hyy:0<(y-x)*(y-x):=Hr hyx hyx;obtain⟨f1,f2⟩:=m1 x y hx hy (by grind)
  have small:M*((y-x)*(y-x))<(y-x)*(γ*κ):=by
   have h1:(y-x)*(M+1)<=γ*κ:=by have:=Hn hyd (show 0<=M+1 by grind);grind
   have h2:(y-x)*((y-x)*(M+1))<=(y-x)*(γ*κ):=Iv h1 (GV hyx);grind
  rw[hd]at f1 f2;show vr (sgR (pv F0 x)) (sgR (pv F1 x)::sgX r x)-vr (sgR (pv F0 y)) (sgR (pv F1 y)::sgX r y)=_
  have hu:∀(b s:Int) (l:List Int),s≠0->vr b (s::l)=(if s*b<0 then 1 else 0)+vr s l:=λb s l hs=>by show _+vr (if s=0 then b else s) l=_;rw[if_neg hs]
  have s1':sgR (pv F1 y)=sgR (pv F1 x):=s1.1.symm;rw[s1',hu _ _ _ s1.2,hu _ _ _ s1.2,t];unfold chg;rcases c1 with z |z
  ·
   have h1:γ*κ<=γ*pv F1 x:=Iv z (GV hγ);have h2:(y-x)*(γ*κ)<=(y-x)*(γ*pv F1 x):=Iv h1 (GV hyx);have rise:pv F0 x<pv F0 y:=by grind
   have s1p:sgR (pv F1 x)=1:=by
    rcases bN (pv F1 x)with⟨w,_⟩ |⟨w,_⟩ |⟨_,w⟩
    ·grind
    ·grind
    ·exact w
   rw[s1p];rcases bN (pv F0 x)with⟨a1,a2⟩ |⟨a1,a2⟩ |⟨a1,a2⟩<;>rcases bN (pv F0 y)with⟨b1,b2⟩ |⟨b1,b2⟩ |⟨b1,b2⟩
   ·exact absurd ⟨by rw[a2,b2],by rw[a2];decide⟩ s0
   ·rw[a2,b2];simp
   ·rw[a2,b2];simp
   ·grind
   ·grind
   ·rw[a2,b2];simp
   ·grind
   ·grind
   ·exact absurd ⟨by rw[a2,b2],by rw[a2];decide⟩ s0
  ·have h1:γ*pv F1 x<=γ*(-κ):=Iv z (GV hγ);have h2:(y-x)*(γ*pv F1 x)<=(y-x)*(γ*(-κ)):=Iv h1 (GV hyx);have fall:pv F0 y<pv F0 x:=by grind
   have s1p:sgR (pv F1 x) = -1:=by
    rcases bN (pv F1 x)with⟨_,w⟩ |⟨w,_⟩ |⟨w,_⟩
    ·exact w
    ·grind
    ·grind
   rw[s1p];rcases bN (pv F0 x)with⟨a1,a2⟩ |⟨a1,a2⟩ |⟨a1,a2⟩<;>rcases bN (pv F0 y)with⟨b1,b2⟩ |⟨b1,b2⟩ |⟨b1,b2⟩
   ·exact absurd ⟨by rw[a2,b2],by rw[a2];decide⟩ s0
   ·grind
   ·grind
   ·rw[a2,b2];simp
   ·grind
   ·grind
   ·rw[a2,b2];simp
   ·rw[a2,b2];simp
   ·exact absurd ⟨by rw[a2,b2],by rw[a2];decide⟩ s0
structure Cut(s:Rat->Int):Prop where
 u:∀x,dk (s x)
 m:∀x y,x<y->s x<=0->s y = -1
noncomputable def cnt(S:List (Rat->Int))(x y:Rat):Int:=(S.map λs=>if 0<s x/\s y<=0 then(1:Int)else 0).sum
theorem Dl(x y:Rat):cnt [] x y=0:=rfl
theorem fw(s:Rat->Int)(S:List (Rat->Int))(x y:Rat):cnt (s::S) x y=(if 0<s x/\s y<=0 then 1 else 0)+cnt S x y:=by unfold cnt;rw[HC,List.sum_cons]
theorem uP{x y z:Rat}(hxy:x<y)(hyz:y<z):∀{S:List (Rat->Int)},(∀s∈S,Cut s)->cnt S x z=cnt S x y+cnt S y z
 | [],_=>rfl
 |s::S,h=>by
  have hs:=h s (GY ..);have ih:=uP hxy hyz (S:=S) λt ht=>h t (GU _ ht)
  rw[fw,fw,fw,ih]
  have e:(if 0<s x/\s z<=0 then(1:Int)else 0)=(if 0<s x/\s y<=0 then 1 else 0)+(if 0<s y/\s z<=0 then 1 else 0):=by
   by_cases hy:s y<=0
   ·have hz:=hs.m y z hyz hy;rw[if_neg (show ¬(0<s y/\s z<=0) by omega)];by_cases hx:0<s x
    ·rw[if_pos ⟨hx,by omega⟩,if_pos ⟨hx,hy⟩];rfl
    ·rw[if_neg (by omega),if_neg (by omega)];rfl
   ·have hx:0<s x:=by
     rcases ID 0 (s x)with q |q
     ·exact q
     ·have:=hs.m x y hxy q;omega
    rw[if_neg (show ¬(0<s x/\s y<=0) by omega)];by_cases hz:s z<=0
    ·rw[if_pos ⟨hx,hz⟩,if_pos ⟨by omega,hz⟩];rfl
    ·rw[if_neg (by omega),if_neg (by omega)];rfl
  rw[e];omega
noncomputable def cpr(x:Rat):List (Rat->Int)->Int
 | []=>1
 |s::S => -s x*cpr x S
theorem m5(x:Rat):∀a b,cpr x (a++b)=cpr x a*cpr x b
 | [],b=>by show _=1*_;rw[G9];rfl
 |s::a,b=>by show _*cpr x (a++b)=_*_*_;rw[m5 x a b,HP]
def inC(s:Rat->Int)(x y:Rat):Prop:=0<=s x/\s y<=0
theorem Be{s:Rat->Int}(h:Cut s){x y:Rat}(hxy:x<y)(hn:¬inC s x y):s x=s y/\(s x=1\/s x = -1):=by
 have h1:=h.u x;have h2:=h.u y;unfold inC at hn
 by_cases hx:s x<=0
 ·have:=h.m x y hxy hx;rcases h1 with a |a |a<;>omega
 ·rcases h1 with a |a |a
  ·rcases h2 with b |b |b<;>omega
  ·omega
  ·omega
theorem mj{x y:Rat}(hxy:x<y):∀{S:List (Rat->Int)},(∀s∈S,Cut s)->(∀s∈S,¬inC s x y)->cpr x S=cpr y S/\(cpr x S=1\/cpr x S = -1)/\cnt S x y=0
 | [],_,_=>⟨rfl,.inl rfl,rfl⟩
 |s::S,h,hn=>by
  obtain⟨i1,i2,i3⟩:=mj hxy (S:=S) (λt ht=>h t (GU _ ht)) λt ht=>hn t (GU _ ht)
  obtain⟨a1,a2⟩:=Be (h s (GY ..)) hxy (hn s (GY ..));refine⟨by show -s x*cpr x S = -s y*cpr y S;rw[a1,i1],?_,?_⟩
  ·show -s x*cpr x S=1 \/ -s x*cpr x S = -1;rcases a2 with z |z<;>rcases i2 with w |w<;>rw[z,w]<;>decide
  ·rw[fw,i3,if_neg (by omega)];rfl
theorem m6(x y:Rat):∀a b,cnt (a++b) x y=cnt a x y+cnt b x y
 | [],b=>by rw[Dl];simp
 |s::a,b=>by rw[List.cons_append,fw,fw,m6 x y a b];omega
theorem Dm{f:Rat->Rat}{S:List (Rat->Int)}{ε:Int}(hε:ε=1\/ε = -1)(hS:∀s∈S,Cut s){x y:Rat}(hxy:x<y)(hx:sgR (f x)=ε*cpr x S)(hy:sgR (f y)=ε*cpr y S)(hp:S.Pairwise λs t=>¬(inC s x y/\inC t x y)):chg f x y=cnt S x y:=by
 by_cases hall:∀s∈S,¬inC s x y
 ·obtain⟨k1,k2,k3⟩:=mj hxy hS hall;rw[k3];unfold chg;rw[if_neg];rintro⟨_,h2⟩;exact h2 (by rw[hx,hy,k1])
 ·obtain⟨s,hs,hin⟩:∃s,s∈S/\inC s x y:=by refine Classical.byContradiction λz=>hall λs hs hi=>z ⟨s,hs,hi⟩
  obtain⟨pre,post,rfl⟩:=List.append_of_mem hs
  have hno:∀t∈pre++post,¬inC t x y:=λt ht hi=>by
   rw[List.pairwise_append]at hp;rcases HK.mp ht with z |z
   ·exact hp.2.2 t z s (GY ..) ⟨hi,hin⟩
   ·exact(List.pairwise_cons.mp hp.2.1).1 t z ⟨hin,hi⟩
  have hS':∀t∈pre++post,Cut t:=λt ht=>hS t (by
   rcases HK.mp ht with z |z
   ·exact Ig _ z
   ·exact Ht _ (GU _ z))
  obtain⟨k1,k2,k3⟩:=mj hxy hS' hno;have hc:=hS s hs
  have e1:∀z,cpr z (pre++s::post)=cpr z (pre++post) * -s z:=λz=>by rw[m5,m5];show cpr z pre*(-s z*cpr z post)=_;rw[Hv (-s z),HP]
  have e2:cnt (pre++s::post) x y=(if 0<s x/\s y<=0 then 1 else 0):=by rw[m6,fw];rw[m6]at k3;omega
  rw[e1]at hx hy;rw[<- k1]at hy;rw[e2];unfold inC at hin
  have h1:=hc.u x;have h2:=hc.u y;unfold chg;rw[hx,hy];generalize cpr x (pre++post)=c at *
  have hs0:s x=0->s y = -1:=λz=>hc.m x y hxy (by omega)
  rcases h1 with a |a |a
  ·rw[a];rcases h2 with b |b |b
   ·omega
   ·rw[b];rcases hε with rfl |rfl<;>rcases k2 with rfl |rfl<;>simp
   ·rw[b];rcases hε with rfl |rfl<;>rcases k2 with rfl |rfl<;>simp
  ·rw[a];simp
  ·omega
theorem vv(q:Rat):∃n:Nat,q<=(n:Rat):=by refine⟨q.ceil.toNat,Rat.le_trans (Rat.le_ceil (x:=q)) ?_⟩;have h:q.ceil<=(q.ceil.toNat:Int):=Int.self_le_toNat _;have h2:=Rat.intCast_le_intCast.mpr h;exact h2
theorem Ah(n:Nat):(n:Rat)<=2^n:=by
 induction n with
 |zero=>decide
 |succ n ih =>
  have h1:((1:Nat):Rat)<=2^n:=by
   have:(1:Nat)<=2^n:=Nat.pow_pos (by decide);have h2:((1:Nat):Rat)<=((2^n:Nat):Rat):=Rat.natCast_le_natCast.mpr this
   rwa [Rat.natCast_pow]at h2
  rw[Rat.pow_succ,Rat.natCast_add];grind
theorem ny{V:Rat->Int}{S:List (Rat->Int)}(hS:∀s∈S,Cut s){R δ:Rat}(hδ:0<δ)(h:∀x y,Bd R x->Bd R y->x<y->y-x<=δ->V x-V y=cnt S x y):∀(n:Nat) (x y:Rat),Bd R x->Bd R y->x<y->y-x<=2^n*δ->V x-V y=cnt S x y
 |0,x,y,hx,hy,hxy,hd=>h x y hx hy hxy (by rw[Rat.pow_zero]at hd;grind)
 |n+1,x,y,hx,hy,hxy,hd=>by
  have m1:x<(x+y)/2:=by grind
  have m2:(x+y)/2<y:=by grind
  have hm:Bd R ((x+y)/2):=by obtain⟨a,b⟩:=hx;obtain⟨c,d⟩:=hy;constructor<;>grind
  rw[Rat.pow_succ]at hd;have i1:=ny hS hδ h n x ((x+y)/2) hx hm m1 (by grind);have i2:=ny hS hδ h n ((x+y)/2) y hm hy m2 (by grind);rw[uP m1 m2 hS];omega
theorem wA{F0 F1:List Int}{r:List (List Int)}(h:SRow (F0::F1::r)){γ:Rat}(hγ:0<γ)(hd:∀x,pv (slopeL F0) x=γ*pv F1 x){S:List (Rat->Int)}(hS:∀s∈S,Cut s){ε:Int}(hε:ε=1\/ε = -1)(hf:∀x,sgR (pv F0 x)=ε*cpr x S)
 {δ0:Rat} (hδ0:0<δ0) (hp:∀x y,x<y->y-x<=δ0->S.Pairwise λs t=>¬(inC s x y/\inC t x y)) {x y:Rat} (hxy:x<y):vrs (F0::F1::r) x-vrs (F0::F1::r) y=cnt S x y:=by
 obtain⟨R,hR,hx,hy⟩:∃R:Rat,0<=R/\Bd R x/\Bd R y:=by
  have ab:∀v:Rat,∃w:Rat,0<=w/\Bd w v:=λv=>by
   rcases HE (a:=0) (b:=v)with z |z
   ·exact⟨v,z,by grind,by grind⟩
   ·exact⟨-v,by grind,by grind,by grind⟩
  obtain⟨u,u0,u1⟩:=ab x;obtain⟨v,v0,v1⟩:=ab y;exact⟨u+v,by grind,u1.mono (by grind),v1.mono (by grind)⟩
 obtain⟨δ1,d1,l1⟩:=wz h hγ hd hR
 obtain⟨δ,hδ,g1,g2⟩:∃δ:Rat,0<δ/\δ<=δ0/\δ<=δ1:=by
  rcases HE (a:=δ0) (b:=δ1)with z |z
  ·exact⟨δ0,hδ0,Rat.le_refl,z⟩
  ·exact⟨δ1,d1,z,Rat.le_refl⟩
 obtain⟨n,hn⟩:=vv ((y-x)/δ);refine ny hS hδ (R:=R) (λx y hx hy hxy hdd=>?_) n x y hx hy hxy ?_
 ·rw[l1 x y hx hy hxy (by grind)];exact Dm hε hS hxy (hf x) (hf y) (hp x y hxy (by grind))
 ·have h1:(y-x)/δ<=2^n:=Rat.le_trans hn (Ah n);have h2:=Hn h1 (GV hδ)
  rwa [Hh (by grind)]at h2
theorem mD{n:Int}(hn:n≠0):(n:Rat)≠0:=λz=>hn (IQ.mp (show((n:Int):Rat)=((0:Int):Rat) by rw[z];rfl))
theorem rM(q:Rat):(q.num:Rat)=q*((q.den:Int):Rat):=by
 have hd:((q.den:Int):Rat)≠0:=mD (by have:=q.den_pos;omega)
 have hx:(q.num:Rat)/((q.den:Int):Rat)=q:=by have:=Rat.mkRat_self q;rw[Rat.mkRat_eq_div]at this;exact this
 have:=Hh (a:=(q.num:Rat)) hd;rw[hx]at this;exact this.symm
theorem qM{t n:Int}(hn:0<n):((t:Rat)/(n:Rat)).num*n=t*(((t:Rat)/(n:Rat)).den:Int):=by
 have hn':(n:Rat)≠0:=mD (by omega);have hq:(t:Rat)/(n:Rat)*(n:Rat)=(t:Rat):=Hh hn';generalize (t:Rat)/(n:Rat)=q at hq ⊢
 apply IQ.mp;rw[Hg,Hg,rM q,<- hq];grind
theorem cT{t n t' n':Int}(hn:0<n)(hn':0<n'):(t:Rat)/(n:Rat)<(t':Rat)/(n':Rat)↔t*n'<t'*n:=by
 have p1:(0:Rat)<(n:Rat):=Hi.mpr hn;have p2:(0:Rat)<(n':Rat):=Hi.mpr hn';have e1:(t:Rat)/(n:Rat)*(n:Rat)=(t:Rat):=Hh (by grind);have e2:(t':Rat)/(n':Rat)*(n':Rat)=(t':Rat):=Hh (by grind);generalize (t:Rat)/(n:Rat)=q at e1 ⊢
 generalize (t':Rat)/(n':Rat)=q' at e2 ⊢
 rw[<- Hi,Hg,Hg,<- e1,<- e2];have p3:=Hr p1 p2;have e3:q*(n:Rat)*(n':Rat)=q*((n:Rat)*(n':Rat)):=by grind
 have e4:q'*(n':Rat)*(n:Rat)=q'*((n:Rat)*(n':Rat)):=by grind
 rw[e3,e4];constructor
 ·intro h;exact IR h p3
 ·intro h;refine Ie.mp λz=>?_
  have:=Hn z (GV p3);grind
theorem qw{p v:Rat}(hp:0<p):sgR (p*v)=sgR v:=by
 rcases bN v with⟨a,b⟩ |⟨a,b⟩ |⟨a,b⟩
 ·have:p*v<0:=by have:=Hr hp (show 0 < -v by grind);grind
  rcases bN (p*v)with⟨_,d⟩ |⟨c,d⟩ |⟨c,d⟩
  ·rw[b,d]
  ·grind
  ·grind
 ·rw[a];have:p*0=0:=by grind
  rw[this]
 ·have:=Hr hp a;rcases bN (p*v)with⟨c,d⟩ |⟨c,d⟩ |⟨_,d⟩
  ·grind
  ·grind
  ·rw[b,d]
theorem xa(z:Int):sgR (z:Rat)=sg z:=by
 rcases bN (z:Rat)with⟨a,b⟩ |⟨a,b⟩ |⟨a,b⟩
 ·have:z<0:=Hi.mp a;rw[b];unfold sg;rw[if_pos this]
 ·have:z=0:=IQ.mp a;rw[this];rfl
 ·have:0<z:=Hi.mp a;rw[b];unfold sg;rw[if_neg (by omega),if_pos this]
theorem tI{t n:Int}(hn:0<n):∀l:List Int,(hv t n l:Rat)=(n:Rat)^l.length*pv l ((t:Rat)/(n:Rat))
 | []=>by show((0:Int):Rat)=_*0;grind
 |c::l=>by
  have hn':(n:Rat)≠0:=mD (by omega);have hq:(t:Rat)/(n:Rat)*(n:Rat)=(t:Rat):=Hh hn';rw[cY,HR,Hg,Hg,tI hn l,Rat.intCast_pow];show _=(n:Rat)^(l.length+1)*((c:Rat)+(t:Rat)/(n:Rat)*pv l ((t:Rat)/(n:Rat)));rw[Rat.pow_succ];generalize hqq:(t:Rat)/(n:Rat)=q at *
  rw[<- hq];grind
theorem dq{t n:Int}(hn:0<n)(l:List Int):sg (hv t n l)=sgR (pv l ((t:Rat)/(n:Rat))):=by rw[<- xa,tI hn];exact qw (Rat.pow_pos (Hi.mpr hn))
def Cop2(a b:List Int):Prop:=∀d,d≠[]->Tr d->Dv d a->Dv d b->d.length<=1
theorem rL{one other:List Int}(ho:other≠[]):∀n,aS one other*cf one n=ao (aT one other) other n-(ak (aZ [] (aA one other)):Int)*cf (nxt one other) n:=λn=>by
 have h1:=d9 (a:=one) ho n;have e:nxt one other=ah (aZ [] (aA one other)):=by unfold nxt rst;rw[if_neg ho]
 have h2:=congrArg (λl=>cf l n) (gA (l:=aZ [] (aA one other)));simp only[bv]at h2
 have h3:cf (aZ [] (aA one other)) n = -cf (aA one other) n:=by rw[iy (d7 _ _),bv];omega
 rw[e,h2,h3,h1];omega
theorem oQ(one other:List Int):Tr (nxt one other):=by unfold nxt;exact c7 (by unfold aZ;exact cL _)
theorem lF{one other:List Int}(ho:other≠[]):(nxt one other).length<other.length:=by
 have h1:=d8 (a:=one) ho;unfold nxt rst;rw[if_neg ho,iy (d7 _ _)]
 have h2:(ah (scL (-1) (aA one other))).length<=(scL (-1) (aA one other)).length:=by unfold ah;rw[GO];exact GP _
 rw[bX]at h2;omega
theorem mf{l:List Int}(h:l.length<=1)(hne:l≠[]):∃c,l=[c]:=List.length_eq_one_iff.mp (by have:=GQ.mpr hne;omega)
theorem li:∀(n:Nat) (one other:List Int),other.length<=n->Tr one->one≠[]->Tr other->Cop2 one other->SRow (aF (n+1) one other)
 |0,one,other,hl,to,no,tt,hc=>by have e0:other=[]:=IP (Iu.mp hl);subst e0;have h1:=hc one no to (Dv.refl _) (Dv.nil _);obtain⟨c,rfl⟩:=mf h1 no;show SRow (if([c]:List Int)=[]then _ else[c]::aF 0 [] (nxt [c] []));rw[if_neg no];exact .last (tr_snoc (r:=[]) |>.mp to)
 |n+1,one,other,hl,to,no,tt,hc=>by
  have e:aF (n+1+1) one other=one::aF (n+1) other (nxt one other):=by show(if one=[]then _ else _)=_;rw[if_neg no]
  rw[e];by_cases ho:other=[]
  ·subst ho;have h1:=hc one no to (Dv.refl _) (Dv.nil _);obtain⟨c,rfl⟩:=mf h1 no;rw[eU];exact .last (tr_snoc (r:=[]) |>.mp to)
  have hs:=rL (one:=one) ho;have hlen:=lF (one:=one) ho;have tn:=oQ one other;have fp:0<aS one other:=uC ho tt;by_cases hn:nxt one other=[]
  ·
   have hdv:Dv other one:=⟨aS one other,aT one other,by omega,λk=>by rw[hs k,hn,bQ];omega⟩;have h1:=hc other ho tt hdv (Dv.refl _);obtain⟨c,rfl⟩:=mf h1 ho;rw[hn,xJ ho (by omega)];exact .two (tr_snoc (r:=[]) |>.mp tt)
  ·have hc2:Cop2 other (nxt one other):=λd dn dt h1 h2=>by
    refine hc d dn dt ?_ h1;refine Dv.up (f:=aS one other) (q:=aT one other) (r:=scL (-(ak (aZ [] (aA one other)):Int)) (nxt one other)) (by omega) (λk=>?_) h1 ?_
    ·rw[hs k,bv,Int.neg_mul];omega
    ·exact Dv.prop_right (x:=1) (y := -(ak (aZ [] (aA one other)):Int)) (by decide) (λk=>by rw[bv];omega) h2
   have ih:=li n other (nxt one other) (by omega) tt ho tn hc2;have e2:aF (n+1) other (nxt one other)=other::aF n (nxt one other) (nxt other (nxt one other)):=by show(if other=[]then _ else _)=_;rw[if_neg ho]
   have n1:0<n:=by have:=GQ.mpr hn;omega
   obtain⟨m,rfl⟩:∃m,n=m+1:=⟨n-1,by omega⟩;have e3:aF (m+1) (nxt one other) (nxt other (nxt one other))=nxt one other::aF m (nxt other (nxt one other)) (nxt (nxt one other) (nxt other (nxt one other))):=by show(if nxt one other=[]then _ else _)=_;rw[if_neg hn]
   rw[e2,e3]at ih ⊢
   have gp:0<(ak (aZ [] (aA one other)):Int):=by
    rcases Nat.eq_zero_or_pos (ak (aZ [] (aA one other)))with z |z
    ·exfalso;apply hn;refine lK tn λk=>?_
     have e:nxt one other=ah (aZ [] (aA one other)):=by unfold nxt rst;rw[if_neg ho]
     rw[e];unfold ah;rw[z];unfold cf;simp[List.getD];cases(aZ [] (aA one other))[k]? with
     |none=>rfl
     |some v=>simp
    ·omega
   refine .cons (q:=aT one other) (α:=(aS one other:Rat)) (β:=((ak (aZ [] (aA one other)):Int):Rat)) (Hi.mpr fp) (Hi.mpr gp) (λx=>?_) ih;have h1:=gE (a:=one) (c:=scL (aS one other) one) (u:=aS one other) x λk=>bv _ _ _
   have h2:=ra x (aT one other) other (ae (aT one other) other) (aE _ _);have h3:=iS (a:=ae (aT one other) other) (b:=nxt one other) (c:=scL (aS one other) one) (u:=1) (v := -(ak (aZ [] (aA one other)):Int)) x λk=>by rw[bv,hs k,aE,Int.neg_mul];omega
   rw[<- h1,h3,h2,Rat.intCast_neg];show((1:Int):Rat)*_+_=_;grind
theorem ly{ss:List (List Int)}(h:∀s∈ss,Pri s):bF [1] ss=prd ss:=by unfold bF;rw[tW,one_mul _ (gG ss λs hs=>(h s hs).pln).tr]
theorem fj{f:List Int}(h:FacG f):Pri (ay f):=by obtain⟨u,e,b,rfl,_,_,_,_,h5,_,h7⟩:=h;exact xT h5 h7
theorem uj:∀us:List (List Int×Nat),fP (λ_=>0) us=[1]
 | []=>rfl
 |p::us=>by rw[dg,uj us];rfl
theorem fK{l:List Int}(h:Tr l)(hne:l≠[]):0<(ak l:Int)/\Tr (ah l)/\ah l≠[]/\∀n,cf l n=(ak l:Int)*cf (ah l) n:=by
 have e:=gA (l:=l)
 have ec:∀n,cf l n=(ak l:Int)*cf (ah l) n:=λn=>by have:=congrArg (λz=>cf z n) e;simp only[bv]at this;exact this.symm
 have hl:(ah l).length=l.length:=by unfold ah;rw[GO]
 refine⟨?_,c7 h,λz=>by rw[z]at hl;exact hne (IP hl.symm),ec⟩;rcases Nat.eq_zero_or_pos (ak l)with z |z
 ·exfalso;refine hne (lK h λk=>?_);rw[ec k,z];simp
 ·omega
theorem Cop2.shr{a b:List Int}(h:Cop2 a b)(ha:Tr a)(hna:a≠[])(hb:Tr b):Cop2 (ah a) (ah b):=λd dn dt h1 h2=>by
 obtain⟨_,_,_,ea⟩:=fK ha hna;refine h d dn dt (Dv.prop_right (x:=1) (y:=(ak a:Int)) (by decide) (λn=>by rw[ea n];omega) h1) ?_;by_cases hnb:b=[]
 ·rw[hnb];exact Dv.nil _
 ·obtain⟨_,_,_,eb⟩:=fK hb hnb;exact Dv.prop_right (x:=1) (y:=(ak b:Int)) (by decide) (λn=>by rw[eb n];omega) h2
noncomputable def sdR(l:List Int)(x:Rat):Int:=aU l x.num x.den
theorem bH(x:Rat):0<(x.den:Int):=by have:=x.den_pos;omega
theorem iH(l:List Int){t n:Int}(hn:0<n):sdR l ((t:Rat)/(n:Rat))=aU l t n:=by unfold sdR;exact wM l (bH _) hn (qM hn)
theorem fM{l:List Int}(h:Spt l):Cut (sdR l):=by
 refine⟨λx=>?_,λx y hxy hs=>?_⟩
 ·rcases qm l x.num x.den with z |z |z
  ·exact .inl z
  ·exact .inr (.inl z)
  ·exact .inr (.inr z)
 ·exact wL h (bH x) (bH y) ((Rat.lt_iff x y).mp hxy) hs
theorem mZ(x:Rat):∀ls:List (List Int),cpr x (ls.map sdR)=spr x.num x.den ls
 | []=>rfl
 |l::ls=>by show -sdR l x*_ = -aU l x.num x.den*_;rw[mZ x ls];rfl
theorem gg(x:Rat):(x.num:Rat)/((x.den:Int):Rat)=x:=by have:=Rat.mkRat_self x;rw[Rat.mkRat_eq_div]at this;exact this
theorem vw{l l':List Int}(hl:Spt l)(hl':Spt l')(h:vM l l'){x y:Rat}(hxy:x<y)(hd:y-x<=1/2^200):¬(inC (sdR l) x y/\inC (sdR l') x y):=by
 rintro⟨h1,h2⟩;have hD:(0:Rat)<2^200:=Rat.pow_pos (by decide);have hDi:((2^200:Int):Rat)=2^200:=Rat.intCast_pow 2 200;have f1:=Rat.floor_le (x*2^200);have f2:=Rat.lt_floor_add_one (x*2^200);rw[HR]at f2
 have hd2:(y-x)*2^200<=1:=by
  have:=Hn hd (GV hD)
  rwa [Hh (by grind)]at this
 have key:∀k:List Int,Spt k->inC (sdR k) x y->inS k ((x*2^200).floor-1) ((x*2^200).floor-1+128) (2^200):=λk hk hi=>by
  have hc:=fM hk
  have eA:((((x*2^200).floor-1:Int)):Rat)/((2^200:Int):Rat)*2^200=((x*2^200).floor:Rat)-1:=by rw[hDi,Hh (by grind),IS];rfl
  have eB:((((x*2^200).floor-1+128:Int)):Rat)/((2^200:Int):Rat)*2^200=((x*2^200).floor:Rat)-1+128:=by rw[hDi,Hh (by grind),HR,IS];rfl
  constructor
  ·rw[<- iH k (by decide)];generalize ((((x*2^200).floor-1:Int)):Rat)/((2^200:Int):Rat)=a at *
   have hax:a<x:=by
    refine Ie.mp λz=>?_
    have:=Hn z (GV hD);grind
   rcases ID 0 (sdR k a)with w |w
   ·exact w
   ·have h3:=hc.m a x hax w;have h4:=hi.1;omega
  ·rw[<- iH k (by decide)];generalize ((((x*2^200).floor-1+128:Int)):Rat)/((2^200:Int):Rat)=b at *
   have hby:y<b:=by
    refine Ie.mp λz=>?_
    have:=Hn z (GV hD);have e1:((1:Int):Rat)=1:=rfl;grind
   have h3:=hc.m y b hby hi.2;omega
 exact h _ _ _ (HV _) rfl (key l hl h1) (key l' hl' h2)
noncomputable def sgv(row:List (List Int))(t n:Int):List Int:=row.map λf=>sg (hv t n f)
theorem qp{t n:Int}(hn:0<n)(row:List (List Int)):sgv row t n=sgX row ((t:Rat)/(n:Rat)):=by unfold sgv sgX;exact Ib λf _=>dq hn f
theorem nS(v:Rat):∃w:Rat,0<=w/\Bd w v:=by
 rcases HE (a:=0) (b:=v)with z |z
 ·exact⟨v,z,by grind,by grind⟩
 ·exact⟨-v,by grind,by grind,by grind⟩
theorem mR(u b:Int)(x:Rat):((b*x.num-u*(x.den:Int):Int):Rat)=((b:Rat)*x-(u:Rat))*((x.den:Int):Rat):=by rw[IS,Hg,Hg,rM x];grind
theorem Ac(u b:Int)(x:Rat):b*x.num-u*(x.den:Int)<0↔(b:Rat)*x-(u:Rat)<0:=by
 have hd:(0:Rat)<((x.den:Int):Rat):=Hi.mpr (bH x);rw[<- Hi,mR];constructor
 ·intro h;refine Ie.mp λz=>?_
  have:=G3 z (GV hd);have e:((0:Int):Rat)=0:=rfl;grind
 ·intro h;have:=Hr (show 0 < -((b:Rat)*x-(u:Rat)) by grind) hd;have e:((0:Int):Rat)=0:=rfl;grind
theorem o7(u e b:Int)(x:Rat):((b*x.num-u*(x.den:Int))*(b*x.num-u*(x.den:Int))<e*(x.den:Int)*(x.den:Int)↔((b:Rat)*x-(u:Rat))*((b:Rat)*x-(u:Rat))<(e:Rat))/\(e*(x.den:Int)*(x.den:Int)<(b*x.num-u*(x.den:Int))*(b*x.num-u*(x.den:Int))↔(e:Rat)<((b:Rat)*x-(u:Rat))*((b:Rat)*x-(u:Rat))):=by
 have hd:(0:Rat)<((x.den:Int):Rat):=Hi.mpr (bH x);have hdd:=Hr hd hd;have e1:(((b*x.num-u*(x.den:Int))*(b*x.num-u*(x.den:Int)):Int):Rat)=((b:Rat)*x-(u:Rat))*((b:Rat)*x-(u:Rat))*(((x.den:Int):Rat)*((x.den:Int):Rat)):=by rw[Hg,mR];grind
 have e2:((e*(x.den:Int)*(x.den:Int):Int):Rat)=(e:Rat)*(((x.den:Int):Rat)*((x.den:Int):Rat)):=by rw[Hg,Hg];grind
 have key:∀p q:Rat,(p*(((x.den:Int):Rat)*((x.den:Int):Rat))<q*(((x.den:Int):Rat)*((x.den:Int):Rat)))↔p<q:=λp q=>⟨λh=>Ie.mp λz=>by
  have:=Hn z (GV hdd)
  grind,λh=>IR h hdd⟩
 constructor
 ·rw[<- Hi,e1,e2,key]
 ·rw[<- Hi,e1,e2,key]
theorem oH{u e b:Int}(x:Rat):(0<sdR [u,e,b,1] x↔(b:Rat)*x-(u:Rat)<0\/((b:Rat)*x-(u:Rat))*((b:Rat)*x-(u:Rat))<(e:Rat)):=by have h:sdR [u,e,b,1] x=aX (e*(x.den:Int)*(x.den:Int)) (b*x.num-u*(x.den:Int)):=rfl;rw[h,<- Ac,<- (o7 u e b x).1];rcases bL (e*(x.den:Int)*(x.den:Int)) (b*x.num-u*(x.den:Int))with⟨z,w⟩ |⟨z,w⟩ |⟨z,w⟩<;>rw[z]<;>omega
theorem oI{u e b:Int}(x:Rat):(0<sdR [u,e,b,-1] x↔(b:Rat)*x-(u:Rat)<=0/\(e:Rat)<((b:Rat)*x-(u:Rat))*((b:Rat)*x-(u:Rat))):=by
 have h:sdR [u,e,b,-1] x=0-aX (e*(x.den:Int)*(x.den:Int)) (0-(b*x.num-u*(x.den:Int))):=rfl;have e1:(0-(b*x.num-u*(x.den:Int)))*(0-(b*x.num-u*(x.den:Int)))=(b*x.num-u*(x.den:Int))*(b*x.num-u*(x.den:Int)):=by grind
 have hle:(b:Rat)*x-(u:Rat)<=0↔0<=0-(b*x.num-u*(x.den:Int)):=by
  have hd:(0:Rat)<((x.den:Int):Rat):=Hi.mpr (bH x);have e3:=mR u b x;constructor
  ·intro h
   have:¬(0<b*x.num-u*(x.den:Int)):=λz=>by have z':=Hi.mpr z;rw[e3]at z';have:=G3 (show 0 <= -((b:Rat)*x-(u:Rat)) by grind) (GV hd);have e:((0:Int):Rat)=0:=rfl;grind
   omega
  ·intro h;refine HF.mp λz=>?_
   have:=Hr z hd;rw[<- e3]at this;have:=Hi.mp (show((0:Int):Rat)<_ from this);omega
 rw[h,hle,<- (o7 u e b x).2];rcases bL (e*(x.den:Int)*(x.den:Int)) (0-(b*x.num-u*(x.den:Int)))with⟨z,w⟩ |⟨z,w⟩ |⟨z,w⟩<;>rw[z]<;>rw[e1]at w<;>omega
structure Two(u e b x y x' y':Rat):Prop where
 xp:b*x-u<0\/(b*x-u)*(b*x-u)<e
 yp:0<=b*y-u/\e<=(b*y-u)*(b*y-u)
 xm:b*x'-u<=0/\e<(b*x'-u)*(b*x'-u)
 ym:0<b*y'-u\/(b*y'-u)*(b*y'-u)<=e
theorem xF{a c:Rat}(hc:0<=c)(h:a*a<c*c):a<c:=Ie.mp λz=>by have:=G3 (show 0<=a-c by grind) (show 0<=a+c by grind);grind
theorem xG{a c:Rat}(hc:0<=c)(h:a*a<=c*c):a<=c:=HF.mp λz=>by have:=Hr (show 0<a-c by grind) (show 0<a+c by grind);grind
theorem Two.sum{u e b x y x' y':Rat}(h:Two u e b x y x' y'):2*u<=b*(y+y')/\b*(x+x')<2*u:=by
 obtain⟨xp,yp,xm,ym⟩:=h;constructor
 ·rcases ym with z |z
  ·grind
  ·have : -(b*y'-u)<=b*y-u:=xG yp.1 (by grind);grind
 ·rcases xp with z |z
  ·grind
  ·have:b*x-u < -(b*x'-u):=xF (by grind) (by grind);grind
noncomputable def ev(t:Int):List Int->Int
 | []=>0
 |v::l=>v+t*ev t l
noncomputable def nrm(m a b c:Int):Int:=a*a*a+m*(b*b*b)+m*m*(c*c*c)-3*m*(a*b*c)
theorem lG(m a b c:Int):nrm m (-a) (-b) (-c) = -nrm m a b c:=by unfold nrm;grind
theorem zU(m g a b c:Int):nrm m (g*a) (g*b) (g*c)=g*g*g*nrm m a b c:=by unfold nrm;grind
theorem rN(m a:Int):nrm m a 0 0=a*a*a:=by unfold nrm;grind
theorem zW(A B C:Rat):(A+B+C)*((A-B)*(A-B)+(B-C)*(B-C)+(C-A)*(C-A))=2*(A*A*A+B*B*B+C*C*C-3*(A*B*C)):=by grind
theorem rsq(x:Rat):0<=x*x:=by
 rcases HE (a:=0) (b:=x)with y |y
 ·exact G3 y y
 ·have:0 <= -x:=by grind
  have:=G3 this this;grind
theorem yh{x y:Rat}(hy:0<=y)(h:0<x*y):0<x:=Ie.mp λz=>by have:=G3 (show 0 <= -x by grind) hy;grind
theorem rle{a b:Int}(h:a<=b):(a:Rat)<=(b:Rat):=Rat.intCast_le_intCast.mpr h
theorem lH{m a b c:Int}(h:0<nrm m a b c):∃ε:Rat,0<ε/\∀Z:Rat,Bd ε (Z*Z*Z-(m:Rat))->0<(a:Rat)+b*Z+c*(Z*Z):=by
 obtain⟨p,p0,hp⟩:=nS ((b:Rat)*b*b-3*((a:Rat)*b*c));obtain⟨r,r0,hr⟩:=nS ((c:Rat)*c*c);obtain⟨μ,μ0,hμ⟩:=nS (2*(m:Rat))
 have K0:0<=p+(μ+1)*r:=by have:=G3 (show 0<=μ+1 by grind) r0;grind
 have hn:(1:Rat)<=(a:Rat)*a*a+m*((b:Rat)*b*b)+m*m*((c:Rat)*c*c)-3*m*((a:Rat)*b*c):=by
  have h1:(1:Int)<=nrm m a b c:=by omega
  have h2:=rle h1;unfold nrm at h2
  simp only[IS,HR,Hg]at h2;exact h2
 obtain⟨K,eK⟩:∃K,p+(μ+1)*r=K:=⟨_,rfl⟩;rw[eK]at K0;have k1:0<2*(K+1):=by grind
 have k2:1/(2*(K+1))*(2*(K+1))=1:=Hh (by grind);have e0:0<1/(2*(K+1)):=by rw[Rat.div_def,Rat.one_mul];exact Rat.inv_pos.mpr k1
 generalize 1/(2*(K+1))=ε at k2 e0
 have eK0:0<=ε*K:=G3 (GV e0) K0;have e1:ε<=1/2:=by grind
 have e2:ε*K<=1/2:=by grind
 refine⟨ε,e0,λZ hZ=>?_⟩;have d1:Bd (1:Rat) (Z*Z*Z-(m:Rat)):=hZ.mono (by grind);have d2:=hμ.add d1;have d3:=d2.mul hr;have d4:=hp.add d3;rw[eK]at d4;have d5:=hZ.mul d4;have d6:=d5.1;refine yh (y:=((a:Rat)-b*Z)*((a:Rat)-b*Z)+((b:Rat)*Z-c*(Z*Z))*((b:Rat)*Z-c*(Z*Z))+((c:Rat)*(Z*Z)-a)*((c:Rat)*(Z*Z)-a)) ?_ ?_
 ·have:=rsq ((a:Rat)-b*Z);have:=rsq ((b:Rat)*Z-c*(Z*Z));have:=rsq ((c:Rat)*(Z*Z)-a);grind
 ·rw[zW];have e3:(a:Rat)*a*a+(b:Rat)*Z*((b:Rat)*Z)*((b:Rat)*Z)+(c:Rat)*(Z*Z)*((c:Rat)*(Z*Z))*((c:Rat)*(Z*Z))-3*((a:Rat)*((b:Rat)*Z)*((c:Rat)*(Z*Z)))=((a:Rat)*a*a+m*((b:Rat)*b*b)+m*m*((c:Rat)*c*c)-3*m*((a:Rat)*b*c))+(Z*Z*Z-(m:Rat))*((b:Rat)*b*b-3*((a:Rat)*b*c)+(2*(m:Rat)+(Z*Z*Z-(m:Rat)))*((c:Rat)*c*c)):=by grind
  rw[e3];generalize (Z*Z*Z-(m:Rat))*((b:Rat)*b*b-3*((a:Rat)*b*c)+(2*(m:Rat)+(Z*Z*Z-(m:Rat)))*((c:Rat)*c*c))=D at d6 ⊢
  generalize (a:Rat)*a*a+m*((b:Rat)*b*b)+m*m*((c:Rat)*c*c)-3*m*((a:Rat)*b*c)=N at hn ⊢
  grind
theorem Da(X:Nat):∃k:Nat,k*k*k<=X/\X<(k+1)*(k+1)*(k+1):=by
 induction X with
 |zero=>exact⟨0,by decide,by decide⟩
 |succ X ih =>
  obtain⟨k,h1,h2⟩:=ih;by_cases h:(k+1)*(k+1)*(k+1)<=X+1
  ·refine⟨k+1,h,?_⟩;have e:(k+1+1)*(k+1+1)*(k+1+1)=(k+1)*(k+1)*(k+1)+3*((k+1)*(k+1))+3*(k+1)+1:=by grind
   omega
  ·exact⟨k,by omega,by omega⟩
theorem C4{m:Nat}(hm:0<m){ε:Rat}(hε:0<ε):∃Z:Rat,0<=Z/\Bd ε (Z*Z*Z-((m:Int):Rat)):=by
 obtain⟨n0,hn0⟩:=vv (6*((m:Rat)*(m:Rat))/ε)
 obtain⟨n,hn,n1⟩:∃n:Nat,6*((m:Rat)*(m:Rat))<=ε*(n:Rat)/\1<=n:=by
  refine⟨n0+1,?_,by omega⟩;have e:6*((m:Rat)*(m:Rat))/ε*ε=6*((m:Rat)*(m:Rat)):=Hh (by grind);have h1:=Hn hn0 (GV hε);rw[e]at h1;have h2:((n0+1:Nat):Rat)=(n0:Rat)+1:=by simp
  rw[h2];grind
 obtain⟨k,k1,k2⟩:=Da (m*(n*n*n))
 have kq:k<=m*n:=Nat.not_lt.mp λz=>by
  have h1:(m*n+1)*(m*n+1)*(m*n+1)<=k*k*k:=IM (IM z z) z
  have h2:m*(n*n*n)<=m*n*(m*n)*(m*n):=by
   have:m*(n*n*n)*1<=m*(n*n*n)*(m*m):=IF _ (Nat.mul_pos hm hm);have e:m*n*(m*n)*(m*n)=m*(n*n*n)*(m*m):=by grind
   omega
  have h3:m*n*(m*n)*(m*n)<(m*n+1)*(m*n+1)*(m*n+1):=by
   have e:(m*n+1)*(m*n+1)*(m*n+1)=m*n*(m*n)*(m*n)+3*(m*n*(m*n))+3*(m*n)+1:=by grind
   omega
  omega
 have gap:m*(n*n*n)<=k*k*k+6*(m*n*(m*n)):=by
  have e:(k+1)*(k+1)*(k+1)=k*k*k+3*(k*k)+3*k+1:=by grind
  have h1:k*k<=m*n*(m*n):=IM kq kq;have h2:m*n*1<=m*n*(m*n):=IF _ (Nat.mul_pos hm n1);omega
 have np:(0:Rat)<(n:Rat):=by have:=rle (show(1:Int)<=((n:Nat):Int) by omega);have e:(((n:Nat):Int):Rat)=(n:Rat):=rfl;grind
 have c1:(k:Rat)*k*k<=(m:Rat)*((n:Rat)*n*n):=by have:=rle (show((k*k*k:Nat):Int)<=((m*(n*n*n):Nat):Int) by omega);simp only[IL,Hg]at this;exact this
 have c2:(m:Rat)*((n:Rat)*n*n)<=(k:Rat)*k*k+6*((m:Rat)*n*((m:Rat)*n)):=by have:=rle (show((m*(n*n*n):Nat):Int)<=((k*k*k+6*(m*n*(m*n)):Nat):Int) by omega);simp only[IL,Int.natCast_add,Hg,HR]at this;exact this
 have ez:(k:Rat)/(n:Rat)*(n:Rat)=(k:Rat):=Hh (by grind)
 have z0:0<=(k:Rat)/(n:Rat):=by rw[Rat.div_def];refine G3 ?_ (GV (Rat.inv_pos.mpr np));exact rle (show(0:Int)<=((k:Nat):Int) by omega)
 have em:(((m:Nat):Int):Rat)=(m:Rat):=rfl;rw[em];generalize (k:Rat)/(n:Rat)=Z at ez z0
 refine⟨Z,z0,?_⟩;have n3:0<(n:Rat)*n*n:=Hr (Hr np np) np;have e3:Z*Z*Z*((n:Rat)*n*n)=(k:Rat)*k*k:=by rw[<- ez];grind
 have h6:6*((m:Rat)*n*((m:Rat)*n))<=ε*((n:Rat)*n*n):=by have:=Hn hn (GV (Hr np np));grind
 constructor
 ·refine HF.mp λz=>?_
  have:=IR z n3;grind
 ·refine HF.mp λz=>?_
  have:=IR z n3;have:=Hr hε n3;grind
def NCb(m:Int):Prop:=0<m/\∀a b c:Int,nrm m a b c=0->a=0/\b=0/\c=0
theorem zY{m:Int}(hm:NCb m){a b c a' b' c':Int}(h:0<nrm m a b c)(h':0<nrm m a' b' c'):0<nrm m (a+a') (b+b') (c+c'):=by
 obtain⟨ε1,p1,q1⟩:=lH h;obtain⟨ε2,p2,q2⟩:=lH h'
 have near:∀{x y z:Int},nrm m x y z<0->∃ε:Rat,0<ε/\∀Z:Rat,Bd ε (Z*Z*Z-(m:Rat))->(x:Rat)+y*Z+z*(Z*Z)<0:=λ{x y z} hn=>by obtain⟨ε,p,q⟩:=lH (m:=m) (a := -x) (b := -y) (c := -z) (by rw[lG];omega);refine⟨ε,p,λZ hZ=>?_⟩;have:=q Z hZ;simp only[Rat.intCast_neg]at this;grind
 have two:∀u v:Rat,0<u->0<v->∃w:Rat,0<w/\w<=u/\w<=v:=λu v hu hv=>by
  rcases HE (a:=u) (b:=v)with z |z
  ·exact⟨u,hu,by grind,z⟩
  ·exact⟨v,hv,z,by grind⟩
 rcases Int.lt_trichotomy 0 (nrm m (a+a') (b+b') (c+c'))with z |z |z
 ·exact z
 ·obtain⟨z1,z2,z3⟩:=hm.2 _ _ _ z.symm;have e1:a' = -a:=by omega
  have e2:b' = -b:=by omega
  have e3:c' = -c:=by omega
  rw[e1,e2,e3,lG]at h';omega
 ·obtain⟨ε3,p3,q3⟩:=near z;obtain⟨w1,w0,w2,w3⟩:=two ε1 ε2 p1 p2;obtain⟨w,wp,w4,w5⟩:=two w1 ε3 w0 p3;obtain⟨M,eM⟩:∃M:Nat,m=(M:Int):=⟨m.toNat,by have:=hm.1;omega⟩;subst eM;obtain⟨Z,_,hZ⟩:=C4 (m:=M) (by have:=hm.1;omega) wp;have r1:=q1 Z (hZ.mono (by grind));have r2:=q2 Z (hZ.mono (by grind));have r3:=q3 Z (hZ.mono w5);simp only[HR]at r3;grind
theorem mU{p n:Int}(hp:0<p)(h:∀r:Int,0<=r->r<p->p∣n*(r*r*r)->r=0){x:Int}(hx:p∣n*(x*x*x)):p∣x:=by
 have r0:=Int.emod_nonneg x (show p≠0 by omega);have r1:=IZ x hp;have e:=Int.mul_ediv_add_emod x p;refine Int.dvd_of_emod_eq_zero (h _ r0 r1 ?_);generalize x%p=r at *
 generalize x/p=k at *
 have e2:n*(r*r*r)=n*(x*x*x)-p*(n*k*(x*x+x*r+r*r)):=by rw[<- e];grind
 rw[e2];exact Int.dvd_sub hx (Int.dvd_mul_right _ _)
theorem zX{p n:Int}(hp:1<p)(h1:∀x:Int,p∣1*(x*x*x)->p∣x)(h2:∀x:Int,p∣n*(x*x*x)->p∣x)(h3:∀x:Int,p∣n*n*(x*x*x)->p∣x):∀(N:Nat) (a b c:Int),a.natAbs+b.natAbs+c.natAbs<=N->nrm (p*n) a b c=0->a=0/\b=0/\c=0:=by
 intro N
 induction N with
 |zero=>intro a b c hl _;omega
 |succ N ih =>
  intro a b c hl h0;unfold nrm at h0
  obtain⟨a1,rfl⟩:=h1 a ⟨-(n*(b*b*b)+p*n*n*(c*c*c)-3*n*(a*b*c)),by grind⟩;have q1:p*(p*p*(a1*a1*a1)+n*(b*b*b)+p*n*n*(c*c*c)-3*p*n*(a1*b*c))=p*0:=by grind
  have q1':=IY (show p≠0 by omega) q1;obtain⟨b1,rfl⟩:=h2 b ⟨-(p*(a1*a1*a1)+n*n*(c*c*c)-3*n*(a1*b*c)),by grind⟩;have q2:p*(p*(a1*a1*a1)+p*p*n*(b1*b1*b1)+n*n*(c*c*c)-3*p*n*(a1*b1*c))=p*0:=by grind
  have q2':=IY (show p≠0 by omega) q2;obtain⟨c1,rfl⟩:=h3 c ⟨-(a1*a1*a1+p*n*(b1*b1*b1)-3*n*(a1*b1*c)),by grind⟩;have q3:p*nrm (p*n) a1 b1 c1=p*0:=by unfold nrm;grind
  have q3':=IY (show p≠0 by omega) q3;by_cases hz:a1=0/\b1=0/\c1=0
  ·obtain⟨rfl,rfl,rfl⟩:=hz;simp
  ·have le:∀x:Int,(p*x).natAbs=p.natAbs*x.natAbs:=λx=>Hj _ _
   rw[le,le,le]at hl;have hp2:2<=p.natAbs:=by omega
   have m1:=HI a1.natAbs hp2;have m2:=HI b1.natAbs hp2;have m3:=HI c1.natAbs hp2;exact absurd (ih a1 b1 c1 (by omega) q3') hz
theorem f7{p n m:Int}(e:m=p*n)(m0:0<m)(hp:1<p)(h1:∀r:Int,0<=r->r<p->p∣1*(r*r*r)->r=0)(h2:∀r:Int,0<=r->r<p->p∣n*(r*r*r)->r=0)(h3:∀r:Int,0<=r->r<p->p∣n*n*(r*r*r)->r=0):NCb m:=by subst e;exact⟨m0,λa b c h=>zX hp (λx=>mU (by omega) h1) (λx=>mU (by omega) h2) (λx=>mU (by omega) h3) _ a b c (GP _) h⟩
theorem Ag:NCb 4:=by
 refine⟨by decide,λa b c h=>?_⟩;have h2:NCb 2:=f7 (p:=2) (n:=1) rfl (by decide) (by decide) (λr h0 h1=>by rcases(show r=0\/r=1 by omega)with rfl |rfl<;>decide) (λr h0 h1=>by rcases(show r=0\/r=1 by omega)with rfl |rfl<;>decide) (λr h0 h1=>by rcases(show r=0\/r=1 by omega)with rfl |rfl<;>decide);have e:nrm 2 a (2*c) b=nrm 4 a b c:=by unfold nrm;grind
 have:=h2.2 a (2*c) b (by rw[e];exact h);omega
theorem Af{m:Int}(h1:2<=m)(h2:m<=7):NCb m:=by
 rcases(show m=2\/m=3\/m=4\/m=5\/m=6\/m=7 by omega)with rfl |rfl |rfl |rfl |rfl |rfl
 ·exact f7 (p:=2) (n:=1) rfl (by decide) (by decide) (λr h0 h1=>by rcases(show r=0\/r=1 by omega)with rfl |rfl<;>decide) (λr h0 h1=>by rcases(show r=0\/r=1 by omega)with rfl |rfl<;>decide) (λr h0 h1=>by rcases(show r=0\/r=1 by omega)with rfl |rfl<;>decide)
 ·exact f7 (p:=3) (n:=1) rfl (by decide) (by decide) (λr h0 h1=>by rcases(show r=0\/r=1\/r=2 by omega)with rfl |rfl |rfl<;>decide) (λr h0 h1=>by rcases(show r=0\/r=1\/r=2 by omega)with rfl |rfl |rfl<;>decide) (λr h0 h1=>by rcases(show r=0\/r=1\/r=2 by omega)with rfl |rfl |rfl<;>decide)
 ·exact Ag
 ·have k:∀r:Int,0<=r->r<5->(5:Int)∣1*(r*r*r)->r=0:=λr h0 h1=>by rcases(show r=0\/r=1\/r=2\/r=3\/r=4 by omega)with rfl |rfl |rfl |rfl |rfl<;>decide
  exact f7 (p:=5) (n:=1) rfl (by decide) (by decide) k k k
 ·exact f7 (p:=2) (n:=3) rfl (by decide) (by decide) (λr h0 h1=>by rcases(show r=0\/r=1 by omega)with rfl |rfl<;>decide) (λr h0 h1=>by rcases(show r=0\/r=1 by omega)with rfl |rfl<;>decide) (λr h0 h1=>by rcases(show r=0\/r=1 by omega)with rfl |rfl<;>decide)
 ·have k:∀r:Int,0<=r->r<7->(7:Int)∣1*(r*r*r)->r=0:=λr h0 h1=>by rcases(show r=0\/r=1\/r=2\/r=3\/r=4\/r=5\/r=6 by omega)with rfl |rfl |rfl |rfl |rfl |rfl |rfl<;>decide
  exact f7 (p:=7) (n:=1) rfl (by decide) (by decide) k k k
noncomputable def aL(m a b c t n:Int):Int:=nrm m (a*n-t) (b*n) (c*n)
theorem fE{m a b c t n:Int}(hm:NCb m)(hbc:¬(b=0/\c=0))(hn:0<n):aL m a b c t n≠0:=λz=>by
 obtain⟨_,h1,h2⟩:=hm.2 _ _ _ z;rcases Hk.mp h1 with y |y
 ·rcases Hk.mp h2 with y' |y'
  ·exact hbc ⟨y,y'⟩
  ·omega
 ·omega
theorem jz{x:Int}(h:0<x):0<x*x*x:=G2 (G2 h h) h
theorem rO{m g a b c:Int}(hg:0<g):(0<nrm m (g*a) (g*b) (g*c)↔0<nrm m a b c):=by
 rw[zU];have:=jz hg;constructor
 ·intro h;exact Int.not_le.mp λz=>by have:=Int.mul_nonpos_of_nonneg_of_nonpos (GS this) z;omega
 ·intro h;exact G2 this h
theorem jN{m a b c t n t' n':Int}(hm:NCb m)(hn:0<n)(hn':0<n')(hle:t'*n<=t*n')(h:0<aL m a b c t n):0<aL m a b c t' n':=by
 unfold aL at *
 rw[<- rO (g:=n') hn']at h;rw[<- rO (g:=n) hn];rcases Int.lt_or_eq_of_le hle with z |z
 ·have r:0<nrm m (t*n'-t'*n) 0 0:=by rw[rN];exact jz (by omega)
  have s:=zY hm h r;have e1:n'*(a*n-t)+(t*n'-t'*n)=n*(a*n'-t'):=by grind
  have e2:n'*(b*n)+0=n*(b*n'):=by grind
  have e3:n'*(c*n)+0=n*(c*n'):=by grind
  rwa [e1,e2,e3]at s
 ·have e1:n*(a*n'-t')=n'*(a*n-t):=by grind
  have e2:n*(b*n')=n'*(b*n):=by grind
  have e3:n*(c*n')=n'*(c*n):=by grind
  rw[e1,e2,e3];exact h
structure Tri where
 a:Int
 b:Int
 c:Int
noncomputable def Tri.mul(m:Int)(x y:Tri):Tri:=⟨x.a*y.a+m*(x.b*y.c+x.c*y.b),x.a*y.b+x.b*y.a+m*(x.c*y.c),x.a*y.c+x.b*y.b+x.c*y.a⟩
noncomputable def Tri.nrm(m:Int)(x:Tri):Int:=RM.nrm m x.a x.b x.c
theorem zV(m:Int)(x y:Tri):(x.mul m y).nrm m=x.nrm m*y.nrm m:=by obtain⟨a,b,c⟩:=x;obtain⟨d,e,f⟩:=y;show RM.nrm m (a*d+m*(b*f+c*e)) (a*e+b*d+m*(c*f)) (a*f+b*e+c*d)=RM.nrm m a b c*RM.nrm m d e f;unfold RM.nrm;grind
noncomputable def Tri.lin(x y:Int)(u v:Tri):Tri:=⟨x*u.a+y*v.a,x*u.b+y*v.b,x*u.c+y*v.c⟩
noncomputable def evC(m:Int)(g:Tri):List Int->Tri
 | []=>⟨0,0,0⟩
 |v::l=>⟨v+(g.mul m (evC m g l)).a,(g.mul m (evC m g l)).b,(g.mul m (evC m g l)).c⟩
theorem Tri.ext'{x y:Tri}(h1:x.a=y.a)(h2:x.b=y.b)(h3:x.c=y.c):x=y:=by cases x;cases y;subst h1 h2 h3;rfl
theorem nh(l:List Int)(k:Nat):cf l.tail k=cf l (k+1):=by
 cases l with
 |nil=>rw[List.tail_nil,bQ,bQ]
 |cons v l=>rfl
theorem mQ(m:Int)(g:Tri)(l:List Int):evC m g l=⟨cf l 0+(g.mul m (evC m g l.tail)).a,(g.mul m (evC m g l.tail)).b,(g.mul m (evC m g l.tail)).c⟩:=by
 cases l with
 |nil =>show(⟨0,0,0⟩:Tri)=_;rw[bQ];refine Tri.ext' ?_ ?_ ?_<;>(show(0:Int)=_;unfold Tri.mul evC;simp)
 |cons v l=>rfl
theorem uq{m x y:Int}{g:Tri}:∀(n:Nat) (a b c:List Int),a.length<=n->b.length<=n->c.length<=n->(∀k,cf c k=x*cf a k+y*cf b k)->evC m g c=Tri.lin x y (evC m g a) (evC m g b)
 |0,a,b,c,ha,hb,hc,_=>by rw[HA.mp (Iu.mp ha),HA.mp (Iu.mp hb),HA.mp (Iu.mp hc)];refine Tri.ext' ?_ ?_ ?_<;>(show(0:Int)=x*0+y*0;simp)
 |n+1,a,b,c,ha,hb,hc,h=>by
  have ih:=uq (m:=m) (g:=g) (x:=x) (y:=y) n a.tail b.tail c.tail (by rw[List.length_tail];omega) (by rw[List.length_tail];omega) (by rw[List.length_tail];omega) λk=>by rw[nh,nh,nh,h]
  rw[mQ m g a,mQ m g b,mQ m g c,ih,h 0];generalize evC m g a.tail=A;generalize evC m g b.tail=B;refine Tri.ext' ?_ ?_ ?_
  ·show x*cf a 0+y*cf b 0+(g.a*(x*A.a+y*B.a)+m*(g.b*(x*A.c+y*B.c)+g.c*(x*A.b+y*B.b)))=x*(cf a 0+(g.a*A.a+m*(g.b*A.c+g.c*A.b)))+y*(cf b 0+(g.a*B.a+m*(g.b*B.c+g.c*B.b)));grind
  ·show g.a*(x*A.b+y*B.b)+g.b*(x*A.a+y*B.a)+m*(g.c*(x*A.c+y*B.c))=x*(g.a*A.b+g.b*A.a+m*(g.c*A.c))+y*(g.a*B.b+g.b*B.a+m*(g.c*B.c));grind
  ·show g.a*(x*A.c+y*B.c)+g.b*(x*A.b+y*B.b)+g.c*(x*A.a+y*B.a)=x*(g.a*A.c+g.b*A.b+g.c*A.a)+y*(g.a*B.c+g.b*B.b+g.c*B.a);grind
theorem jv{m x y:Int}{g:Tri}{a b c:List Int}(h:∀k,cf c k=x*cf a k+y*cf b k):evC m g c=Tri.lin x y (evC m g a) (evC m g b) :=
 uq (max a.length (max b.length c.length)) a b c (by omega) (by omega) (by omega) h
theorem ju(m:Int)(g:Tri):∀a b:List Int,evC m g (ae a b)=(evC m g a).mul m (evC m g b)
 | [],b=>by
  have:ae [] b=[]:=by unfold ae;rw[if_pos (.inl rfl)]
  rw[this];refine Tri.ext' ?_ ?_ ?_<;>(show(0:Int)=_;unfold Tri.mul evC;simp)
 |x::a,b=>by
  have e:∀k,cf (ae (x::a) b) k=x*cf b k+1*cf (0::ae a b) k:=λk=>by
   rw[aE,cD,gZ,G9]
   congr 1
   unfold up;split
   ·rfl
   ·rw[aE]
  rw[jv e];have e2:evC m g (0::ae a b)=⟨0+(g.mul m (evC m g (ae a b))).a,(g.mul m (evC m g (ae a b))).b,(g.mul m (evC m g (ae a b))).c⟩:=rfl;have e3:evC m g (x::a)=⟨x+(g.mul m (evC m g a)).a,(g.mul m (evC m g a)).b,(g.mul m (evC m g a)).c⟩:=rfl;rw[e2,e3,ju m g a b];generalize evC m g a=A;generalize evC m g b=B;refine Tri.ext' ?_ ?_ ?_<;>(simp only[Tri.lin,Tri.mul];grind)
noncomputable def aM(m a b c:Int):List Int:=[-nrm m a b c,3*(a*a)-3*m*(b*c),-3*a,1]
theorem ur(m a b c:Int):evC m ⟨a,b,c⟩ (aM m a b c)=⟨0,0,0⟩:=by refine Tri.ext' ?_ ?_ ?_<;>(simp only[evC,aM,Tri.mul,nrm];grind)
theorem wb{m:Int}(hm:NCb m){x y:Tri}(h:x.mul m y=⟨0,0,0⟩):x=⟨0,0,0⟩\/y=⟨0,0,0⟩:=by
 have e:=zV m x y;rw[h]at e;have e0:Tri.nrm m ⟨0,0,0⟩=0:=by show nrm m 0 0 0=0;unfold nrm;simp
 rw[e0]at e;rcases Hk.mp e.symm with z |z
 ·obtain⟨h1,h2,h3⟩:=hm.2 _ _ _ z;exact .inl (Tri.ext' h1 h2 h3)
 ·obtain⟨h1,h2,h3⟩:=hm.2 _ _ _ z;exact .inr (Tri.ext' h1 h2 h3)
theorem Bc{m a b c:Int}(hm:NCb m)(hbc:¬(b=0/\c=0)){l:List Int}(hl:l.length<=3)(h:evC m ⟨a,b,c⟩ l=⟨0,0,0⟩):∀k,cf l k=0:=by
 have key:∀r0 r1 r2:Int,evC m ⟨a,b,c⟩ [r0,r1,r2]=⟨0,0,0⟩->r0=0/\r1=0/\r2=0:=λr0 r1 r2 h=>by
  have ha:=congrArg Tri.a h;have hb:=congrArg Tri.b h;have hc:=congrArg Tri.c h;simp only[evC,Tri.mul]at ha hb hc;have e1:r2*(m*(c*c*c)-b*b*b)=0:=by grind
  have e2:r2=0:=by
   rcases Hk.mp e1 with z |z
   ·exact z
   ·have:nrm m b (-c) 0=0:=by unfold nrm;grind
    obtain⟨y1,y2,_⟩:=hm.2 _ _ _ this;exact absurd ⟨y1,by omega⟩ hbc
  subst e2;have e3:r1*b=0:=by grind
  have e4:r1*c=0:=by grind
  have e5:r1=0:=by
   rcases Hk.mp e3 with z |z
   ·exact z
   ·rcases Hk.mp e4 with z' |z'
    ·exact z'
    ·exact absurd ⟨z,z'⟩ hbc
  subst e5;refine⟨by grind,rfl,rfl⟩
 have e:evC m ⟨a,b,c⟩ [cf l 0,cf l 1,cf l 2]=evC m ⟨a,b,c⟩ l:=by
  have:=jv (m:=m) (g:=⟨a,b,c⟩) (x:=1) (y:=0) (a:=l) (b:=[]) (c:=[cf l 0,cf l 1,cf l 2]) (λk=>by
   rw[bQ];rcases k with _ |_ |_ |k
   ·show cf l 0=1*cf l 0+0*0;omega
   ·show cf l 1=1*cf l 1+0*0;omega
   ·show cf l 2=1*cf l 2+0*0;omega
   ·rw[bD (by simp),bD (by omega)];simp)
  rw[this];refine Tri.ext' ?_ ?_ ?_<;>(simp only[Tri.lin,evC];omega)
 obtain⟨z0,z1,z2⟩:=key _ _ _ (by rw[e];exact h);intro k;rcases k with _ |_ |_ |k
 ·exact z0
 ·exact z1
 ·exact z2
 ·exact bD (by omega)
theorem mV(m a b c:Int):Tr (aM m a b c):=(tr_snoc (r:=[-nrm m a b c,3*(a*a)-3*m*(b*c),-3*a])).mpr (by decide)
theorem fv(m a b c:Int):Pln (aM m a b c):=by refine⟨mV m a b c,by unfold aM;simp,?_,by show(0:Int)<1;decide⟩;show Nat.gcd (Nat.gcd (Nat.gcd (Nat.gcd 0 _) _) _) (1:Int).natAbs=1;exact Nat.gcd_one_right _
theorem mY{m a b c:Int}(hm:NCb m)(hbc:¬(b=0/\c=0)){f:List Int}:Dv (aM m a b c) f↔evC m ⟨a,b,c⟩ f=⟨0,0,0⟩:=by
 have hne:aM m a b c≠[]:=(fv m a b c).ne;constructor
 ·rintro⟨k,q,k0,e⟩;have h1:evC m ⟨a,b,c⟩ (ae q (aM m a b c))=Tri.lin k 0 (evC m ⟨a,b,c⟩ f) (evC m ⟨a,b,c⟩ []):=jv λn=>by rw[aE,<- e,bQ];simp
  rw[ju,ur]at h1;generalize evC m ⟨a,b,c⟩ q=X at h1
  generalize evC m ⟨a,b,c⟩ f=Y at h1 ⊢
  have ha:=congrArg Tri.a h1;have hb:=congrArg Tri.b h1;have hc:=congrArg Tri.c h1;simp only[Tri.mul,Tri.lin,evC]at ha hb hc;have z:∀y:Int,k*y=0->y=0:=λy hy=>(Hk.mp hy).resolve_left k0
  exact Tri.ext' (z _ (by grind)) (z _ (by grind)) (z _ (by grind))
 ·intro h;have e:=λn=>d9 (a:=f) (b:=aM m a b c) hne n
  have f0:=gY (a:=f) hne (mV m a b c);have lr:=d8 (a:=f) hne;have h1:evC m ⟨a,b,c⟩ (aA f (aM m a b c))=Tri.lin (aS f (aM m a b c)) (-1) (evC m ⟨a,b,c⟩ f) (evC m ⟨a,b,c⟩ (ae (aT f (aM m a b c)) (aM m a b c))):=jv λn=>by rw[aE,e];omega
  rw[ju,ur,h]at h1
  have h2:evC m ⟨a,b,c⟩ (aA f (aM m a b c))=⟨0,0,0⟩:=by rw[h1];refine Tri.ext' ?_ ?_ ?_<;>(simp only[Tri.lin,Tri.mul];grind)
  have z:=Bc hm hbc (by have:(aM m a b c).length=4:=rfl;omega) h2;exact⟨_,aT f (aM m a b c),f0,λn=>by rw[e,z n];omega⟩
theorem Dc{m a b c:Int}(hm:NCb m)(hbc:¬(b=0/\c=0)):Pri (aM m a b c):=by refine⟨fv m a b c,by show 2<=4;decide,λf g h=>?_⟩;rw[mY hm hbc,ju]at h;rw[mY hm hbc,mY hm hbc];exact wb hm h
theorem mX(m a b c t n:Int):hv t n (aM m a b c) = -(n*aL m a b c t n):=by simp only[aM,hv,aL,nrm,Hl,List.length_nil];grind
def OneSg(p:List Int)(l1 l2 h1 h2:Int):Prop:=∃s:Int,(s=1\/s = -1)/\∀t n,0<n->l1*n<=t*l2->t*h2<=h1*n->sg (hv t n p)=s
theorem yQ(l1 l2 h1 h2:Int):OneSg [1] l1 l2 h1 h2:=⟨1,.inl rfl,λt n hn _ _=>by
 have:hv t n [1]=n:=by simp[hv,Hq]
 rw[this];unfold sg;rw[if_neg (by omega),if_pos hn]⟩
theorem j9{n:Int}(h:0<n):sg n=1:=by unfold sg;rw[if_neg (by omega),if_pos h]
theorem kd{t n:Int}(hn:0<n){a b:List Int}(ha:a≠[])(hb:b≠[]):sg (hv t n (ae a b))=sg (hv t n a)*sg (hv t n b):=by rw[<- eT,<- jn t n hb ha,eT,j9 hn,G9]
theorem OneSg.mul{p q:List Int}{l1 l2 h1 h2:Int}(hp:OneSg p l1 l2 h1 h2)(hq:OneSg q l1 l2 h1 h2)(pn:p≠[])(qn:q≠[]):OneSg (ae p q) l1 l2 h1 h2:=by obtain⟨s,s1,hs⟩:=hp;obtain⟨r,r1,hr⟩:=hq;refine⟨s*r,by rcases s1 with rfl |rfl<;>rcases r1 with rfl |rfl<;>simp,λt n hn a b=>?_⟩;rw[kd hn pn qn,hs t n hn a b,hr t n hn a b]
theorem rJ{l1 l2 h1 h2:Int}:∀ps:List (List Int),(∀p∈ps,p≠[]/\OneSg p l1 l2 h1 h2)->OneSg (prd ps) l1 l2 h1 h2/\prd ps≠[]
 | [],_=>⟨yQ _ _ _ _,by show([1]:List Int)≠[];simp⟩
 |p::ps,h=>by
  obtain⟨i1,i2⟩:=rJ ps λx hx=>h x (GU _ hx)
  obtain⟨j1,j2⟩:=h p (GY ..);exact⟨j2.mul i1 j1 i2,iZ j1 i2⟩
structure CbN(m a b c:Int)(rs:List (List Int))(kp:List Int)(l1 l2 h1 h2:Int):Prop where
 nc:NCb m
 bc:¬(b=0/\c=0)
 is:kp=ae (aM m a b c) (prd rs)
 rs:∀p∈rs,Pri p/\p.length<=3/\OneSg p l1 l2 h1 h2
 l2p:0<l2
 h2p:0<h2
theorem CbN.sign{m a b c:Int}{rs:List (List Int)}{kp:List Int}{l1 l2 h1 h2:Int}(N:CbN m a b c rs kp l1 l2 h1 h2):∃s:Int,(s=1\/s = -1)/\∀t n,0<n->l1*n<=t*l2->t*h2<=h1*n->sg (hv t n kp) = -sg (aL m a b c t n)*s:=by
 obtain⟨⟨s,s1,hs⟩,pn⟩:=rJ rs λp hp=>⟨(N.rs p hp).1.pln.ne,(N.rs p hp).2.2⟩
 refine⟨s,s1,λt n hn x y=>?_⟩;rw[N.is,kd hn (fv m a b c).ne pn,hs t n hn x y,mX,j8,eT,j9 hn,G9]
structure CubOk(a b c m:Int):Prop where
 a9 : -9<=a/\a<=9
 b3 : -3<=b/\b<=3
 c3 : -3<=c/\c<=3
 m2:2<=m
 m7:m<=7
 bc:¬(b=0/\c=0)
theorem CubOk.nc{a b c m:Int}(h:CubOk a b c m):NCb m:=Af h.m2 h.m7
noncomputable def hfS(m a b c:Int)(s:Int×Int×Int):Int×Int×Int:=if aL m a b c (s.1+s.2.1) (2*s.2.2)<=0 then(2*s.1,s.1+s.2.1,2*s.2.2)else(s.1+s.2.1,2*s.2.1,2*s.2.2)
structure SpI(m a b c:Int)(s:Int×Int×Int)(j:Nat):Prop where
 n:s.2.2=2^j
 w:s.2.1=s.1+128
 l : -64*s.2.2<=s.1
 h:s.2.1<=64*s.2.2
 lp:0<aL m a b c s.1 s.2.2
 hn:aL m a b c s.2.1 s.2.2<0
theorem io(m a b c t n:Int):aL m a b c (2*t) (2*n)=8*aL m a b c t n:=by unfold aL nrm;grind
theorem uI{b:Int}(h : -3<=b/\b<=3) : -27<=b*b*b/\b*b*b<=27:=by
 have:b = -3\/b = -2\/b = -1\/b=0\/b=1\/b=2\/b=3:=by omega
 rcases this with rfl |rfl |rfl |rfl |rfl |rfl |rfl<;>decide
theorem bW{x y:Int}{p q:Nat}(hx:x.natAbs<=p)(hy:y.natAbs<=q):(x*y).natAbs<=p*q:=by rw[Hj];exact IM hx hy
theorem CubOk.small{a b c m:Int}(h:CubOk a b c m):(m*(b*b*b)).natAbs<=7*27/\(m*m*(c*c*c)).natAbs<=7*7*27/\(3*m*(b*c)).natAbs<=3*7*(3*3):=by obtain⟨a9,b3,c3,m2,m7,_⟩:=h;have q1:=uI b3;have q2:=uI c3;exact⟨bW (by omega) (by omega),bW (bW (by omega) (by omega)) (by omega),bW (bW (by decide) (by omega)) (bW (by omega) (by omega))⟩
theorem lI(m x b c:Int):nrm m x b c=x*x*x+m*(b*b*b)+m*m*(c*c*c)-3*m*(b*c)*x:=by unfold nrm;grind
theorem rP{a b c m x:Int}(h:CubOk a b c m)(h1:55<=x)(h2:x<=73):0<nrm m x b c:=by obtain⟨s1,s2,s3⟩:=h.small;have q1:55*55<=x*x:=Ir h1 h1 (by decide) (by omega);have q2:55*55*55<=x*x*x:=Ir q1 h1 (by decide) (by omega);have q3:(3*m*(b*c)*x).natAbs<=3*7*(3*3)*73:=bW s3 (by omega);rw[lI];omega
theorem CubOk.neg{a b c m:Int}(h:CubOk a b c m):CubOk (-a) (-b) (-c) m:=⟨by have:=h.a9;omega,by have:=h.b3;omega,by have:=h.c3;omega,h.m2,h.m7,λz=>h.bc ⟨by omega,by omega⟩⟩
theorem SpI.first{a b c m:Int}(h:CubOk a b c m):SpI m a b c (-64,64,1) 0:=by
 have ha:=h.a9;refine⟨rfl,rfl,by decide,by decide,?_,?_⟩
 ·show 0<nrm m (a*1 - -64) (b*1) (c*1);rw[Hs,Hs,Hs];exact rP h (by omega) (by omega)
 ·show nrm m (a*1-64) (b*1) (c*1)<0;rw[Hs,Hs,Hs];have:=rP (x:=64-a) h.neg (by omega) (by omega);have e:=lG m (a-64) b c;rw[show -(a-64)=64-a by omega]at e;omega
theorem SpI.half{a b c m:Int}(h:CubOk a b c m){s:Int×Int×Int}{j:Nat}(S:SpI m a b c s j):SpI m a b c (hfS m a b c s) (j+1):=by
 obtain⟨n,w,l,hh,lp,hn⟩:=S;have hn0:0<s.2.2:=by rw[n];exact Int.pow_pos (by decide)
 have ne:=fE (t:=s.1+s.2.1) h.nc h.bc (show 0<2*s.2.2 by omega) (a:=a);have e2:2*s.2.2=2^(j+1):=by rw[n,Hq,Hv]
 unfold hfS;split
 ·rename_i z
  exact⟨e2,by show s.1+s.2.1=2*s.1+128;omega,by show -64*(2*s.2.2)<=2*s.1;omega,by show s.1+s.2.1<=64*(2*s.2.2);omega,by show 0<aL m a b c (2*s.1) (2*s.2.2);rw[io];omega,by show aL m a b c (s.1+s.2.1) (2*s.2.2)<0;omega⟩
 ·rename_i z
  exact⟨e2,by show 2*s.2.1=s.1+s.2.1+128;omega,by show -64*(2*s.2.2)<=s.1+s.2.1;omega,by show 2*s.2.1<=64*(2*s.2.2);omega,by show 0<aL m a b c (s.1+s.2.1) (2*s.2.2);omega,by show aL m a b c (2*s.2.1) (2*s.2.2)<0;rw[io];omega⟩
theorem SpI.pos{a b c m:Int}{s:Int×Int×Int}{j:Nat}(S:SpI m a b c s j):0<s.2.2:=by rw[S.n];exact Int.pow_pos (by decide)
def InS(s t:Int×Int×Int):Prop:=s.1*t.2.2<=t.1*s.2.2/\t.2.1*s.2.2<=s.2.1*t.2.2
theorem InS.refl(s:Int×Int×Int):InS s s:=⟨HV _,HV _⟩
theorem sQ{x y p q r s:Int}(hq:0<q)(hp:0<=p)(hs:0<=s)(h1:x*q<=y*p)(h2:y*s<=r*q):x*s<=r*p:=by
 refine Int.le_of_mul_le_mul_right (a:=q) ?_ hq;have a1:=HD h1 hs;have a2:=HD h2 hp;have e1:x*s*q=x*q*s:=by grind
 have e2:y*p*s=y*s*p:=by grind
 have e3:r*q*p=r*p*q:=by grind
 omega
theorem InS.trans{s t u:Int×Int×Int}(ps:0<s.2.2)(pt:0<t.2.2)(pu:0<u.2.2)(h1:InS s t)(h2:InS t u):InS s u :=
 ⟨sQ pt (GS ps) (GS pu) h1.1 h2.1,sQ pt (GS pu) (GS ps) h2.2 h1.2⟩
theorem SpI.few{a b c m:Int}(h:CubOk a b c m){s:Int×Int×Int}{j:Nat}(S:SpI m a b c s j){q:Int}(h1:s.1<=q*s.2.2)(h2:q*s.2.2<=s.2.1):j<=21:=by
 have p:=S.pos;obtain⟨en,w,l,hh,lp,hn⟩:=S;obtain⟨s1,s2,s3⟩:=h.small;have ha:=h.a9;generalize s.2.2=n at *
 generalize s.2.1=hi at *
 generalize s.1=lo at *
 have lip:∀t,-64*n<=t->t<=64*n->(t-q*n).natAbs<=128->(aL m a b c t n-aL m a b c (q*n) n).natAbs<=128*(16176*(n.natAbs*n.natAbs)):=λt t1 t2 t3=>by
  have e:aL m a b c t n-aL m a b c (q*n) n=(t-q*n)*(3*m*(b*c)*(n*n)-((a*n-t)*(a*n-t)+(a*n-t)*(a*n-q*n)+(a*n-q*n)*(a*n-q*n))):=by unfold aL nrm;grind
  have an:(a*n).natAbs<=9*n.natAbs:=bW (by omega) (GP _);have x1:(a*n-t).natAbs<=73*n.natAbs:=by omega
  have x2:(a*n-q*n).natAbs<=73*n.natAbs:=by omega
  have z0:(n*n).natAbs<=n.natAbs*n.natAbs:=bW (GP _) (GP _);have y1:=bW x1 x1;have y2:=bW x1 x2;have y3:=bW x2 x2;have y4:=bW s3 z0;have z1:73*n.natAbs*(73*n.natAbs)=5329*(n.natAbs*n.natAbs):=by grind
  rw[z1]at y1 y2 y3;rw[e];refine bW t3 ?_;have u1:=IE (3*m*(b*c)*(n*n)) ((a*n-t)*(a*n-t)+(a*n-t)*(a*n-q*n)+(a*n-q*n)*(a*n-q*n));have u2:=Int.natAbs_add_le ((a*n-t)*(a*n-t)+(a*n-t)*(a*n-q*n)) ((a*n-q*n)*(a*n-q*n));have u3:=Int.natAbs_add_le ((a*n-t)*(a*n-t)) ((a*n-t)*(a*n-q*n));generalize (3*m*(b*c)*(n*n)-((a*n-t)*(a*n-t)+(a*n-t)*(a*n-q*n)+(a*n-q*n)*(a*n-q*n))).natAbs=v1 at *
  generalize ((a*n-t)*(a*n-t)+(a*n-t)*(a*n-q*n)+(a*n-q*n)*(a*n-q*n)).natAbs=v2 at *
  generalize ((a*n-t)*(a*n-t)+(a*n-t)*(a*n-q*n)).natAbs=v3 at *
  generalize ((a*n-t)*(a*n-t)).natAbs=v4 at *
  generalize ((a*n-t)*(a*n-q*n)).natAbs=v5 at *
  generalize ((a*n-q*n)*(a*n-q*n)).natAbs=v6 at *
  generalize (3*m*(b*c)*(n*n)).natAbs=v7 at *
  generalize n.natAbs*n.natAbs=v8 at *
  clear e an x1 x2 z0 z1 t1 t2 t3 s1 s2 s3 lp hn w l hh h1 h2 p ha en;omega
 have L1:=lip lo l (by omega) (by omega);have L2:=lip hi (by omega) hh (by omega);have eq:aL m a b c (q*n) n=n*n*n*nrm m (a-q) b c:=by unfold aL nrm;grind
 have nz:nrm m (a-q) b c≠0:=λz=>h.bc (let r:=(h.nc).2 _ _ _ z;⟨r.2.1,r.2.2⟩)
 have p3:0<n*n*n:=G2 (G2 p p) p
 have big:n*n*n<=aL m a b c (q*n) n\/aL m a b c (q*n) n <= -(n*n*n):=by
  rw[eq];rcases Ic nz with z |z
  ·right;have:=Jc (show nrm m (a-q) b c <= -1 by omega) (GS p3);omega
  ·left;have:=Jc (show 1<=nrm m (a-q) b c by omega) (GS p3);omega
 have nn:(n.natAbs*n.natAbs:Nat)=((n*n).natAbs):=(Hj n n).symm;have nn2:((n*n).natAbs:Int)=n*n:=Int.natAbs_of_nonneg (GS (G2 p p));rw[nn]at L1 L2
 have fin:n*n*n<=2070528*(n*n):=by
  rcases big with z |z
  ·generalize aL m a b c hi n=W at *
   generalize aL m a b c (q*n) n=V at *
   clear L1 lip eq nz nn;generalize n*n*n=N3 at *
   generalize n*n=N2 at *
   omega
  ·generalize aL m a b c lo n=W at *
   generalize aL m a b c (q*n) n=V at *
   clear L2 lip eq nz nn;generalize n*n*n=N3 at *
   generalize n*n=N2 at *
   omega
 have fin2:n<=2070528:=Int.le_of_mul_le_mul_right (a:=n*n) (by rw[Hv n (n*n)];exact fin) (G2 p p);refine HG λz=>?_
 have g1:(2:Int)^21<=2^j:=by have:=IW (n:=2) (by decide) (HS z);have e:=Int.ofNat_le.mpr this;rw[Int.natCast_pow,Int.natCast_pow]at e;exact e
 have g2:(2:Int)^21=2097152:=by decide
 omega
def FL(l:List Int):Prop:=(∃q:Int,-21<=q/\q<=21/\l=[q,0,1])\/∃k:Int,1<=k/\k<=9/\l=[0,-k,1]
theorem FL.fac{l:List Int}(h:FL l):FacG l:=by
 rcases h with⟨q,h1,h2,rfl⟩ |⟨k,h1,h2,rfl⟩
 ·exact⟨q,0,1,rfl,by omega,by omega,by decide,by decide,by decide,by decide,.inl (HV _)⟩
 ·exact⟨0,-k,1,rfl,by decide,by decide,by omega,by omega,by decide,by decide,.inl (by omega)⟩
theorem FL.spots{l x:List Int}(h:FL l)(hx:x∈spF l):∃q:Int,-21<=q/\q<=21/\l=[q,0,1]/\x=[q,0,1,1]:=by
 rcases h with⟨q,h1,h2,rfl⟩ |⟨k,h1,h2,rfl⟩
 ·have:spF [q,0,1]=[[q,0,1,1]]:=by show(if(0:Int)<=0 then _ else[])++(if(0:Int)<0 then _ else[])=_;rw[if_pos (by decide),if_neg (by decide)];rfl
  rw[this]at hx;exact⟨q,h1,h2,rfl,G1.mp hx⟩
 ·have:spF [0,-k,1]=[]:=by show(if 0 <= -k then _ else[])++(if 0 < -k then _ else[])=[];rw[if_neg (by omega),if_neg (by omega)];rfl
  rw[this]at hx;cases hx
noncomputable def cdR(m a b c:Int)(x:Rat):Int:=sg (aL m a b c x.num x.den)
theorem vP{m a b c t n t' n':Int}(hm:NCb m)(hn:0<n)(hn':0<n')(e:t*n'=t'*n):0<aL m a b c t n↔0<aL m a b c t' n' :=
 ⟨jN hm hn hn' (Int.le_of_eq e.symm),jN hm hn' hn (Int.le_of_eq e)⟩
theorem w6{x y:Int}(hx:x≠0)(hy:y≠0)(h:0<x↔0<y):sg x=sg y:=by
 rcases Ic hx with z |z
 ·have:y<0:=by
   rcases Ic hy with w |w
   ·exact w
   ·exact absurd (h.mpr w) (by omega)
  unfold sg;rw[if_pos z,if_pos this]
 ·have:=h.mp z;unfold sg;rw[if_neg (by omega),if_pos z,if_neg (by omega),if_pos this]
theorem nu{m a b c t n:Int}(hm:NCb m)(hbc:¬(b=0/\c=0))(hn:0<n):cdR m a b c ((t:Rat)/(n:Rat))=sg (aL m a b c t n):=by unfold cdR;exact w6 (fE hm hbc (bH _)) (fE hm hbc hn) (vP hm (bH _) hn (qM hn))
theorem wW(x:Int):dk (sg x):=by unfold dk sg;split<;>(try split)<;>omega
theorem nv{m a b c:Int}(hm:NCb m)(hbc:¬(b=0/\c=0)):Cut (cdR m a b c):=by
 refine⟨λx=>wW _,λx y hxy h=>?_⟩;have hx:=fE (a:=a) (t:=x.num) hm hbc (bH x);have hy:=fE (a:=a) (t:=y.num) hm hbc (bH y)
 have x0:aL m a b c x.num x.den<0:=by
  rcases Ic hx with z |z
  ·exact z
  ·exfalso;unfold cdR sg at h
   rw[if_neg (by omega),if_pos z]at h;exact absurd h (by decide)
 have hle:x.num*(y.den:Int)<=y.num*(x.den:Int):=by have:=(cT (bH x) (bH y) (t:=x.num) (t':=y.num)).mp (by rw[gg,gg];exact hxy);omega
 have y0:aL m a b c y.num y.den<0:=by
  rcases Ic hy with z |z
  ·exact z
  ·exact absurd (jN hm (bH y) (bH x) hle z) (by omega)
 unfold cdR sg;rw[if_pos y0]
theorem mW(m a b c:Int)(x:Rat):sgR (pv (aM m a b c) x) = -cdR m a b c x:=by have h:=dq (t:=x.num) (bH x) (aM m a b c);rw[gg]at h;rw[<- h,mX,j8,eT,j9 (bH x),G9];rfl
noncomputable def nA(p0 p1 p2 u e d:Int):Int:=u*u*u+p2*d*(u*u)+p1*(d*d)*u+p0*(d*d*d)+e*(3*u+p2*d)
noncomputable def nB(p1 p2 u e d:Int):Int:=e+3*(u*u)+2*p2*d*u+p1*(d*d)
theorem Df(m a b c t n:Int):n*(t*t*t + -3*a*n*(t*t)+(3*(a*a)-3*m*(b*c))*(n*n)*t + -nrm m a b c*(n*n*n)) = -(n*aL m a b c t n):=by rw[<- mX];simp[hv,aM];grind
theorem Dd{m a b c:Int}(hm:NCb m)(hbc:¬(b=0/\c=0)){u e d:Int}(hd:0<d)(he:0<=e)(ns:NS e):nA (-nrm m a b c) (3*(a*a)-3*m*(b*c)) (-3*a) u e d*nA (-nrm m a b c) (3*(a*a)-3*m*(b*c)) (-3*a) u e d-e*(nB (3*(a*a)-3*m*(b*c)) (-3*a) u e d*nB (3*(a*a)-3*m*(b*c)) (-3*a) u e d)≠0:=λz=>by
 have key:∀t:Int,t*t*t + -3*a*d*(t*t)+(3*(a*a)-3*m*(b*c))*(d*d)*t + -nrm m a b c*(d*d*d)≠0:=λt h=>by
  have:=Df m a b c t d;rw[h,G7]at this;have w:=fE (a:=a) (t:=t) hm hbc hd;have:d*aL m a b c t d=0:=by omega
  rcases Hk.mp this with y |y
  ·omega
  ·exact w y
 generalize -nrm m a b c=p0 at z key
 generalize 3*(a*a)-3*m*(b*c)=p1 at z key
 generalize -3*a=p2 at z key
 have AB:nA p0 p1 p2 u e d=0/\(e=0\/nB p1 p2 u e d=0):=by
  by_cases e0:e=0
  ·rw[e0,Ho,Int.sub_zero]at z;rw[e0];exact⟨by rcases Hk.mp z with y |y<;>exact y,.inl rfl⟩
  ·by_cases b0:nB p1 p2 u e d=0
   ·rw[b0,G7,G7,Int.sub_zero]at z;exact⟨by rcases Hk.mp z with y |y<;>exact y,.inr b0⟩
   ·refine(ns.no e0 b0 (y:=nA p0 p1 p2 u e d) ?_).elim;generalize nA p0 p1 p2 u e d=A at *
    generalize nB p1 p2 u e d=B at *
    grind
 obtain⟨hA,h |h⟩:=AB
 ·refine key u ?_;unfold nA at hA
  rw[h,Ho,HN]at hA;exact hA
 ·refine key (u-(3*u+p2*d)) ?_;unfold nA at hA
  unfold nB at h
  grind
theorem Ab{p0 p1 p2 u e d:Int}(b0:Bd 16384 (p0:Rat))(b1:Bd 16384 (p1:Rat))(b2:Bd 16384 (p2:Rat))(bu:Bd 11 (u:Rat))(be:Bd 36 (e:Rat))(bd:Bd 3 (d:Rat)){v κ:Rat}(hv:Bd 70 v)(hp:Bd κ ((p0:Rat)+v*(p1+v*(p2+v))))(hδ:Bd κ (((d:Rat)*v-u)*((d:Rat)*v-u)-e))(hκ:1000000000000000000000000000000*κ<1)
 (hN:nA p0 p1 p2 u e d*nA p0 p1 p2 u e d-e*(nB p1 p2 u e d*nB p1 p2 u e d)≠0):False:=by
 have eA:((nA p0 p1 p2 u e d:Int):Rat)=(u:Rat)*u*u+p2*d*(u*u)+p1*(d*d)*u+p0*(d*d*d)+e*(3*u+p2*d):=by unfold nA;simp only[HR,Hg];rfl
 have eB:((nB p1 p2 u e d:Int):Rat)=(e:Rat)+3*(u*u)+2*p2*d*u+p1*(d*d):=by unfold nB;simp only[HR,Hg];rfl
 have eN:((nA p0 p1 p2 u e d*nA p0 p1 p2 u e d-e*(nB p1 p2 u e d*nB p1 p2 u e d):Int):Rat)=(nA p0 p1 p2 u e d:Rat)*nA p0 p1 p2 u e d-e*((nB p1 p2 u e d:Rat)*nB p1 p2 u e d):=by simp only[IS,Hg]
 have n1:(1:Rat)<=((nA p0 p1 p2 u e d*nA p0 p1 p2 u e d-e*(nB p1 p2 u e d*nB p1 p2 u e d):Int):Rat)\/((nA p0 p1 p2 u e d*nA p0 p1 p2 u e d-e*(nB p1 p2 u e d*nB p1 p2 u e d):Int):Rat) <= -1:=by
  generalize nA p0 p1 p2 u e d*nA p0 p1 p2 u e d-e*(nB p1 p2 u e d*nB p1 p2 u e d)=N at hN
  rcases Ic hN with z |z
  ·right;have:=rle (a:=N) (b := -1) (by omega);exact this
  ·left;have:=rle (a:=1) (b:=N) (by omega);exact this
 rw[eN]at n1;generalize (nA p0 p1 p2 u e d:Rat)=A at *
 generalize (nB p1 p2 u e d:Rat)=B at *
 clear eN hN;generalize (p0:Rat)=q0 at *
 generalize (p1:Rat)=q1 at *
 generalize (p2:Rat)=q2 at *
 generalize (u:Rat)=U at *
 generalize (e:Rat)=E at *
 generalize (d:Rat)=D at *
 have k0:0<=κ:=by obtain⟨h1,h2⟩:=hp;grind
 have bY:Bd 300 (D*v-U):=by have h1:=bd.mul hv;obtain⟨h2,h3⟩:=h1;obtain⟨h4,h5⟩:=bu;exact⟨by grind,by grind⟩
 have b33:Bd 33 (3*U):=by obtain⟨h4,h5⟩:=bu;exact⟨by grind,by grind⟩
 have bC:Bd 60000 (3*U+q2*D):=(b33.add (b2.mul bd)).mono (by grind);have bYC:Bd 70000 (D*v-U+(3*U+q2*D)):=(bY.add bC).mono (by grind);have bDDD:Bd 27 (D*D*D):=((bd.mul bd).mul bd).mono (by grind);have bDD:Bd 9 (D*D):=(bd.mul bd).mono (by grind);have bUU:Bd 121 (U*U):=(bu.mul bu).mono (by grind)
 have bA:Bd 20000000 A:=by rw[eA];exact(((((bUU.mul bu).add ((b2.mul bd).mul bUU)).add ((b1.mul bDD).mul bu)).add (b0.mul bDDD)).add (be.mul bC)).mono (by grind)
 have bB:Bd 2000000 B:=by rw[eB];have c3:Bd 3 (3:Rat):=⟨by grind,by grind⟩;have c2:Bd 2 (2:Rat):=⟨by grind,by grind⟩;exact(((be.add (c3.mul bUU)).add (((c2.mul b2).mul bd).mul bu)).add (b1.mul bDD)).mono (by grind)
 have eps:A+B*(D*v-U)=D*D*D*(q0+v*(q1+v*(q2+v)))-((D*v-U)*(D*v-U)-E)*(D*v-U+(3*U+q2*D)):=by rw[eA,eB];grind
 have bneg:Bd (70000*κ) (-(((D*v-U)*(D*v-U)-E)*(D*v-U+(3*U+q2*D)))):=by obtain⟨h1,h2⟩:=hδ.mul bYC;exact⟨by grind,by grind⟩
 have bE:Bd (100000*κ) (A+B*(D*v-U)):=by rw[eps];have h1:=(bDDD.mul hp).add bneg;rw[show ∀a b:Rat,a-b=a + -b fromλa b=>by grind];exact h1.mono (by grind)
 have bM:Bd 1000000000 (A-B*(D*v-U)):=by obtain⟨h1,h2⟩:=bB.mul bY;obtain⟨h3,h4⟩:=bA;exact⟨by grind,by grind⟩
 have e2:A*A-E*(B*B)=(A+B*(D*v-U))*(A-B*(D*v-U))+B*B*((D*v-U)*(D*v-U)-E):=by grind
 have fin:=(bE.mul bM).add ((bB.mul bB).mul hδ);rw[<- e2]at fin;obtain⟨f1,f2⟩:=fin;rcases n1 with z |z<;>grind
theorem De{m a b c:Int}(h:CubOk a b c m){u e d s:Int}(hu : -11<=u/\u<=11)(he:0<=e)(he':e<36)(hd:1<=d/\d<=3)(ns:NS e)(hs:s=1\/s = -1/\0<e){x y:Rat}(hxy:x<y)(hw:1000000000000000000000000000000000000000000*(y-x)<=1)(bx:Bd 68 x)
 (h1:0<=cdR m a b c x) (h1':cdR m a b c y<=0) (h2:0<sdR [u,e,d,s] x) (h2':sdR [u,e,d,s] y<=0):False:=by
 have cb:∀q∈aM m a b c,q.natAbs<16384:=λq hq=>by
  obtain⟨s1,s2,s3⟩:=h.small;have a9:=h.a9;have q1:(a*a).natAbs<=9*9:=bW (by omega) (by omega);have q2:(a*a*a).natAbs<=9*9*9:=bW q1 (by omega);have q3:(3*m*(b*c)*a).natAbs<=3*7*(3*3)*9:=bW s3 (by omega);have en:=lI m a b c;simp only[aM,GX,List.not_mem_nil,or_false]at hq;rcases hq with rfl |rfl |rfl |rfl
  ·rw[en];omega
  ·omega
  ·omega
  ·decide
 have toB:∀{q:Int} {M:Int},-M<=q->q<=M->Bd (M:Rat) (q:Rat):=λ{q M} l r=>⟨by have:=rle l;rw[Rat.intCast_neg]at this;exact this,rle r⟩
 have B0:Bd 16384 ((-nrm m a b c:Int):Rat):=toB (M:=16384) (by have:=cb (-nrm m a b c) (by simp[aM]);omega) (by have:=cb (-nrm m a b c) (by simp[aM]);omega);have B1:Bd 16384 ((3*(a*a)-3*m*(b*c):Int):Rat):=toB (M:=16384) (by have:=cb (3*(a*a)-3*m*(b*c)) (by simp[aM]);omega) (by have:=cb (3*(a*a)-3*m*(b*c)) (by simp[aM]);omega);have B2:Bd 16384 ((-3*a:Int):Rat):=toB (M:=16384) (by have:=cb (-3*a) (by simp[aM]);omega) (by have:=cb (-3*a) (by simp[aM]);omega);have N:=Dd (u:=u) (e:=e) (a:=a) h.nc h.bc (show 0<d by omega) he ns
 have pvx:∀v:Rat,pv (aM m a b c) v=((-nrm m a b c:Int):Rat)+v*(((3*(a*a)-3*m*(b*c):Int):Rat)+v*(((-3*a:Int):Rat)+v)):=λv=>by show((-nrm m a b c:Int):Rat)+v*(((3*(a*a)-3*m*(b*c):Int):Rat)+v*(((-3*a:Int):Rat)+v*(((1:Int):Rat)+v*0)))=_;rw[show((1:Int):Rat)+v*0=1 by grind,Rat.mul_one]
 have s1:pv (aM m a b c) x<=0:=by
  have:=mW m a b c x;rcases bN (pv (aM m a b c) x)with⟨z,_⟩ |⟨z,_⟩ |⟨_,z⟩
  ·grind
  ·grind
  ·omega
 have s2:0<=pv (aM m a b c) y:=by
  have:=mW m a b c y;rcases bN (pv (aM m a b c) y)with⟨_,z⟩ |⟨z,_⟩ |⟨z,_⟩
  ·omega
  ·grind
  ·grind
 rw[pvx]at s1 s2;have BU:Bd 11 (u:Rat):=toB (M:=11) hu.1 hu.2;have BE:Bd 36 (e:Rat):=toB (M:=36) (by omega) (by omega);have BD:Bd 3 (d:Rat):=toB (M:=3) (by omega) hd.2;have d1:(1:Rat)<=(d:Rat):=rle (a:=1) (b:=d) hd.1;have e0:(0:Rat)<=(e:Rat):=rle (a:=0) (b:=e) he;generalize -nrm m a b c=p0 at *
 generalize 3*(a*a)-3*m*(b*c)=p1 at *
 generalize -3*a=p2 at *
 have by':Bd 70 y:=by obtain⟨l,r⟩:=bx;exact⟨by grind,by grind⟩
 have bx':Bd 70 x:=bx.mono (by grind);have near:∀{v κ:Rat},Bd 70 v->Bd κ ((p0:Rat)+v*(p1+v*(p2+v)))->Bd κ (((d:Rat)*v-u)*((d:Rat)*v-u)-e)->1000000000000000000000000000000*κ<1->False:=λhv hp hδ hκ=>Ab B0 B1 B2 BU BE BD hv hp hδ hκ N
 generalize (p0:Rat)=q0 at *
 generalize (p1:Rat)=q1 at *
 generalize (p2:Rat)=q2 at *
 have bK:Bd 10000000 (y*y+x*y+x*x+q2*(x+y)+q1):=((((by'.mul by').add (bx'.mul by')).add (bx'.mul bx')).add (B2.mul (bx'.add by')) |>.add B1).mono (by grind);have ed:(q0+y*(q1+y*(q2+y)))-(q0+x*(q1+x*(q2+x)))=(y-x)*(y*y+x*y+x*x+q2*(x+y)+q1):=by grind
 have bw:Bd (y-x) (y-x):=⟨by grind,by grind⟩;have bdf:=bw.mul bK;rw[<- ed]at bdf;have kap:1000000000000000000000000000000*((y-x)*10000000)<1:=by grind
 have bpx:Bd ((y-x)*10000000) (q0+x*(q1+x*(q2+x))):=by obtain⟨l,r⟩:=bdf;exact⟨by grind,by grind⟩
 have bpy:Bd ((y-x)*10000000) (q0+y*(q1+y*(q2+y))):=by obtain⟨l,r⟩:=bdf;exact⟨by grind,by grind⟩
 clear bdf ed bK s1 s2 B0 B1 B2 N;have eY:(d:Rat)*y-u=((d:Rat)*x-u)+d*(y-x):=by grind
 have bYx:Bd 300 ((d:Rat)*x-u):=by obtain⟨l,r⟩:=BD.mul bx';obtain⟨l2,r2⟩:=BU;exact⟨by grind,by grind⟩
 have bYy:Bd 300 ((d:Rat)*y-u):=by obtain⟨l,r⟩:=BD.mul by';obtain⟨l2,r2⟩:=BU;exact⟨by grind,by grind⟩
 have bη:Bd (3*(y-x)) ((d:Rat)*(y-x)):=BD.mul bw;have η0:0<(d:Rat)*(y-x):=Hr (by grind) (by grind);rcases hs with rfl |⟨rfl,ep⟩
 ·have hy:¬((d:Rat)*y-u<0\/((d:Rat)*y-u)*((d:Rat)*y-u)<e):=λz=>by have:=(oH (u:=u) (e:=e) (b:=d) y).mpr z;omega
  have hx:=(oH (u:=u) (e:=e) (b:=d) x).mp h2;refine near by' bpy ?_ kap;generalize (d:Rat)*y-u=Y' at *
  generalize (d:Rat)*x-u=Y at *
  generalize (d:Rat)*(y-x)=η at *
  generalize (e:Rat)=E at *
  have y0:0<=Y':=by grind
  have y1:E<=Y'*Y':=by grind
  have b1:=bη.mul bYy;have b2:=bη.mul bYx;refine⟨by grind,?_⟩;rcases hx with z |z
  ·have:Y'*Y'<=η*Y':=Hn (by grind) y0;obtain⟨_,r⟩:=b1;grind
  ·have:Y'*Y'-Y*Y=η*Y'+η*Y:=by rw[eY];grind
   obtain⟨_,r⟩:=b1;obtain⟨_,r2⟩:=b2;grind
 ·have hx:=(oI (u:=u) (e:=e) (b:=d) x).mp h2
  have hy:¬((d:Rat)*y-u<=0/\(e:Rat)<((d:Rat)*y-u)*((d:Rat)*y-u)):=λz=>by have:=(oI (u:=u) (e:=e) (b:=d) y).mpr z;omega
  refine near bx' bpx ?_ kap;generalize (d:Rat)*y-u=Y' at *
  generalize (d:Rat)*x-u=Y at *
  generalize (d:Rat)*(y-x)=η at *
  generalize (e:Rat)=E at *
  obtain⟨x0,x1⟩:=hx;have b1:=bη.mul bYy;have b2:=bη.mul bYx;refine⟨by grind,?_⟩;by_cases z:Y'<=0
  ·have z2:Y'*Y'<=E:=by
    rcases HE (a:=Y'*Y') (b:=E)with w |w
    ·exact w
    ·grind
   have:Y*Y-Y'*Y' = -(η*Y')-η*Y:=by rw[eY];grind
   obtain⟨l,_⟩:=b1;obtain⟨l2,_⟩:=b2;grind
  ·have z':0<Y':=by grind
   have h3:0 <= -Y:=by grind
   have h4 : -Y * -Y<=η * -Y:=Hn (by grind) h3;obtain⟨l2,_⟩:=b2;grind
noncomputable def eH(ps:List (List Int)):List (List Int×Nat):=ps.map λp=>(p,1)
theorem vT{ps:List (List Int)}(hp:∀p∈ps,Pri p)(hn:ps.Nodup):Use (eH ps):=by
 refine⟨λp h=>?_,λp h=>?_,?_⟩
 ·obtain⟨f,hf,rfl⟩:=GT.mp h;exact hp f hf
 ·obtain⟨f,hf,rfl⟩:=GT.mp h;exact GP _
 ·unfold eH;rw[HQ];show(ps.map id).Nodup;rw[List.map_id];exact hn
theorem vS{c:Int}{ps:List (List Int)}:whl c (eH ps)=ae [c] (prd ps):=by
 unfold whl
 congr 1
 have e1:fP id (eH ps)=flt (eH ps):=gf _ λp hp=>by obtain⟨f,hf,rfl⟩:=GT.mp hp;rfl
 rw[e1,tY]
 congr 1
 unfold eH;rw[HQ];show ps.map id=ps;exact List.map_id _
theorem vU{ps:List (List Int)}:mor (eH ps) 1=[1]:=by unfold mor;rw[gf (h:=λ_=>0) _ λp hp=>by obtain⟨f,hf,rfl⟩:=GT.mp hp;rfl];exact uj _
theorem rk{c:Int}{ps:List (List Int)}(hp:∀p∈ps,Pri p)(hn:ps.Nodup)(hc:c≠0)(hl:(ae [c] (prd ps)).length<=20):Cop2 (ae [c] (prd ps)) (slopeL (ae [c] (prd ps))):=λd dn dt h1 h2=>by
 have U:=vT hp hn;have ew:=vS (c:=c) (ps:=ps);obtain⟨tw,nw,_⟩:=oC U hc;have hcom:=vN U hc (by rw[ew];exact hl);rw[vU]at hcom;rw[<- ew]at h1 h2 hl;have h3:=(uN (by rw[fh];omega) tw (gq tw)).all d h1 h2;rw[hcom]at h3;rcases Nat.lt_or_ge 1 d.length with z |z
 ·have:=Dv.short dn dt ((tr_snoc (r:=[])).mpr (by decide)) (show([1]:List Int).length<d.length from z) h3;cases this
 ·exact z
structure Cts(P:List Int)(S:List (Rat->Int)):Prop where
 tr:Tr P
 ne:P≠[]
 cop:Cop2 P (slopeL P)
 cut:∀s∈S,Cut s
 sg:∃ε:Int,(ε=1\/ε = -1)/\∀x,sgR (pv P x)=ε*cpr x S
 ap:∀x y:Rat,x<y->y-x<=1/2^200->S.Pairwise λs t=>¬(inC s x y/\inC t x y)
theorem Cts.row{P:List Int}{S:List (Rat->Int)}(C:Cts P S)(hs:slopeL P≠[]){N:Nat}(hN:P.length<=N+1){t n t' n':Int}(hn:0<n)(hn':0<n')(hlt:t*n'<t'*n) :
 vr 0 (sgv (aF (N+1) (ah P) (ah (slopeL P))) t n)-vr 0 (sgv (aF (N+1) (ah P) (ah (slopeL P))) t' n')=cnt S ((t:Rat)/(n:Rat)) ((t':Rat)/(n':Rat)):=by
 obtain⟨tP,nP,cop,hS,⟨ε,hε,hf⟩,hp⟩:=C;have tS:=gq tP;obtain⟨g0,t0,n0,e0⟩:=fK tP nP;have copS:=cop.shr tP nP tS;have lS:(ah (slopeL P)).length=P.length-1:=by unfold ah;rw[GO,fh]
 have hst:=li N (ah P) (ah (slopeL P)) (by omega) t0 n0 (c7 tS) copS;obtain⟨g1,t1,n1,e1⟩:=fK tS hs
 have hN1:1<=N:=by have:=GQ.mpr n1;omega
 obtain⟨M,rfl⟩:∃M,N=M+1:=⟨N-1,by omega⟩
 have er:aF (M+1+1) (ah P) (ah (slopeL P))=ah P::ah (slopeL P)::aF M (nxt (ah P) (ah (slopeL P))) (nxt (ah (slopeL P)) (nxt (ah P) (ah (slopeL P)))):=by show(if ah P=[]then _ else ah P::(if ah (slopeL P)=[]then _ else _))=_;rw[if_neg n0,if_neg n1]
 rw[er]at hst ⊢;have g0':(0:Rat)<((ak P:Int):Rat):=Hi.mpr g0;have g1':(0:Rat)<((ak (slopeL P):Int):Rat):=Hi.mpr g1
 have hd:∀x,pv (slopeL (ah P)) x=((ak (slopeL P):Int):Rat)/((ak P:Int):Rat)*pv (ah (slopeL P)) x:=λx=>by
  have h1:=gE (a:=slopeL (ah P)) (c:=slopeL P) (u:=(ak P:Int)) x λk=>by rw[dj,dj,e0 (k+1)];grind
  have h2:=gE (a:=ah (slopeL P)) (c:=slopeL P) (u:=(ak (slopeL P):Int)) x e1;have h3:((ak (slopeL P):Int):Rat)/((ak P:Int):Rat)*((ak P:Int):Rat)=((ak (slopeL P):Int):Rat):=Hh (by grind);rw[h1]at h2
  have h4:((ak P:Int):Rat)*pv (slopeL (ah P)) x=((ak P:Int):Rat)*(((ak (slopeL P):Int):Rat)/((ak P:Int):Rat)*pv (ah (slopeL P)) x):=by
   rw[h2];generalize ((ak (slopeL P):Int):Rat)/((ak P:Int):Rat)=w at *
   rw[<- h3];grind
  generalize pv (slopeL (ah P)) x=u at *
  generalize ((ak (slopeL P):Int):Rat)/((ak P:Int):Rat)*pv (ah (slopeL P)) x=v at *
  have h5:((ak P:Int):Rat)*(u-v)=0:=by grind
  rcases Rat.mul_eq_zero.mp h5 with z |z
  ·grind
  ·grind
 have hf':∀x,sgR (pv (ah P) x)=ε*cpr x S:=λx=>by rw[<- hf,gE (a:=ah P) (c:=P) (u:=(ak P:Int)) x e0,qw g0']
 have:=wA hst (eV g1' g0') hd hS hε hf' (eV (by decide) (Rat.pow_pos (by decide))) hp ((cT hn hn').mpr hlt);rw[qp hn,qp hn'];exact this
theorem Dg{m a b c:Int}(h:CubOk a b c m){u e d s:Int}(hu : -11<=u/\u<=11)(he:0<=e)(he':e<36)(hd:1<=d/\d<=3)(ns:NS e)(hs:s=1\/s = -1/\0<e){x y:Rat}(hxy:x<y)(hw:y-x<=1/2^200):¬(inC (cdR m a b c) x y/\inC (sdR [u,e,d,s]) x y):=by
 rintro⟨⟨h1,h1'⟩,h2,h2'⟩;have cc:=nv (a:=a) h.nc h.bc
 have cs:Cut (sdR [u,e,d,s]):=by
  refine fM (eO (f:=[u,e,d]) rfl hd.1 ?_).1;unfold spF;rcases hs with rfl |⟨rfl,ep⟩
  ·exact Ig _ (by show _∈if 0<=e then _ else _;rw[if_pos he];exact G1.mpr rfl)
  ·exact Ht _ (by show _∈if 0<e then _ else _;rw[if_pos ep];exact G1.mpr rfl)
 have F:=SpI.first h
 have l64:cdR m a b c (-64)=1:=by have:=nu (a:=a) (t := -64) (n:=1) h.nc h.bc (by decide);rw[show((-64:Int):Rat)/((1:Int):Rat) = -64 by decide +kernel]at this;rw[this];have:0<aL m a b c (-64) 1:=F.lp;unfold sg;rw[if_neg (by omega),if_pos this]
 have r64:cdR m a b c 64 = -1:=by have:=nu (a:=a) (t:=64) (n:=1) h.nc h.bc (by decide);rw[show((64:Int):Rat)/((1:Int):Rat)=64 by decide +kernel]at this;rw[this];have:aL m a b c 64 1<0:=F.hn;unfold sg;rw[if_pos this]
 have x64:x<=64:=HF.mp λz=>by have:=cc.m 64 x z (by omega);omega
 have y64 : -64<=y:=HF.mp λz=>by have:=cc.m y (-64) z (by omega);omega
 have hw':1000000000000000000000000000000000000000000000*(y-x)<=1:=by
  have:(1:Rat)/2^200<=1/1000000000000000000000000000000000000000000000:=by decide +kernel
  grind
 have z1:0<sdR [u,e,d,s] (x-(y-x)):=by
  rcases cs.u (x-(y-x))with z |z |z
  ·omega
  ·have:=cs.m (x-(y-x)) x (by grind) (by omega);omega
  ·have:=cs.m (x-(y-x)) x (by grind) (by omega);omega
 have z2:0<=cdR m a b c (x-(y-x)):=by
  rcases cc.u (x-(y-x))with z |z |z
  ·omega
  ·omega
  ·have:=cc.m (x-(y-x)) x (by grind) (by omega);omega
 exact De h hu he he' hd ns hs (x:=x-(y-x)) (y:=y) (by grind) (by grind) ⟨by grind,by grind⟩ z2 h1' z1 h2'
def Fac11(f:List Int):Prop:=∃u e b:Int,f=[u,e,b] /\ -11<=u/\u<=11 /\ -36<e/\e<36/\1<=b/\b<=3/\NS e
theorem Fac11.g{f:List Int}(h:Fac11 f):FacG f:=by obtain⟨u,e,b,rfl,h1,h2,h3,h4,h5,h6,h7⟩:=h;exact⟨u,e,b,rfl,by omega,by omega,by omega,by omega,h5,by omega,h7⟩
theorem Db{m a b c:Int}(h:CubOk a b c m){f l:List Int}(hf:Fac11 f)(hl:l∈spF f){x y:Rat}(hxy:x<y)(hw:y-x<=1/2^200):¬(inC (cdR m a b c) x y/\inC (sdR l) x y):=by obtain⟨u,e,b',rfl,h1,h2,h3,h4,h5,h6,h7⟩:=hf;obtain⟨_,s,rfl,he,hs⟩:=eO rfl h5 hl;exact Dg h ⟨h1,h2⟩ he h4 ⟨h5,h6⟩ h7 hs hxy hw
theorem wR{f:List Int}(h:FacG f):(ay f).length<=3:=by obtain⟨u,e,b,rfl,_⟩:=h;show(aH (aD u e b)).length<=3;rw[plain_len];unfold aD;split<;>simp
theorem CW{m a b c:Int}(h:CubOk a b c m){fs:List (List Int)}(hF:∀f∈fs,Fac11 f)(hn:(fs.map ay).Nodup){P:List Int}(hP:P=ae (aM m a b c) (prd (fs.map ay)))(hl:P.length<=20):Cts P (cdR m a b c::(spots fs).map sdR):=by
 have hFG:∀f∈fs,FacG f:=λf hf=>(hF f hf).g
 have hFQ:∀f∈fs,fD f:=λf hf=>(hFG f hf).q
 have pri:∀p∈aM m a b c::fs.map ay,Pri p:=λp hp=>by
  rcases GX.mp hp with rfl |hp
  ·exact Dc h.nc h.bc
  ·obtain⟨f,hf,rfl⟩:=GT.mp hp;exact fj (hFG f hf)
 have nd:(aM m a b c::fs.map ay).Nodup:=Ij.mpr ⟨λz=>by
  obtain⟨f,hf,e⟩:=GT.mp z;have:=wR (hFG f hf);rw[e]at this
  exact absurd this (by show ¬(4<=3);decide),hn⟩
 have pl:Pln (prd (fs.map ay)):=gG _ λs hs=>by obtain⟨f,hf,rfl⟩:=GT.mp hs;exact(fj (hFG f hf)).pln
 have tP:Tr P:=by rw[hP];exact eJ (mV m a b c) pl.tr
 have e1:ae [1] P=P:=one_mul P tP;have eP:P=ae [1] (prd (aM m a b c::fs.map ay)):=by rw[<- e1,hP];rfl
 have nP:P≠[]:=by rw[hP];intro z;have:=congrArg List.length z;rw[bJ (fv m a b c).ne pl.ne]at this;have h4:(aM m a b c).length=4:=rfl;rw[h4]at this;have:4+(prd (fs.map ay)).length-1=0:=this;omega
 have cop:=rk (c:=1) pri nd (by decide) (by rw[<- eP];exact hl);rw[<- eP]at cop;refine⟨tP,nP,cop,λs hs=>?_,⟨1,.inl rfl,λx=>?_⟩,λx y hxy hw=>?_⟩
 ·rcases GX.mp hs with rfl |hs
  ·exact nv h.nc h.bc
  ·obtain⟨l,hl,rfl⟩:=GT.mp hs;exact fM (fH hFQ hl)
 ·have h1:=kd (t:=x.num) (bH x) (fv m a b c).ne pl.ne;rw[<- hP,dq (bH x),dq (bH x),dq (bH x),gg,mW]at h1;have h2:=re (t:=x.num) (n:=x.den) (c:=1) (bH x) hFQ;rw[ly λs hs=>by obtain⟨f,hf,rfl⟩:=GT.mp hs;exact fj (hFG f hf),one_mul _ pl.tr,dq (bH x),gg,<- mZ]at h2;rw[h1,h2];simp only[cpr];rw[show sg 1=1 from rfl,G9,G9]
 ·refine List.pairwise_cons.mpr ⟨λt ht=>?_,?_⟩
  ·obtain⟨l,hl,rfl⟩:=GT.mp ht;obtain⟨f,hf,hm⟩:=List.mem_flatMap.mp hl;exact Db h (hF f hf) hm hxy hw
  ·rw[IN];exact(o9 hFG hn).imp_of_mem λ{l l'} hl hl' h=>vw (fH hFQ hl) (fH hFQ hl') h hxy hw
theorem CV{fs:List (List Int)}(hF:∀f∈fs,FacG f)(hn:(fs.map ay).Nodup){P:List Int}(hP:P=prd (fs.map ay))(hl:P.length<=20):Cts P ((spots fs).map sdR):=by
 have hFQ:∀f∈fs,fD f:=λf hf=>(hF f hf).q
 have pri:∀p∈fs.map ay,Pri p:=λp hp=>by obtain⟨f,hf,rfl⟩:=GT.mp hp;exact fj (hF f hf)
 have pl:Pln (prd (fs.map ay)):=gG _ λs hs=>(pri s hs).pln
 have e1:ae [1] P=P:=one_mul P (by rw[hP];exact pl.tr);have eP:P=ae [1] (prd (fs.map ay)):=by rw[<- e1,hP]
 have cop:=rk (c:=1) pri hn (by decide) (by rw[<- eP];exact hl);rw[<- eP]at cop;refine⟨by rw[hP];exact pl.tr,by rw[hP];exact pl.ne,cop,λs hs=>?_,⟨1,.inl rfl,λx=>?_⟩,λx y hxy hw=>?_⟩
 ·obtain⟨l,hl,rfl⟩:=GT.mp hs;exact fM (fH hFQ hl)
 ·have h2:=re (t:=x.num) (n:=x.den) (c:=1) (bH x) hFQ;rw[ly pri,one_mul _ pl.tr,dq (bH x),gg,<- mZ,<- hP]at h2;rw[h2];rfl
 ·rw[IN];exact(o9 hF hn).imp_of_mem λ{l l'} hl hl' h=>vw (fH hFQ hl) (fH hFQ hl') h hxy hw
noncomputable def bT(l:List Int)(t n:Int):Int:=if l.length=5 then aL (cf l 3) (cf l 0) (cf l 1) (cf l 2) t n else aU l t n
noncomputable def cp(l:List Int)(x:Rat):Int:=if l.length=5 then cdR (cf l 3) (cf l 0) (cf l 1) (cf l 2) x else sdR l x
def SpK(l:List Int):Prop:=(∃a b c m:Int,l=[a,b,c,m,0]/\CubOk a b c m)\/(∃a:Int,l=[a,0,0,2,0] /\ -9<=a/\a<=9)\/∃u e b s:Int,l=[u,e,b,s] /\ -11<=u/\u<=11/\0<=e/\e<36/\1<=b/\b<=3/\(s=1\/s = -1/\0<e)
theorem pd{u e b s:Int}(he:0<=e)(hb:1<=b)(hs:s=1\/s = -1/\0<e):Spt [u,e,b,s]:=by
 refine(eO (f:=[u,e,b]) rfl hb ?_).1;unfold spF;rcases hs with rfl |⟨rfl,ep⟩
 ·exact Ig _ (by show _∈if 0<=e then _ else _;rw[if_pos he];exact G1.mpr rfl)
 ·exact Ht _ (by show _∈if 0<e then _ else _;rw[if_pos ep];exact G1.mpr rfl)
theorem zZ(x:Int):nrm 2 x 0 0=x*x*x:=rN 2 x
theorem im(a t n:Int):bT [a,0,0,2,0] t n=(a*n-t)*(a*n-t)*(a*n-t):=by show nrm 2 (a*n-t) (0*n) (0*n)=_;rw[Ho,zZ]
theorem ke(x:Int):sg (x*x*x)=sg x:=by
 rcases Int.lt_trichotomy x 0 with h |h |h
 ·have h1:0<x*x:=Int.mul_pos_of_neg_of_neg h h;have h2:x*x*x<0:=Jb h1 h;unfold sg;rw[if_pos h2,if_pos h]
 ·rw[h];rfl
 ·have h2:0<x*x*x:=jz h;unfold sg;rw[if_neg (by omega),if_pos h2,if_neg (by omega),if_pos h]
theorem qk(a t n:Int):aU [a,0,1,1] t n=sg (a*n-t):=by
 have e:aU [a,0,1,1] t n=aX (0*n*n) (1*t-a*n):=rfl;rw[e,Ho,Ho,G9];rcases Int.lt_trichotomy (a*n-t) 0 with h |h |h
 ·have h1:0<(t-a*n)*(t-a*n):=G2 (by omega) (by omega);unfold aX sg;rw[if_neg (by omega),if_pos h1,if_pos h];rfl
 ·have h1:t-a*n=0:=by omega
  rw[h1,h];rfl
 ·unfold aX sg;rw[if_pos (.inl (by omega)),if_neg (by omega),if_pos h]
theorem uG(a:Int):cp [a,0,0,2,0]=sdR [a,0,1,1]:=funext λx=>by show sg (bT [a,0,0,2,0] x.num x.den)=aU [a,0,1,1] x.num x.den;rw[im,ke,qk]
theorem SpK.cut{l:List Int}(h:SpK l):Cut (cp l):=by
 rcases h with⟨a,b,c,m,rfl,hC⟩ |⟨a,rfl,_⟩ |⟨u,e,b,s,rfl,_,_,he,_,hb,_,hs⟩
 ·exact nv hC.nc hC.bc
 ·rw[uG];exact fM (pd (by decide) (by decide) (.inl rfl))
 ·exact fM (pd he hb hs)
theorem wX(l:List Int)(t n:Int):sg (aU l t n)=aU l t n:=by rcases qm l t n with h |h |h<;>rw[h]<;>rfl
theorem SpK.div{l:List Int}(h:SpK l){t n:Int}(hn:0<n):cp l ((t:Rat)/(n:Rat))=sg (bT l t n):=by
 rcases h with⟨a,b,c,m,rfl,hC⟩ |⟨a,rfl,_⟩ |⟨u,e,b,s,rfl,_,_,he,_,hb,_,hs⟩
 ·exact nu hC.nc hC.bc hn
 ·rw[uG,iH _ hn,qk,im,ke]
 ·show sdR [u,e,b,s] _=sg (aU [u,e,b,s] t n);rw[iH _ hn,wX]
theorem SpK.first{l:List Int}(h:SpK l):0<bT l (-64) 1/\bT l 64 1<=0:=by
 rcases h with⟨a,b,c,m,rfl,hC⟩ |⟨a,rfl,h1,h2⟩ |⟨u,e,b,s,rfl,h1,h2,he,he',hb,hb',hs⟩
 ·have F:=SpI.first hC;exact⟨F.lp,GS F.hn⟩
 ·rw[im,im];refine⟨jz (by omega),?_⟩;have h3:=ke (a*1-64);have h4:sg (a*1-64) = -1:=by unfold sg;rw[if_pos (by omega)]
  rw[h4]at h3;unfold sg at h3
  generalize (a*1-64)*(a*1-64)*(a*1-64)=X at h3
  split at h3
  ·omega
  ·split at h3<;>omega
 ·have q:∀x:Int,50<=x->e<x*x:=λx hx=>by have:=Ir hx hx (by decide) (by omega);omega
  show 0<aU [u,e,b,s] (-64) 1/\aU [u,e,b,s] 64 1<=0;rcases hs with rfl |⟨rfl,ep⟩
  ·have e1:aU [u,e,b,1] (-64) 1=aX (e*1*1) (b * -64-u*1):=rfl;have e2:aU [u,e,b,1] 64 1=aX (e*1*1) (b*64-u*1):=rfl;rw[e1,e2,Hs,Hs,Hs];rcases bL e (b * -64-u)with⟨z,_⟩ |⟨z,y,_⟩ |⟨z,y,_⟩<;>rcases bL e (b*64-u)with⟨w,v⟩ |⟨w,_⟩ |⟨w,_⟩<;>rw[z,w]<;>try omega
   have:=q (b*64-u) (by omega);omega
  ·have e1:aU [u,e,b,-1] (-64) 1=0-aX (e*1*1) (0-(b * -64-u*1)):=rfl;have e2:aU [u,e,b,-1] 64 1=0-aX (e*1*1) (0-(b*64-u*1)):=rfl;rw[e1,e2,Hs,Hs,Hs];have:=q (0-(b * -64-u)) (by omega);rcases bL e (0-(b * -64-u))with⟨z,y⟩ |⟨z,_,y⟩ |⟨z,_,y⟩<;>rcases bL e (0-(b*64-u))with⟨w,_⟩ |⟨w,v,_⟩ |⟨w,v,_⟩<;>rw[z,w]<;>omega
theorem oE{l:List Int}(h:SpK l)(t n:Int):(0<bT l (2*t) (2*n)↔0<bT l t n)/\(bT l (2*t) (2*n)<=0↔bT l t n<=0):=by
 rcases h with⟨a,b,c,m,rfl,hC⟩ |⟨a,rfl,_⟩ |⟨u,e,b,s,rfl,_⟩
 rotate_left
 ·show(0<aL 2 a 0 0 (2*t) (2*n)↔0<aL 2 a 0 0 t n)/\(aL 2 a 0 0 (2*t) (2*n)<=0↔aL 2 a 0 0 t n<=0);rw[io];omega
 rotate_left
 ·show(0<aL m a b c (2*t) (2*n)↔0<aL m a b c t n)/\(aL m a b c (2*t) (2*n)<=0↔aL m a b c t n<=0);rw[io];omega
 ·show(0<aU [u,e,b,s] (2*t) (2*n)↔0<aU [u,e,b,s] t n)/\(aU [u,e,b,s] (2*t) (2*n)<=0↔aU [u,e,b,s] t n<=0);rw[j5 _ (by decide)];exact⟨Iff.rfl,Iff.rfl⟩
noncomputable def hfG(l:List Int)(s:Int×Int×Int):Int×Int×Int:=if bT l (s.1+s.2.1) (2*s.2.2)<=0 then(2*s.1,s.1+s.2.1,2*s.2.2)else(s.1+s.2.1,2*s.2.1,2*s.2.2)
noncomputable def itG(l:List Int):Nat->Int×Int×Int
 |0=>(-64,64,1)
 |j+1=>hfG l (itG l j)
structure SpG(l:List Int)(s:Int×Int×Int)(j:Nat):Prop where
 n:s.2.2=2^j
 w:s.2.1=s.1+128
 lo : -64*s.2.2<=s.1
 hi:s.2.1<=64*s.2.2
 lp:0<bT l s.1 s.2.2
 hn:bT l s.2.1 s.2.2<=0
theorem SpG.pos{l:List Int}{s:Int×Int×Int}{j:Nat}(S:SpG l s j):0<s.2.2:=by rw[S.n];exact Int.pow_pos (by decide)
theorem SpG.half{l:List Int}(h:SpK l){s:Int×Int×Int}{j:Nat}(S:SpG l s j):SpG l (hfG l s) (j+1):=by
 have p:=S.pos;obtain⟨n,w,l',hh,lp,hn⟩:=S;have e2:2*s.2.2=2^(j+1):=by rw[n,Hq,Hv]
 unfold hfG;split
 ·next z=>exact⟨e2,by show s.1+s.2.1=2*s.1+128;omega,by show -64*(2*s.2.2)<=2*s.1;omega,by show s.1+s.2.1<=64*(2*s.2.2);omega,(oE h _ _).1.mpr lp,z⟩
 ·next z=>exact⟨e2,by show 2*s.2.1=s.1+s.2.1+128;omega,by show -64*(2*s.2.2)<=s.1+s.2.1;omega,by show 2*s.2.1<=64*(2*s.2.2);omega,by show 0<bT l (s.1+s.2.1) (2*s.2.2);omega,(oE h _ _).2.mpr hn⟩
theorem gb{l:List Int}(h:SpK l):∀j,SpG l (itG l j) j
 |0=>⟨rfl,rfl,by show(-64:Int)*1 <= -64;decide,by show(64:Int)<=64*1;decide,h.first.1,h.first.2⟩
 |j+1=>(gb h j).half h
theorem c8{x:Int}:(0<=sg x↔0<=x)/\(sg x<=0↔x<=0)/\(0<sg x↔0<x):=by
 unfold sg;split
 ·omega
 ·split<;>omega
def RS(x y:Rat)(l l':List Int):Prop:=¬(inC (cp l) x y/\inC (cp l') x y)
theorem xH{x y:Rat}{ls:List (List Int)}(h:(ls.map cp).Pairwise λs t=>¬(inC s x y/\inC t x y)){l l':List Int}(hl:l∈ls)(hl':l'∈ls)(ne:l'≠l):RS x y l l':=by
 rw[IN]at h
 induction h with
 |nil=>cases hl
 | @cons a t ha _ ih =>
  rcases GX.mp hl with e |h1
  ·rcases GX.mp hl' with e' |h2
   ·exact absurd (e'.trans e.symm) ne
   ·rw[e];exact ha l' h2
  ·rcases GX.mp hl' with e' |h2
   ·rw[e'];exactλz=>ha l h1 ⟨z.2,z.1⟩
   ·exact ih h1 h2
theorem SpG.thin{l:List Int}{s:Int×Int×Int}{j:Nat}(S:SpG l s j)(hj:207<=j):((s.1:Rat)/(s.2.2:Rat))<((s.2.1:Rat)/(s.2.2:Rat))/\((s.2.1:Rat)/(s.2.2:Rat))-((s.1:Rat)/(s.2.2:Rat))<=1/2^200:=by
 have p:=S.pos;have w:=S.w;refine⟨(cT p p).mpr (Is (by omega) p),?_⟩;have pr:(0:Rat)<(s.2.2:Rat):=Hi.mpr p;have hw:(s.2.1:Rat)=(s.1:Rat)+128:=by rw[w,HR];rfl
 have e1:((s.2.1:Rat)/(s.2.2:Rat))-((s.1:Rat)/(s.2.2:Rat))=128/(s.2.2:Rat):=by rw[hw,Rat.div_def,Rat.div_def,Rat.div_def];grind
 rw[e1]
 have n1:(2:Int)^207<=s.2.2:=by
  rw[S.n];have:(2:Nat)^207<=2^j:=IW (by decide) hj;have e:∀k:Nat,((2:Int)^k)=((2^k:Nat):Int):=λk=>by rw[Int.natCast_pow];rfl
  rw[e,e];exact Int.ofNat_le.mpr this
 have n2:(128*2^200:Rat)<=(s.2.2:Rat):=by
  have:=rle n1;have e:(((2:Int)^207:Int):Rat)=128*2^200:=by decide +kernel
  rw[e]at this;exact this
 have q:(0:Rat)<2^200:=Rat.pow_pos (by decide);generalize (2:Rat)^200=B at q n2 ⊢
 generalize (s.2.2:Rat)=N at pr n2 ⊢
 have h1:128/N*N=128:=Hh (by grind);have h2:1/B*B=1:=Hh (by grind);generalize 128/N=x at h1 ⊢
 generalize 1/B=y at h2 ⊢
 refine HF.mp λz=>?_
 have y0:0<y:=Ie.mp λw=>by have:=Hn w (GV q);grind
 have h3:y*N<x*N:=IR z pr;have h4:128*B*y<=N*y:=Hn n2 (GV y0);have h5:128*B*y=128:=by rw[show 128*B*y=128*(y*B) by grind,h2];grind
 rw[h5,show N*y=y*N by grind]at h4;grind
theorem mE{l:List Int}(h:SpK l){t n t' n':Int}(hn:0<n)(hn':0<n'):inC (cp l) ((t:Rat)/(n:Rat)) ((t':Rat)/(n':Rat))↔0<=bT l t n/\bT l t' n'<=0:=by unfold inC;rw[h.div hn,h.div hn',c8.1,c8.2.1]
structure Fel(P:List Int)(ls:List (List Int)):Prop where
 ct:Cts P (ls.map cp)
 sp:∀l∈ls,SpK l
def cQ(ls:List (List Int))(l:List Int)(s:Int×Int×Int):Prop:=∀x∈ls,x≠l->¬(0<=bT x s.1 s.2.2/\bT x s.2.1 s.2.2<=0)
theorem Fel.far{P:List Int}{ls:List (List Int)}(F:Fel P ls){l:List Int}(hl:l∈ls){s:Int×Int×Int}{j:Nat}(S:SpG l s j)(hj:207<=j):cQ ls l s:=λx hx ne z=>by obtain⟨t1,t2⟩:=S.thin hj;have p:=S.pos;exact xH (F.ct.ap _ _ t1 t2) hl hx ne ⟨(mE (F.sp l hl) p p).mpr ⟨GS S.lp,S.hn⟩,(mE (F.sp x hx) p p).mpr z⟩
theorem o2{α:Type}[DecidableEq α]{f:α->Int}{l:α}:∀{ls:List α},l∈ls->ls.Pairwise (λa b=>¬(a=l/\b=l))->(∀x∈ls,x≠l->f x=0)->f l=1->(ls.map f).sum=1
 | [],h,_,_,_=>by cases h
 |a::t,h,hp,h0,h1=>by
  obtain⟨p1,p2⟩:=List.pairwise_cons.mp hp;rw[HC,List.sum_cons];by_cases e:a=l
  ·have:(t.map f).sum=0:=by
    have z:∀x∈t,f x=0:=λx hx=>h0 x (GU _ hx) λy=>p1 x hx ⟨e,y⟩
    clear p1 p2 hp h h0
    induction t with
    |nil=>rfl
    |cons b t ih=>rw[HC,List.sum_cons,z b (GY ..),ih λx hx=>z x (GU _ hx)];rfl
   rw[this,e,h1];rfl
  ·rw[h0 a (GY ..) e,o2 ((GX.mp h).resolve_left (Ne.symm e)) p2 (λx hx=>h0 x (GU _ hx)) h1];rfl
theorem Fel.one{P:List Int}{ls:List (List Int)}(F:Fel P ls){l:List Int}(hl:l∈ls){s:Int×Int×Int}{j:Nat}(S:SpG l s j)(hA:cQ ls l s):cnt (ls.map cp) ((s.1:Rat)/(s.2.2:Rat)) ((s.2.1:Rat)/(s.2.2:Rat))=1:=by
 have p:=S.pos;have G:=gb (F.sp l hl) 207;obtain⟨t1,t2⟩:=G.thin (GP _);have pw:=F.ct.ap _ _ t1 t2;rw[IN]at pw;have inl:=(mE (F.sp l hl) (t:=(itG l 207).1) (t':=(itG l 207).2.1) G.pos G.pos).mpr ⟨GS G.lp,G.hn⟩;unfold cnt;rw[HQ];have pw2:ls.Pairwise (λa b=>¬(a=l/\b=l)):=pw.imp λ{a b} h z=>h (by rw[z.1,z.2];exact⟨inl,inl⟩)
 refine o2 hl pw2 (λx hx ne=>?_) ?_
 ·show(if 0<cp x _/\cp x _<=0 then(1:Int)else 0)=0;rw[(F.sp x hx).div p,(F.sp x hx).div p];exact if_neg λz=>hA x hx ne ⟨GS (c8.2.2.mp z.1),c8.2.1.mp z.2⟩
 ·show(if 0<cp l _/\cp l _<=0 then(1:Int)else 0)=1;rw[(F.sp l hl).div p,(F.sp l hl).div p];exact if_pos ⟨c8.2.2.mpr S.lp,c8.2.1.mpr S.hn⟩
theorem InG{l:List Int}{s:Int×Int×Int}{j:Nat}(S:SpG l s j):InS s (hfG l s):=by
 have p:=S.pos;have w:=S.w;unfold hfG InS;split
 ·refine⟨by show s.1*(2*s.2.2)<=2*s.1*s.2.2;exact Int.le_of_eq (by grind),?_⟩;show(s.1+s.2.1)*s.2.2<=s.2.1*(2*s.2.2);have:=HD (show s.1+s.2.1<=s.2.1*2 by omega) (GS p);rw[HP]at this;exact this
 ·refine⟨?_,by show 2*s.2.1*s.2.2<=s.2.1*(2*s.2.2);exact Int.le_of_eq (by grind)⟩;show s.1*(2*s.2.2)<=(s.1+s.2.1)*s.2.2;have:=HD (show s.1*2<=s.1+s.2.1 by omega) (GS p);rw[HP]at this;exact this
theorem Fel.half{P:List Int}{ls:List (List Int)}(F:Fel P ls){l:List Int}{s:Int×Int×Int}{j:Nat}(hl:l∈ls)(S:SpG l s j)(hA:cQ ls l s):cQ ls l (hfG l s):=λx hx ne z=>by
 have p:=S.pos;have S2:=S.half (F.sp l hl);have p2:=S2.pos;have I:=InG S;have C:=(F.sp x hx).cut;refine hA x hx ne ?_;have q1:=(F.sp x hx).div (t:=s.1) p;have q2:=(F.sp x hx).div (t:=(hfG l s).1) p2;have q3:=(F.sp x hx).div (t:=s.2.1) p;have q4:=(F.sp x hx).div (t:=(hfG l s).2.1) p2;have z1:=c8.1.mpr z.1;have z2:=c8.2.1.mpr z.2;rw[<- q2]at z1;rw[<- q4]at z2;constructor
 ·rw[<- c8.1,<- q1];rcases ID (s.1*(hfG l s).2.2) ((hfG l s).1*s.2.2)with y |y
  ·have lt:=(cT p p2).mpr y;rcases ID (cp x ((s.1:Rat)/(s.2.2:Rat))) 0 with w |w
   ·have:=C.m _ _ lt (by omega);omega
   ·exact w
  ·have e:s.1*(hfG l s).2.2=(hfG l s).1*s.2.2:=Int.le_antisymm I.1 y;have:((s.1:Rat)/(s.2.2:Rat))=(((hfG l s).1:Rat)/((hfG l s).2.2:Rat)):=Rat.le_antisymm (HF.mp λw=>absurd ((cT p2 p).mp w) (by omega)) (HF.mp λw=>absurd ((cT p p2).mp w) (by omega));rw[this];exact z1
 ·rw[<- c8.2.1,<- q3];rcases ID ((hfG l s).2.1*s.2.2) (s.2.1*(hfG l s).2.2)with y |y
  ·have lt:=(cT p2 p).mpr y;have:=C.m _ _ lt z2;omega
  ·have e:(hfG l s).2.1*s.2.2=s.2.1*(hfG l s).2.2:=Int.le_antisymm I.2 y;have:(((hfG l s).2.1:Rat)/((hfG l s).2.2:Rat))=((s.2.1:Rat)/(s.2.2:Rat)):=Rat.le_antisymm (HF.mp λw=>absurd ((cT p p2).mp w) (by omega)) (HF.mp λw=>absurd ((cT p2 p).mp w) (by omega));rw[<- this];exact z2
theorem dvd_cf{m:Nat}{l:List Int}:m∣ak l↔∀k,m∣(cf l k).natAbs:=by
 rw[dvd_gcdL];constructor
 ·intro h k;by_cases hk:k<l.length
  ·rw[ck hk];exact h _ (Hu hk)
  ·rw[bD (HG hk)];exact Nat.dvd_zero _
 ·intro h v hv;obtain⟨k,hk,rfl⟩:=HZ hv;have:=h k;rw[ck hk]at this;exact this
theorem BY{l r:List Int}(h:∀k,(cf l k).natAbs=(cf r k).natAbs):ak l=ak r :=
 Nat.dvd_antisymm (dvd_cf.mpr λk=>by rw[<- h k];exact dvd_cf.mp (Ia _) k) (dvd_cf.mpr λk=>by rw[h k];exact dvd_cf.mp (Ia _) k)
theorem uV(a b:List Int)(k:Nat):cf (aZ a b) k=cf a k-cf b k:=by
 rw[<- o3,fx,eh];split
 ·rfl
 ·next h=>rw[bD (l:=a) (by omega),bD (l:=b) (by omega)];rfl
theorem Dq(l:List Int)(k:Nat):cf (aZ [] l) k = -cf l k:=by rw[uV,show cf [] k=0 from bD (GR _)];omega
theorem BX(l:List Int):ak (aZ [] l)=ak l:=BY λk=>by rw[Dq];omega
theorem qo{l:List Int}(h:ak l=1):ah l=l:=by
 have e:=gA (l:=l);rw[h]at e
 have:scL ((1:Nat):Int) (ah l)=ah l:=by unfold scL;rw[show(λx:Int=>((1:Nat):Int)*x)=id from funext λx=>G9 x];exact List.map_id _
 rw[this]at e;exact e
theorem yb{l:List Int}(h:Tr l)(hne:l≠[]):ak (ah l)=1:=by
 obtain⟨p,_⟩:=fK h hne;have e:=jq (ak l:Int) (ah l);rw[gA,Hw]at e;have p':0<ak l:=by omega
 exact Nat.eq_of_mul_eq_mul_left p' (by rw[<- e,Nat.mul_one])
structure LnkF(one other:List Int):Prop where
 f:0<aS one other
 g:0<(ak (aA one other):Int)
 tq:Tr (aT one other)
 eq:∀n,aS one other*cf one n=ao (aT one other) other n-(ak (aA one other):Int)*cf (nxt one other) n
 sh:ah (nxt one other)=nxt one other
 tn:Tr (nxt one other)
 ln:(nxt one other).length<other.length
theorem sL{one other:List Int}(t1:Tr one)(t2:Tr other)(ho:other≠[])(hn:nxt one other≠[]):LnkF one other:=by
 have er:rst one other=aA one other:=by unfold rst;rw[if_neg ho]
 have ex:nxt one other=ah (aZ [] (aA one other)):=by unfold nxt;rw[er]
 have ts:Tr (aZ [] (aA one other)):=by unfold aZ;exact cL _
 have ns:aZ [] (aA one other)≠[]:=λz=>hn (by rw[ex,z];rfl)
 have g:=(fK ts ns).1;have sc:=rL (one:=one) ho;rw[BX]at g sc;exact⟨uC ho t2,g,CP ho t1 t2,sc,by rw[ex];exact qo (yb ts ns),oQ one other,lF ho⟩
theorem iX(c:Int)(l:List Int)(n:Nat):cf (ae [c] l) n=c*cf l n:=by rw[aE];unfold ao;show sm [c] l n 0+tm [c] l n 0=_;unfold sm tm;rw[if_pos (GR _),ng,H0,Im]
theorem oO{c:Int}(h:c≠0):Tr [c]:=(tr_snoc (r:=[])).mpr h
theorem LnkF.sub{one other:List Int}(L:LnkF one other)(t1:Tr one):ae [aS one other] one=aZ (ae (aT one other) other) (ae [(ak (aA one other):Int)] (nxt one other)):=by
 have f:=L.f;refine gW (eJ (oO (by omega)) t1) (by unfold aZ;exact cL _) λk=>?_
 rw[iX,uV,iX,aE,L.eq k]
theorem LnkF.add{one other:List Int}(L:LnkF one other)(t1:Tr one):ae [aS one other] one=fB (ae (aT one other) other) (ae [0-(ak (aA one other):Int)] (nxt one other)):=by
 have f:=L.f;refine gW (eJ (oO (by omega)) t1) (by unfold fB;exact cL _) λk=>?_
 have e:cf (fB (ae (aT one other) other) (ae [0-(ak (aA one other):Int)] (nxt one other))) k=cf (ae (aT one other) other) k+cf (ae [0-(ak (aA one other):Int)] (nxt one other)) k:=by unfold fB;rw[fx,fy,G9]
 rw[e,iX,iX,aE,L.eq k,Int.zero_sub,Int.neg_mul];exact Int.sub_eq_add_neg
theorem yq{l:List Int}(h:Pln l):ah l=l:=qo h.prim
end RM
open PySem.W in
local macro_rules | `(tactic|walk_at "comp_ok")=>`(tactic|exact⟨by with_unfolding_all rfl,by decide +kernel,rfl,by decide +kernel,by repeat' (first |exact List.forall_mem_nil _ |refine List.forall_mem_cons.2 ⟨rfl,?_⟩),by rfl,by repeat' (first |exact .nil |refine .cons ⟨rfl,by first |exact Or.inl rfl |exact Or.inr rfl,rfl⟩ ?_)⟩)
namespace R81
open PySem L2 RM
noncomputable def top(i:Nat):Stmt:=PySem.Challenge.pw_rootspan_k81_root_papers.main.body.getD i (.Pass ⟨0,0,0,0⟩)
abbrev kn:Stmt:=top 6
abbrev km:Stmt:=top 7
abbrev kf:Stmt:=top 8
abbrev fN:Stmt:=mF (top 9) 0
abbrev lg:Stmt:=mF (top 9) 5
abbrev kv:Stmt:=top 11
abbrev kC:Stmt:=top 12
abbrev kh:Stmt:=top 13
abbrev kE:Stmt:=top 14
abbrev kx:Stmt:=top 15
abbrev ki:Stmt:=top 16
abbrev iI:Stmt:=top 17
abbrev kg:Stmt:=top 18
abbrev kj:Stmt:=top 19
abbrev kB:Stmt:=top 21
abbrev ko:Stmt:=top 22
abbrev ky:Stmt:=top 23
abbrev kr:Stmt:=top 25
abbrev kt:Stmt:=top 26
abbrev kF:Stmt:=top 27
abbrev kD:Stmt:=top 28
abbrev lh:Stmt:=mF (top 30) 0
abbrev ku:Stmt:=top 32
abbrev kz:Stmt:=top 33
abbrev kA:Stmt:=top 35
abbrev iL:Stmt:=top 36
abbrev iJ:Stmt:=top 37
abbrev k9:Stmt:=top 39
abbrev kH:Stmt:=top 40
abbrev kG:Stmt:=top 41
abbrev kJ:Stmt:=top 42
abbrev kS:Stmt:=top 43
abbrev lf:Stmt:=top 44
abbrev kT:Stmt:=top 45
abbrev kW:Stmt:=top 46
abbrev iM:Stmt:=top 47
abbrev kQ:Stmt:=top 48
abbrev kX:Stmt:=top 49
abbrev kN:Stmt:=top 50
abbrev iP:Stmt:=top 51
abbrev kP:Stmt:=top 52
abbrev kK:Stmt:=top 53
abbrev kM:Stmt:=top 54
abbrev kO:Stmt:=top 55
abbrev kR:Stmt:=top 56
abbrev kY:Stmt:=top 57
abbrev kZ:Stmt:=top 58
abbrev kI:Stmt:=top 59
abbrev ld:Stmt:=top 60
abbrev k8:Stmt:=top 61
abbrev iQ:Stmt:=top 62
abbrev kU:Stmt:=top 63
abbrev kL:Stmt:=top 64
abbrev iN:Stmt:=top 65
abbrev iO:Stmt:=top 66
abbrev iK:Stmt:=top 67
theorem scM{N P:List Str}{sc:Scope}(a:sc.kind=.function:=by rfl)(b:sc.isCoroutine=false:=by rfl)(c:sc.isGenerator=false:=by rfl)(e:N.Nodup:=by decide +kernel)(f:N.take P.length=P:=by rfl)(g:∀x∈P,sc.names.lookup x=some .local\/sc.names.lookup x=some .cell:=by decide +kernel)(h:∀y∈sc.names,y.2≠.free:=by decide +kernel):FnScope N P sc:=⟨a,b,c,e,f,g,h⟩
theorem sc_shared:FnScope ["row","divisor","value"] ["row"] (av kn):=scM
theorem sc_shared_by_two:FnScope ["one","other","greater","less","rest"] ["one","other"] (av km):=scM
theorem xh:FnScope ["value"] ["value"] (av kf):=scM
theorem sc_Ratio___init__:FnScope ["self","top","bottom","divisor"] ["self","top","bottom"] (av fN):=scM
theorem xA:FnScope ["self","other"] ["self","other"] (av lg):=scM
theorem sc_poly:FnScope ["row","length"] ["row"] (av kv):=scM
theorem xt:FnScope ["row"] ["row"] (av kC):=scM
theorem sc_taken:FnScope ["first","second","length"] ["first","second"] (av kh):=scM
theorem xv:FnScope ["row","place"] ["row","place"] (av kE):=scM
theorem sc_multiplied:FnScope ["first","second","product","j","one","k","other"] ["first","second"] (av kx):=scM
theorem xi:FnScope ["row"] ["row"] (av ki):=scM
theorem sc_shrunk:FnScope ["row","divisor"] ["row"] (av iI):=scM
theorem sc_value_parts:FnScope ["row","top","bottom","above","below","value"] ["row","top","bottom"] (av kg):=scM
theorem xj:FnScope ["row","ratio"] ["row","ratio"] (av kj):=scM
theorem sc_divided:FnScope ["first","second","size","sign","steps","factor","quotient","rest","place","lead"] ["first","second"] (av kB):=scM
theorem xk:FnScope ["row","factor"] ["row","factor"] (av ko):=scM
theorem sc_lowered:FnScope ["row","second","place","lead","kept","k","value"] ["row","second","place","lead"] (av ky):=scM
theorem xn:FnScope ["polynomial"] ["polynomial"] (av kr):=scM
theorem sc_row_from:FnScope ["first","second","row","one","other","rest"] ["first","second"] (av kt):=scM
theorem sc_changes:FnScope ["row","ratio","many","before","polynomial","sign"] ["row","ratio"] (av kF):=scM
theorem xu:FnScope ["row","low","high"] ["row","low","high"] (av kD):=scM
theorem xB:FnScope ["self","row","low","high"] ["self","row","low","high"] (av lh):=scM
theorem sc_root_paper:FnScope ["one","row"] ["one"] (av ku):=scM
theorem sc_link_of:FnScope ["first","second","found"] ["first","second"] (av kz):=scM
theorem xq:FnScope ["polynomial","low","high","paper"] ["polynomial","low","high","paper"] (av kA):=scM
theorem xr:FnScope ["polynomial","row","links"] ["polynomial","row","links"] (av iL):=scM
theorem xo:FnScope ["row","k","link"] ["row","k","link"] (av iJ):=scM
theorem xz:FnScope ["_law_script","_law_k"] ["_law_script","_law_k"] (av k9):=scM
theorem xx:FnScope ["_law_found"] ["_law_found"] (av kH):=scM
theorem xw:FnScope ["_law_cell","_law_most"] ["_law_cell","_law_most"] (av kG):=scM
theorem sc__law_trim:FnScope ["_law_row","_law_size"] ["_law_row"] (av kJ):=scM
theorem sc__law_mul:FnScope ["_law_kp","_law_kq","_law_made","_law_i","_law_one","_law_j","_law_other"] ["_law_kp","_law_kq"] (av kS):=scM
theorem sc__law_add:FnScope ["_law_kp","_law_kq","_law_made","_law_k"] ["_law_kp","_law_kq"] (av lf):=scM
theorem sc__law_is_poly:FnScope ["_law_found","_law_one"] ["_law_found"] (av kT):=scM
theorem sc__law_gcd:FnScope ["_law_a","_law_b","_law_rest"] ["_law_a","_law_b"] (av kW):=scM
theorem sc__law_shrunk:FnScope ["_law_kp","_law_most","_law_one"] ["_law_kp"] (av iM):=scM
theorem sc__law_plain:FnScope ["_law_kp","_law_made"] ["_law_kp"] (av kQ):=scM
theorem sc__law_factor_by:FnScope ["_law_cell","_law_most","_law_u","_law_b","_law_n","_law_e"] ["_law_cell","_law_most"] (av kX):=scM
theorem sc__law_shape:FnScope ["_law_factor","_law_u","_law_b"] ["_law_factor"] (av kN):=scM
theorem sc__law_factors_by:FnScope ["_law_drawn","_law_most","_law_room","_law_made","_law_shapes","_law_cell","_law_one","_law_shape_here"] ["_law_drawn","_law_most","_law_room"] (av iP):=scM
theorem sc__law_product:FnScope ["_law_factors","_law_made","_law_one"] ["_law_factors"] (av kP):=scM
theorem xy:FnScope ["_law_square","_law_due"] ["_law_square","_law_due"] (av kK):=scM
theorem sc__law_side:FnScope ["_law_spot","_law_top","_law_bottom","_law_due","_law_square"] ["_law_spot","_law_top","_law_bottom"] (av kM):=scM
theorem sc__law_roots_of:FnScope ["_law_factors","_law_made","_law_one"] ["_law_factors"] (av kO):=scM
theorem sc__law_norm:FnScope ["_law_a","_law_b","_law_c","_law_m","_law_cubes"] ["_law_a","_law_b","_law_c","_law_m"] (av kR):=scM
theorem sc__law_cube_shape:FnScope ["_law_cube","_law_a","_law_b","_law_c","_law_m"] ["_law_cube"] (av kY):=scM
theorem sc__law_cube_by:FnScope ["_law_cell","_law_other","_law_m","_law_a","_law_b","_law_c"] ["_law_cell","_law_other","_law_m"] (av kZ):=scM
theorem sc__law_way:FnScope ["_law_spot","_law_top","_law_bottom","_law_first","_law_second"] ["_law_spot","_law_top","_law_bottom"] (av kI):=scM
theorem sc__law_at:FnScope ["_law_kp","_law_top","_law_bottom","_law_made","_law_scale","_law_one"] ["_law_kp","_law_top","_law_bottom"] (av ld):=scM
theorem sc__law_changes:FnScope ["_law_row","_law_top","_law_bottom","_law_many","_law_last","_law_kp","_law_here"] ["_law_row","_law_top","_law_bottom"] (av k8):=scM
theorem sc__law_alone:FnScope ["_law_spots","_law_spot","_law_span_here","_law_other","_law_low","_law_high"] ["_law_spots","_law_spot","_law_span_here"] (av iQ):=scM
theorem sc__law_half:FnScope ["_law_span_here","_law_spot","_law_middle"] ["_law_span_here","_law_spot"] (av kU):=scM
theorem sc__law_span:FnScope ["_law_spots","_law_spot","_law_more","_law_span_here","_law_k"] ["_law_spots","_law_spot","_law_more"] (av kL):=scM
theorem sc__law_link_holds:FnScope ["_law_link","_law_first","_law_second","_law_third","_law_factor","_law_k","_law_right"] ["_law_link","_law_first","_law_second","_law_third"] (av iN):=scM
theorem sc__law_holds:FnScope ["_law_paper","_law_kp","_law_span_here","_law_row","_law_links","_law_one","_law_k","_law_link"] ["_law_paper","_law_kp","_law_span_here"] (av iO):=scM
theorem sc_law:FnScope ["_law_script","_law_first","_law_cube","_law_factors","_law_spots","_law_kp","_law_one","_law_spot","_law_span_here","_law_n","_law_found","_law_told"] ["_law_script"] (av iK):=scM
structure Txt(K:PySem.W.Frag)(mg:Str->Option Value):Prop where
 abs_:mg "abs"=none
 len_:mg "len"=none
 max_:mg "max"=none
 range_:mg "range"=none
 enumerate_:mg "enumerate"=none
 reversed_:mg "reversed"=none
 list_:mg "list"=none
 all_:mg "all"=none
 isinstance_:mg "isinstance"=none
 int_:mg "int"=none
 bool_:mg "bool"=none
 tuple_:mg "tuple"=none
def iB(K:PySem.W.Frag):Sp:=λvs H Q _=>∃(a:Addr) (ns:List Int),vs=[.ref a]/\SqL K H a (ns.map V.int)/\ns.length<=63/\∀H',Q (.bl true) H'
section
variable {P:Program}{w:World}{K:PySem.W.Frag}{mg:Str->Option Value}{base:Heap}
theorem qE(n:Nat):(List.replicate n [V.int 0]).flatten=(List.replicate n (0:Int)).map V.int:=by
 induction n with
 |zero=>rfl
 |succ n ih=>rw[HX,II,ih,HX];rfl
theorem jk{n j:Nat}{i:Int}(e:i=j)(h:j<n):ixN n i=some j:=by subst e;unfold ixN;rw[if_pos (IB _),if_pos (by omega)];simp
theorem jb(l:List Int)(j:Nat)(x:Int):(l.map V.int).set j (.int x)=(l.set j x).map V.int:=by rw[List.map_set]
theorem jH{l:List Int}{j:Nat}{i:Int}(e:i=j)(h:j<l.length):atI (l.map V.int) i=some (.int (cf l j)):=by subst e;exact fA (by rw[List.getElem?_map,de h];rfl)
def SameB(p:Addr)(H H':Hp):Prop:=∀b o,b≠p->H b=some o->H' b=some o
theorem SameB.refl(p:Addr)(H:Hp):SameB p H H:=λ_ _ _ h=>h
theorem SameB.then_new{p q:Addr}{H H1:Hp}{o:HO}(s:SameB p H H1)(h:H1 q=none):SameB p H (upd H1 q o):=λb u n e=>by rw[upd_ne (aN (s b u n e) h)];exact s b u n e
theorem SameB.then_upd{p:Addr}{H H1:Hp}{o:HO}(s:SameB p H H1):SameB p H (upd H1 p o):=λb u n e=>by rw[upd_ne n];exact s b u n e
def AllB(k:Nat)(l:List Int):Prop:=∀x∈l,Bits k x
theorem AllB.cf{k:Nat}{l:List Int}(h:AllB k l)(n:Nat):Bits k (cf l n):=by
 by_cases hn:n<l.length
 ·rw[ck hn];exact h _ (Hu hn)
 ·rw[bD (HG hn)];exact Bits.zero
theorem dM{H H2:Hp}{p:Addr}{o:HO}(s:Same H H2)(hp:H p=none):Same H (upd H2 p o):=λb u e=>by rw[upd_ne (aN e hp)];exact s b u e
noncomputable def b6(ms:List Int)(lo hi:Option Int):List Int:=(ms.drop (HT.sIx ms.length 0 lo)).take (HT.sIx ms.length ms.length hi-HT.sIx ms.length 0 lo)
theorem jy(ms:List Int)(lo hi:Option Int):di (ms.map V.int) lo hi=(b6 ms lo hi).map V.int:=by unfold di b6;rw[GO,<- List.map_drop,<- List.map_take]
theorem CZ{ms:List Int}{lo hi:Option Int}{x:Int}(h:x∈b6 ms lo hi):x∈ms:=List.mem_of_mem_drop (List.mem_of_mem_take h)
theorem C0(ms:List Int)(lo hi:Option Int):(b6 ms lo hi).length<=ms.length:=by unfold b6;rw[HL,Ik];omega
theorem AllB.cut{k:Nat}{ms:List Int}{lo hi:Option Int}(h:AllB k ms):AllB k (b6 ms lo hi):=λx hx=>h x (CZ hx)
theorem AllB.app{k:Nat}{l r:List Int}(h1:AllB k l)(h2:AllB k r):AllB k (l++r):=λx hx=>(HK.mp hx).elim (h1 x) (h2 x)
theorem AllB.zeros{k n:Nat}:AllB k (List.replicate n 0):=λx hx=>by rw[List.eq_of_mem_replicate hx];exact Bits.zero
theorem AllB.mono{j k:Nat}{l:List Int}(h:AllB j l)(hk:j<=k:=by decide):AllB k l:=λx hx=>(h x hx).mono hk
theorem AllB.nil{k:Nat}:AllB k []:=λ_ h=>nomatch h
theorem AllB.snoc{k:Nat}{l:List Int}{x:Int}(h:AllB k l)(hx:Bits k x):AllB k (l++[x]):=h.app λy hy=>by rw[G1.mp hy];exact hx
theorem Ao{l:List Int}{x:Int}(h:x∈trim l):x∈l:=by
 unfold trim at h
 rw[List.mem_reverse]at h;exact List.mem_reverse.mp ((List.dropWhile_sublist _).subset h)
theorem AllB.trim{k:Nat}{l:List Int}(h:AllB k l):AllB k (trim l):=λx hx=>h x (Ao hx)
theorem dE{l:List Int}{i:Nat}{x:V}(h:(l.map V.int)[i]?=some x):∃c,l[i]?=some c/\x=.int c/\c∈l/\l.take (i+1)=l.take i++[c]:=by
 rw[List.getElem?_map]at h;cases e:l[i]? with
 |none=>rw[e]at h;cases h
 |some c=>rw[e]at h;exact⟨c,rfl,(Option.some.inj h).symm,List.mem_of_getElem? e,by rw[HM,e];rfl⟩
def mkL(H:Hp)(Q:VK)(r:List Int):Prop:=∀(p:Addr) (H':Hp),Same H H'->H p=none->H' p=some (.lst (r.map V.int))->Q (.ref p) H'
def gv(K:PySem.W.Frag):Sp:=λvs H Q _=>∃(a:Addr) (ns:List Int),vs=[.ref a]/\SqL K H a (ns.map V.int)/\mkL H Q (trim ns)
def gw(K:PySem.W.Frag):Sp:=λvs H Q _=>∃(a:Addr) (ns:List Int) (k:Nat),vs=[.ref a,.int k]/\SqL K H a (ns.map V.int)/\Q (.int (ns.getD k 0)) H
def j3(K:PySem.W.Frag)(g:List Int->List Int->List Int):Sp:=λvs H Q _=>∃(a b:Addr) (xs ys:List Int),vs=[.ref a,.ref b]/\SqL K H a (xs.map V.int)/\SqL K H b (ys.map V.int)/\xs.length<=1000000/\ys.length<=1000000/\mkL H Q (g xs ys)
theorem sr(i j:Nat):(if((j:Nat):Int)>((i:Nat):Int)then((j:Nat):Int)else((i:Nat):Int))=((max i j:Nat):Int):=by split<;>omega
theorem p7{n:Nat}(h:n<=sizeLine) : -(2^62)<=((n:Nat):Int)/\((n:Nat):Int)<2^62:=by have:=sizeLine_eq;omega
def RwH(H:Hp)(ps:List Addr)(xss:List (List Int)):Prop:=ps.length=xss.length/\∀(i:Nat) (p:Addr) (xs:List Int),ps[i]?=some p->xss[i]?=some xs->H p=some (.lst (xs.map V.int))
theorem RwH.nil{H:Hp}:RwH H [] []:=⟨rfl,λi p xs h=>by simp at h⟩
theorem RwH.same{H H':Hp}{ps:List Addr}{xss:List (List Int)}(h:RwH H ps xss)(s:Same H H'):RwH H' ps xss:=⟨h.1,λi p xs a b=>s _ _ (h.2 i p xs a b)⟩
theorem RwH.rws{H:Hp}{ps:List Addr}{xss:List (List Int)}(h:RwH H ps xss):Rws K H ps xss:=⟨h.1,λi p xs a b=>SqL.of (h.2 i p xs a b)⟩
theorem RwH.snoc{H:Hp}{ps:List Addr}{xss:List (List Int)}{p:Addr}{xs:List Int}(h:RwH H ps xss)(hp:H p=some (.lst (xs.map V.int))):RwH H (ps++[p]) (xss++[xs]):=by
 refine⟨by rw[GZ,GZ,h.1];rfl,λi q ys a b=>?_⟩;by_cases hi:i<ps.length
 ·rw[List.getElem?_append_left hi]at a;rw[List.getElem?_append_left (by rw[<- h.1];exact hi)]at b;exact h.2 i q ys a b
 ·rw[List.getElem?_append_right (by omega)]at a;rw[List.getElem?_append_right (by rw[<- h.1];omega),<- h.1]at b;by_cases h0:i-ps.length=0
  ·rw[h0]at a b;obtain rfl:p=q:=by simpa using a
   obtain rfl:xs=ys:=by simpa using b
   exact hp
  ·rw[List.getElem?_eq_none_iff.mpr (by simp;omega)]at a;cases a
theorem RwH.get{H:Hp}{ps:List Addr}{xss:List (List Int)}{i:Nat}(h:RwH H ps xss)(hi:i<xss.length):∃p,ps[i]?=some p/\H p=some (.lst ((xss.getD i []).map V.int)):=by
 have hi':i<ps.length:=by rw[h.1];exact hi
 refine⟨ps[i],List.getElem?_eq_getElem hi',h.2 i _ _ (List.getElem?_eq_getElem hi') ?_⟩;rw[List.getElem?_eq_getElem hi];simp[List.getD,hi]
theorem RwH.of_get{H:Hp}{ps:List Addr}{xss:List (List Int)}{i:Nat}{x:V}(h:RwH H ps xss)(hx:(ps.map V.ref)[i]?=some x):∃p xs,x=.ref p/\ps[i]?=some p/\xss[i]?=some xs/\H p=some (.lst (xs.map V.int))/\i<xss.length:=by
 rw[List.getElem?_map]at hx;cases e:ps[i]? with
 |none=>rw[e]at hx;cases hx
 |some p =>
  rw[e]at hx;have hi:i<ps.length:=(List.getElem?_eq_some_iff.mp e).1;have hi':i<xss.length:=by rw[<- h.1];exact hi
  exact⟨p,xss[i],(Option.some.inj hx).symm,rfl,List.getElem?_eq_getElem hi',h.2 i p _ e (List.getElem?_eq_getElem hi'),hi'⟩
theorem f9(ps:List Addr)(p:Addr):ps.map V.ref++[V.ref p]=(ps++[p]).map V.ref:=by rw[G8];rfl
def TuH(H:Hp)(ps:List Addr)(xss:List (List Int)):Prop:=ps.length=xss.length/\∀(i:Nat) (p:Addr) (xs:List Int),ps[i]?=some p->xss[i]?=some xs->H p=some (.tup (xs.map V.int))
theorem TuH.nil{H:Hp}:TuH H [] []:=⟨rfl,λi p xs h=>by simp at h⟩
theorem TuH.same{H H':Hp}{ps:List Addr}{xss:List (List Int)}(h:TuH H ps xss)(s:Same H H'):TuH H' ps xss:=⟨h.1,λi p xs a b=>s _ _ (h.2 i p xs a b)⟩
theorem TuH.snoc{H:Hp}{ps:List Addr}{xss:List (List Int)}{p:Addr}{xs:List Int}(h:TuH H ps xss)(hp:H p=some (.tup (xs.map V.int))):TuH H (ps++[p]) (xss++[xs]):=by
 refine⟨by rw[GZ,GZ,h.1];rfl,λi q ys a b=>?_⟩;by_cases hi:i<ps.length
 ·rw[List.getElem?_append_left hi]at a;rw[List.getElem?_append_left (by rw[<- h.1];exact hi)]at b;exact h.2 i q ys a b
 ·rw[List.getElem?_append_right (by omega)]at a;rw[List.getElem?_append_right (by rw[<- h.1];omega),<- h.1]at b;by_cases h0:i-ps.length=0
  ·rw[h0]at a b;obtain rfl:p=q:=by simpa using a
   obtain rfl:xs=ys:=by simpa using b
   exact hp
  ·rw[List.getElem?_eq_none_iff.mpr (by simp;omega)]at a;cases a
theorem TuH.of_get{H:Hp}{ps:List Addr}{xss:List (List Int)}{i:Nat}{x:V}(h:TuH H ps xss)(hx:(ps.map V.ref)[i]?=some x):∃p xs,x=.ref p/\ps[i]?=some p/\xss[i]?=some xs/\H p=some (.tup (xs.map V.int))/\i<xss.length:=by
 rw[List.getElem?_map]at hx;cases e:ps[i]? with
 |none=>rw[e]at hx;cases hx
 |some p =>
  rw[e]at hx;have hi:i<ps.length:=(List.getElem?_eq_some_iff.mp e).1;have hi':i<xss.length:=by rw[<- h.1];exact hi
  exact⟨p,xss[i],(Option.some.inj hx).symm,rfl,List.getElem?_eq_getElem hi',h.2 i p _ e (List.getElem?_eq_getElem hi'),hi'⟩
theorem TuH.upd_lst{H:Hp}{ps:List Addr}{xss:List (List Int)}{a:Addr}{vs:List V}{o:HO}(h:TuH H ps xss)(ha:H a=some (.lst vs)):TuH (upd H a o) ps xss:=⟨h.1,λi p xs e1 e2=>by
 have e3:=h.2 i p xs e1 e2
 rw[L2.upd_ne (λz=>by rw[z,ha]at e3;cases e3)];exact e3⟩
theorem RwH.upd_no{H:Hp}{ps:List Addr}{xss:List (List Int)}{a:Addr}{o:HO}(h:RwH H ps xss)(hn:∀p∈ps,p≠a):RwH (upd H a o) ps xss:=⟨h.1,λi p xs e1 e2=>by rw[L2.upd_ne (hn p (List.mem_of_getElem? e1))];exact h.2 i p xs e1 e2⟩
def sp2:Sp:=λvs H Q _=>∃a b:Int,vs=[.int a,.int b]/\Q (.int (Nat.gcd a.natAbs b.natAbs:Nat)) H
theorem cZ(i:Int):(if i<0 then -i else i)=(i.natAbs:Int):=by split<;>omega
theorem yX(F:Fun K "shared_by_two" "shared_by_two" km f fd)(T:Txt K mg):FnOk P w K mg base CX0 1 f fd ["one","other"] sp2:=by
 refine F.ok sc_shared_by_two (λvs H Q E h=>?_) (λcdv A outer s H vs Q E hr h=>?_)
 ·obtain⟨a,b,rfl,_⟩:=h;rfl
 ·obtain⟨a,b,rfl,k⟩:=h
  refine⟨_,(af (aj (i:=2) sc_shared_by_two.nd rfl (Or.inl rfl) (aJ gi (by rfl) T.abs_ PyProof.Rows.boot_abs (aa (pv 0) ad)))
   (af (aj (i:=3) sc_shared_by_two.nd rfl (Or.inl rfl) (aJ gi (by rfl) T.abs_ PyProof.Rows.boot_abs (aa (pv 1) ad)))
   (af (fS PassesOwn.never (aC da (pv 3) ac (aw _))
     (af (aj (i:=4) sc_shared_by_two.nd rfl (Or.inl rfl) (ag cj (pv 2) (pv 3)))
       (af (aj (i:=2) sc_shared_by_two.nd rfl (Or.inl rfl) (pv 3))
       (ai (aj (i:=3) sc_shared_by_two.nd rfl (Or.inl rfl) (pv 4))))))
   (ai (au (pv 2)))))),?_⟩
  refine⟨_,rfl,_,rfl,?_⟩;refine⟨_,rfl,_,rfl,?_⟩;refine⟨λm σ' H'=>∃(x y:Int) (z:Option V),σ'=[some (.int a),some (.int b),some (.int x),some (.int y),z]/\H=H'/\0<=x/\0<=y/\y.natAbs=m/\Nat.gcd x.natAbs y.natAbs=Nat.gcd a.natAbs b.natAbs,⟨_,_,_,none,rfl,rfl,?_,?_,rfl,?_⟩,?_⟩
  ·rw[cZ];exact IB _
  ·rw[cZ];exact IB _
  ·rw[cZ,cZ,Hw,Hw]
  ·rintro m σ' H' ⟨x,y,z,rfl,rfl,hx,hy,rfl,hg⟩;refine⟨_,rfl,_,_,rfl,rfl,_,rfl,?_⟩;refine b9 (λhn=>?_) (λh0=>?_)
   ·have hp:0<y:=by have:y≠0:=hn;omega
    refine⟨λσ'' H''=>∃m',m'<y.natAbs/\∃(x' y':Int) (z:Option V),σ''=[some (.int a),some (.int b),some (.int x'),some (.int y'),z]/\H=H''/\0<=x'/\0<=y'/\y'.natAbs=m'/\Nat.gcd x'.natAbs y'.natAbs=Nat.gcd a.natAbs b.natAbs,λ_ _ h=>h,?_⟩;refine⟨_,rfl,_,rfl,_,_,rfl,rfl,hp,?_⟩;refine⟨_,rfl,?_⟩;refine⟨_,rfl,?_⟩;have h1:=Int.emod_nonneg x (Iy hp);have h2:=IZ x hp;exact⟨(x%y).natAbs,by omega,y,x%y,_,rfl,rfl,hy,h1,rfl,by rw[tN hx hp];exact hg⟩
   ·refine⟨_,rfl,?_⟩;have e:(y:Int)=0:=h0;subst e
    have e2:(x:Int)=((Nat.gcd a.natAbs b.natAbs:Nat):Int):=by rw[<- hg];show x=((Nat.gcd x.natAbs 0:Nat):Int);rw[Nat.gcd_zero_right];omega
    rw[e2];exact k
def jU(K:PySem.W.Frag):Sp:=λvs H Q _=>∃(a:Addr) (ns:List Int),vs=[.ref a]/\SqL K H a (ns.map V.int)/\Q (.int (ak ns:Nat)) H
theorem yY(F:Fun K "shared" "shared" kn f fd)(T:Txt K mg)(om:Cal P w K mg base 1 "shared_by_two" ["one","other"] sp2 Cz Ck):FnOk P w K mg base CX0 2 f fd ["row"] (jU K):=by
 obtain⟨nZ,lR,mq,nF⟩:=om;refine F.ok sc_shared (λvs H Q E h=>?_) (λcdv A outer s H vs Q E hr h=>?_)
 ·obtain⟨a,ns,rfl,_⟩:=h;rfl
 ·obtain⟨a,ns,rfl,hS,k⟩:=h
  refine⟨_,(af (aj (i:=1) sc_shared.nd rfl (Or.inl rfl) ac)
   (af (bP PassesOwn.never rfl (cy (K:=K) rfl (pv 0)) (aR (i:=2) sc_shared.nd rfl (Or.inl rfl))
     (ai (aj (i:=1) sc_shared.nd rfl (Or.inl rfl) (aq nZ (hr.mono) rfl lR mq nF .nil al (aa (pv 1) (aa (pv 2) ad))))))
   (ai (au (pv 1))))),?_⟩
  refine⟨_,rfl,a,rfl,⟨_,hS⟩,df (K:=K) (a:=a) (xs:=ns.map V.int) (λi σ' H'=>∃z:Option V,σ'=[some (.ref a),some (.int (ak (ns.take i):Nat)),z]/\H=H') ⟨none,rfl,rfl⟩ (λi σ' H' _ ⟨z,_,e⟩=>by rw[<- e];exact hS) ?_ ?_⟩
  ·rintro i y σ' H' hi ⟨z,rfl,rfl⟩;rw[List.getElem?_map]at hi;cases e:ns[i]? with
   |none=>rw[e]at hi;cases hi
   |some n =>
    rw[e]at hi;obtain rfl:=Option.some.inj hi;refine⟨_,rfl,_,rfl,_,_,rfl,?_⟩;have e3:ns.take (i+1)=ns.take i++[n]:=by rw[HM,e];rfl
    refine⟨some (.int n),?_,rfl⟩;rw[e3,tO,Hw];rfl
  ·rintro σ' H' ⟨z,rfl,rfl⟩;refine⟨_,rfl,?_⟩;rw[GO,HB];exact k
def eQ:Sp:=λvs H Q _=>∃(a:Addr) (ns:List Int),vs=[.ref a]/\H a=some (.lst (ns.map V.int))/\Tr ns/\ns.length<=1000000/\mkL H Q (ah ns)
theorem mJ{ns:List Int}(ht:Tr ns)(hne:ns≠[]):0<(ak ns:Int):=by
 obtain⟨r,x,rfl⟩:=(cF ns).resolve_left hne;have hx:x≠0:=tr_snoc.mp ht;have hm:x∈r++[x]:=by simp
 have h1:0<ak (r++[x]):=Nat.pos_of_dvd_of_pos (jr hm) (HW.mpr hx);omega
theorem yW(F:Fun K "shrunk" "shrunk" iI f fd)(T:Txt K mg)(hNS:base.NoSeer)(hTr:P.given.tree=none)(oo:Cal P w K mg base 2 "shared" ["row"] (jU K) CA Cl):FnOk P w K mg base CX0 33 f fd ["row"] eQ:=by
 obtain⟨n5,lT,mr,nG⟩:=oo;refine F.ok sc_shrunk (λvs H Q E h=>?_) (λcdv A outer s H vs Q E hr h=>?_)
 ·obtain⟨a,ns,rfl,_⟩:=h;rfl
 ·obtain⟨a,ns,rfl,hA,ht,hn,k⟩:=h;have big:=sizeLine_eq;have hdp:(A.deeper (PyProof.Rows.envOfC (Str.ofString "shrunk") (av iI) s.heap.objs.size f cdv)).depth+100<recursionLimit:=by have:=hr.dp;omega
  refine⟨_,(af (aj (i:=1) sc_shrunk.nd rfl (Or.inr rfl) (aq n5 (hr.mono) rfl lT mr nG .nil al (aa (pv 0) ad)))
   (ai (au (dw (own:=["value"]) (fr:=["divisor"]) (js:=[1]) (by walk_at "comp_ok") rfl (cy (K:=K) rfl (pv 0)) (λ_ _ _ _=>(aR (i:=0) (show List.Nodup (["value","divisor"]:List Str)from by decide +kernel) rfl (Or.inl rfl))) (λ_ _ _ _=>(ag (rE hNS hTr hdp rfl rfl rfl rfl rfl) (pv 0) (pv 1))))))),?_⟩
  refine ax ⟨_,rfl,a,ns,rfl,SqL.of hA,?_⟩;refine aY ⟨_,rfl,a,rfl,⟨_,SqL.of hA⟩,jB (K:=K) (a:=a) (xs:=ns.map V.int) (λi ys σ' H'=>∃(z0:Option V),σ'=[z0,some (.int (ak ns:Nat))]/\ys=((ns.take i).map λx=>x/(ak ns:Int)).map V.int/\H=H') (by rw[GO];omega) ⟨none,rfl,rfl,rfl⟩ ?_ ?_ ?_⟩
  ·rintro i ys σ' H' _ ⟨z0,rfl,rfl,rfl⟩;exact⟨SqL.of hA,by rw[GO,GO,HL];exact Nat.min_le_left _ _⟩
  ·rintro i x ys σ' H' hi ⟨z0,rfl,rfl,rfl⟩;rw[List.getElem?_map]at hi;cases e:ns[i]? with
   |none=>rw[e]at hi;cases hi
   |some c =>rw[e]at hi;obtain rfl:=Option.some.inj hi;have g1:=mJ ht (λz=>by rw[z]at e;simp at e);refine⟨_,rfl,_,rfl,_,_,rfl,rfl,g1,_,rfl,?_,rfl⟩;rw[HM,e];simp
  ·rintro ys σ' H' p ⟨z0,rfl,rfl,rfl⟩ hp;refine k p _ (Same.upd_new hp) hp ?_;rw[ar,GO,HB];rfl
def pI:Sp:=λvs H Q _=>∃(a:Addr) (ns:List Int),vs=[.ref a]/\H a=some (.lst (ns.map V.int))/\Tr ns/\ns.length<=1000000/\mkL H Q (aH ns)
theorem DX(r:List Int)(x:Int):atI ((r++[x]).map V.int) (-1)=some (.int x):=by rw[G8];exact vt _ _
noncomputable def dF(t b:Int):List (Str×V):=bR "bottom" (.int b) (bR "top" (.int t) [])
theorem wg:¬(("top":Str)="bottom"):=by decide +kernel
theorem mN(t b:Int):(dF t b).lookup ("bottom":Str)=some (.int b):=by unfold dF;rw[cG,if_pos rfl]
theorem mM(t b:Int):(dF t b).lookup ("top":Str)=some (.int t):=by unfold dF;rw[cG,if_neg wg,cG,if_pos rfl]
theorem Ce(t b:Int){m:Str}(h1:¬m="bottom")(h2:¬m="top"):(dF t b).lookup m=none:=by unfold dF;rw[cG,if_neg h1,cG,if_neg h2];rfl
structure RCI(K:PySem.W.Frag)(mg:Str->Option Value)(C:Addr):Prop where
 cl:Cls K C
 nT:NoAttr K C "top"
 nB:NoAttr K C "bottom"
 mg:mg "Ratio"=some (.ref C)
 ha:PySem.W.findIn K (.ref C) "__class__"=some (some (.builtin "object.__class__"))
 hn:PySem.W.specialIn K (.builtin "object.__class__") "__get__"=some (some (.builtin "getset_descriptor.__get__"))
 ht:PySem.W.takesIn K (.builtin "object.__class__")=some true
 hm:PySem.W.mroIn K C (.type "object")=some true
def RA(C:Addr)(H:Hp)(p:Addr)(t b:Int):Prop:=∃dx,H p=some (.ins C dx (dF t b))
theorem RA.same{C:Addr}{H H':Hp}{p:Addr}{t b:Int}(h:RA C H p t b)(s:Same H H'):RA C H' p t b:=let⟨dx,e⟩:=h;⟨dx,s _ _ e⟩
def iD(C:Addr):Sp:=λvs H Q _=>∃(p dx:Addr) (t b:Int),vs=[.ref p,.int t,.int b]/\H p=some (.ins C dx [])/\b≠0/\Bits 9000 b/\Q .non (upd H p (.ins C dx (dF (rt t b) (rb t b))))
theorem su{C:Addr}{H1:Hp}{q:Addr->Hp->Prop}{E:XK}{t b:Int}(hb:b≠0)(bb:Bits 9000 b)(h:∀(x:Addr) (H':Hp),Same H1 H'->H1 x=none->RA C H' x (rt t b) (rb t b)->q x H'):∀x dx:Addr,H1 x=none->H1 dx=none->dx≠x->iD C (.ref x::([.int t,.int b]++[])) (upd (upd H1 dx (.own x)) x (.ins C dx [])) (λv H2=>v=.non/\q x H2) E:=λx dx nx ndx ne=>by
 refine⟨x,dx,t,b,rfl,ar,hb,bb,rfl,?_⟩;rw[ip]
 have s0:Same H1 (upd (upd H1 dx (.own x)) x (.ins C dx (dF (rt t b) (rb t b)))):=λc o e=>by rw[upd_ne (aN e nx),upd_ne (aN e ndx)];exact e
 exact h x _ s0 nx ⟨dx,ar⟩
theorem uw{t b:Int}(hb:b≠0)(bb:Bits 9000 b):Bits 9000 (dv t b):=bb.of_le (by rw[gX];exact Nat.le_of_dvd (HW.mpr hb) (Iz _ _))
theorem zQ(F:FunD K "__init__" "Ratio.__init__" fN dV f fd)(T:Txt K mg)(R:RCI K mg C)(om:Cal P w K mg base 1 "shared_by_two" ["one","other"] sp2 Cz Ck):FnOk P w K mg base CX0 2 f fd ["self","top","bottom"] (iD C):=by
 obtain⟨nZ,lR,mq,nF⟩:=om;refine F.ok sc_Ratio___init__ (λvs H Q E h=>?_) (λcdv A outer s H vs Q E hr h=>?_)
 ·obtain⟨p,dx,t,b,rfl,_⟩:=h;rfl
 ·obtain⟨p,dx,t,b,rfl,hp,hb,bb,k⟩:=h
  refine⟨_,(af (aP (aC bS (pv 2) ac (aw _))
   (ai rd)
   aO)
   (af (aj (i:=3) sc_Ratio___init__.nd rfl (Or.inl rfl) (aq nZ (hr.mono) rfl lR mq nF .nil al (aa (pv 1) (aa (pv 2) ad))))
   (af (aP (aC cC (pv 2) ac (aw _))
     (ai (aj (i:=3) sc_Ratio___init__.nd rfl (Or.inl rfl) (ce b8 (pv 3))))
     aO)
   (af (gF (pv 0) (ag rF (pv 1) (pv 3)) rfl)
   (ai (gF (pv 0) (ag rF (pv 2) (pv 3)) rfl)))))),?_⟩
  refine bI ⟨_,rfl,_,_,rfl,rfl,_,rfl,aG (λh=>absurd h hb) (λ_=>?_)⟩;refine ax ⟨_,rfl,_,rfl,t,b,rfl,?_⟩;refine cS (λσ' H'=>H=H'/\σ'=[some (.ref p),some (.int t),some (.int b),some (.int (dv t b))]) ?_ ?_
  ·rintro σ' H' ⟨rfl,rfl⟩;refine⟨_,rfl,_,rfl,_,_,rfl,rfl,⟨jw hb,uw hb bb⟩,_,rfl,p,C,dx,_,rfl,hp,R.cl,R.nT,by show 0<1000;decide,?_⟩;refine⟨_,rfl,_,rfl,_,_,rfl,rfl,⟨jw hb,uw hb bb⟩,_,rfl,p,C,dx,_,rfl,ar,R.cl,R.nB,by show 1<1000;decide,?_⟩;show Q .non (upd (upd H p _) p _);rw[ip];exact k
  ·intro rest;refine⟨_,rfl,_,_,rfl,rfl,_,rfl,?_⟩;refine aG (λh=>?_) (λh=>?_)
   ·refine⟨_,rfl,_,rfl,rest _ _ ⟨rfl,?_⟩⟩;have e:dv t b = -((Nat.gcd t.natAbs b.natAbs:Nat):Int):=by unfold dv;rw[if_pos h]
    rw[e];rfl
   ·refine rest _ _ ⟨rfl,?_⟩;have e:dv t b=((Nat.gcd t.natAbs b.natAbs:Nat):Int):=by unfold dv;rw[if_neg h]
    rw[e];rfl
def iA:Sp:=λvs H Q _=>∃x:Int,vs=[.int x]/\Q (.int (sg x)) H
theorem yR(F:Fun K "whole_sign" "whole_sign" kf f fd)(T:Txt K mg):FnOk P w K mg base CX0 1 f fd ["value"] iA:=by
 refine F.ok xh (λvs H Q E h=>?_) (λcdv A outer s H vs Q E hr h=>?_)
 ·obtain⟨x,rfl,_⟩:=h;rfl
 ·obtain⟨x,rfl,k⟩:=h
  refine⟨_,(af (aP (aC cC (pv 0) ac (aw _))
   (ai (au (ce b8 ac)))
   aO)
   (af (aP (aC cW (pv 0) ac (aw _))
     (ai (au ac))
     aO)
   (ai (au ac)))),?_⟩
  refine bI ⟨_,rfl,_,_,rfl,rfl,_,rfl,aG (λh=>?_) (λh=>?_)⟩
  ·have e:sg x = -1:=by unfold sg;rw[if_pos h]
   rw[e]at k;exact⟨_,rfl,k⟩
  refine bI ⟨_,rfl,_,_,rfl,rfl,_,rfl,aG (λh'=>?_) (λh'=>?_)⟩
  ·have e:sg x=1:=by unfold sg;rw[if_neg h,if_pos h']
   rw[e]at k;exact k
  ·have e:sg x=0:=by unfold sg;rw[if_neg h,if_neg h']
   rw[e]at k;exact k
def pZ(C:Addr):Sp:=λvs H Q _=>∃(p q:Addr) (t b u d:Int),vs=[.ref p,.ref q]/\RA C H p t b/\RA C H q u d/\Bits 100000 t/\Bits 100000 b/\Bits 100000 u/\Bits 100000 d/\Q (.int (sg (t*d-u*b))) H
theorem zP(F:Fun K "against" "Ratio.against" lg f fd)(T:Txt K mg)(R:RCI K mg C)(ii:Cal P w K mg base 1 "whole_sign" ["value"] iA uf ub):FnOk P w K mg base CX0 2 f fd ["self","other"] (pZ C):=by
 obtain⟨ib,gM,gQ,g8⟩:=ii;refine F.ok xA (λvs H Q E h=>?_) (λcdv A outer s H vs Q E hr h=>?_)
 ·obtain⟨p,q,t,b,u,d,rfl,_⟩:=h;rfl
 ·obtain⟨p,q,t,b,u,d,rfl,⟨dx,hp⟩,⟨dy,hq⟩,bt,bb,bu,bd,k⟩:=h;refine⟨_,(ai (au (aq ib (hr.mono) rfl gM gQ g8 .nil al (aa (ag aW (ag aI (cU (K:=K) rfl (pv 0) rfl) (cU (K:=K) rfl (pv 1) rfl)) (ag aI (cU (K:=K) rfl (pv 1) rfl) (cU (K:=K) rfl (pv 0) rfl))) ad)))),?_⟩;refine⟨_,rfl,p,C,dx,_,_,rfl,hp,R.cl,R.nT,mM _ _,_,rfl,q,C,dy,_,_,rfl,hq,R.cl,R.nB,mN _ _,_,_,rfl,rfl,⟨bt.mono,bd.mono⟩,?_⟩;exact⟨_,rfl,q,C,dy,_,_,rfl,hq,R.cl,R.nT,mM _ _,_,rfl,p,C,dx,_,_,rfl,hp,R.cl,R.nB,mN _ _,_,_,rfl,rfl,⟨bu.mono,bb.mono⟩,_,_,rfl,rfl,_,rfl,k⟩
theorem y9(F:Fun K "poly" "poly" kv f fd)(T:Txt K mg):FnOk P w K mg base CX0 1 f fd ["row"] (gv K):=by
 refine F.ok sc_poly (λvs H Q E h=>?_) (λcdv A outer s H vs Q E hr h=>?_)
 ·obtain⟨a,ns,rfl,_⟩:=h;rfl
 ·obtain⟨a,ns,rfl,hS,k⟩:=h
  refine⟨_,(af (aj (i:=1) sc_poly.nd rfl (Or.inl rfl) (aJ (aV (K:=K) rfl) (by rfl) T.len_ PySem.boot_len (aa (pv 0) ad)))
   (af (fS PassesOwn.never (PW.pt (c9 (aC cW (pv 1) ac (aw _)) (du (aC bS (am (bj (K:=K) rfl) (pv 0) (ag aW (pv 1) ac) (λ_ _=>rfl)) ac (aw _)))))
     (ai (aj (i:=1) sc_poly.nd rfl (Or.inl rfl) (ag aW (pv 1) ac))))
   (ai (au (fW (fJ (K:=K) rfl) (pv 0) fU (fT (pv 1))))))),?_⟩
  refine⟨_,rfl,a,_,rfl,.inl hS,?_⟩;refine⟨λm σ' H'=>∃n:Nat,n<=ns.length/\σ'=[some (.ref a),some (.int n)]/\H=H'/\n=m/\trim (ns.take n)=trim ns,⟨_,ns.length,GP _,?_,rfl,rfl,?_⟩,?_⟩
  ·rw[GO];rfl
  ·rw[HB]
  ·rintro m σ' H' ⟨n,hn,rfl,rfl,rfl,ht⟩
   have fin:trim (ns.take n)=ns.take n->∃v,([some (V.ref a),some (V.int n)]:St)[0]?=some (some v)/\∃v_1,([some (V.ref a),some (V.int n)]:St)[1]?=some (some v_1)/\∃i,v_1=V.int i/\iR K v none (some i) H Q:=λh=>by
    refine⟨_,rfl,_,rfl,n,rfl,a,_,rfl,hS,λp hp=>k p _ (Same.upd_new hp) hp ?_⟩;rw[ar,<- ht,h]
    have e:di (ns.map V.int) none (some (n:Int))=(ns.take n).map V.int:=by unfold di;rw[HT.sIx_none,HT.sIx_nat,IT,H0,GO,Nat.min_eq_left hn,List.map_take]
    rw[e]
   refine⟨_,rfl,_,_,rfl,rfl,_,rfl,?_⟩;refine aG (λhp=>?_) (λhp=>?_)
   ·obtain⟨j,rfl⟩:∃j,n=j+1:=⟨n-1,by have:(0:Int)<n:=hp;omega⟩;have hj:j<ns.length:=hn;refine⟨_,rfl,_,rfl,_,_,rfl,rfl,a,_,j,.int (cf ns j),rfl,?_,hS,fA ?_,_,_,rfl,rfl,_,rfl,?_⟩
    ·show V.int (((j+1:Nat):Int)-1)=V.int j
     congr 1;omega
    ·rw[List.getElem?_map,de hj];rfl
    refine aG (λh0=>?_) (λh0=>?_)
    ·refine⟨λσ'' H''=>∃m',m'<j+1/\∃n:Nat,n<=ns.length/\σ''=[some (.ref a),some (.int n)]/\H=H''/\n=m'/\trim (ns.take n)=trim ns,λ_ _ h=>h,?_⟩;refine⟨_,rfl,_,_,rfl,rfl,j,HU _,j,HS hj,?_,rfl,rfl,?_⟩
     ·show[some (V.ref a),some (V.int (((j+1:Nat):Int)-1))]=[some (V.ref a),some (V.int j)]
      congr 4;omega
     ·rw[<- ht,oK hj h0]
    ·exact fin (oM hj h0)
   ·obtain rfl:n=0:=by have:¬(0:Int)<n:=hp;omega
    exact fin (by rw[IU];rfl)
theorem zk(F:Fun K "coefficient" "coefficient" kE f fd)(T:Txt K mg):FnOk P w K mg base CX0 1 f fd ["row","place"] (gw K):=by
 refine F.ok xv (λvs H Q E h=>?_) (λcdv A outer s H vs Q E hr h=>?_)
 ·obtain⟨a,ns,k,rfl,_⟩:=h;rfl
 ·obtain⟨a,ns,n,rfl,hS,k⟩:=h
  refine⟨_,(af (aP (aC cC (pv 1) (aJ (aV (K:=K) rfl) (by rfl) T.len_ PySem.boot_len (aa (pv 0) ad)) (aw _))
   (ai (au (am (bj (K:=K) rfl) (pv 0) (pv 1) (λ_ _=>rfl))))
   aO)
   (ai (au ac))),?_⟩
  refine⟨_,rfl,_,rfl,a,_,rfl,.inl hS,_,_,rfl,rfl,_,rfl,?_⟩;refine aG (λh1=>?_) (λh1=>?_)
  ·rw[GO]at h1;have h2:n<ns.length:=by omega
   refine⟨_,rfl,_,rfl,a,_,_,_,rfl,rfl,hS,fA (v:=.int (ns.getD n 0)) ?_,k⟩;rw[List.getElem?_map,List.getElem?_eq_getElem h2];simp[List.getD,h2]
  ·rw[GO]at h1;have h2:ns.length<=n:=by omega
   have e:ns.getD n 0=0:=by simp[List.getD,List.getElem?_eq_none_iff.mpr h2]
   rw[e]at k;exact k
theorem yT(F:Fun K "taken" "taken" kh f fd)(T:Txt K mg)(oq:Cal P w K mg base 1 "poly" ["row"] (gv K) CB Cm)(EK:Cal P w K mg base 1 "coefficient" ["row","place"] (gw K) Gh Fv):FnOk P w K mg base CX0 2 f fd ["first","second"] (j3 K aZ):=by
 obtain⟨n6,lU,mv,nI⟩:=oq;obtain⟨vD,sx,sW,vg⟩:=EK;refine F.ok sc_taken (λvs H Q E h=>?_) (λcdv A outer s H vs Q E hr h=>?_)
 ·obtain⟨a,b,xs,ys,rfl,_⟩:=h;rfl
 ·obtain⟨a,b,xs,ys,rfl,hA,hB,hx,hy,k⟩:=h
  refine⟨_,(af (aj (i:=2) sc_taken.nd rfl (Or.inl rfl) (aJ (uY rfl) (by rfl) T.max_ PyProof.Rows.boot_max (aa (aJ (aV (K:=K) rfl) (by rfl) T.len_ PySem.boot_len (aa (pv 0) ad)) (aa (aJ (aV (K:=K) rfl) (by rfl) T.len_ PySem.boot_len (aa (pv 1) ad)) ad))))
   (ai (au (aq n6 (hr.mono) rfl lU mv nI .nil al (aa (dw (own:=["k"]) (fr:=["first","second"]) (js:=[0,1]) (by walk_at "comp_ok") rfl (fV rfl T.range_ (aa (pv 2) ad)) (λ_ _ _ _=>(aR (i:=0) (show List.Nodup (["k","first","second"]:List Str)from by decide +kernel) rfl (Or.inl rfl))) (λ_ _ _ _=>(ag aW (aq vD (hr.mono) rfl sx sW vg .nil al (aa (pv 1) (aa (pv 0) ad))) (aq vD (hr.mono) rfl sx sW vg .nil al (aa (pv 2) (aa (pv 0) ad)))))) ad))))),?_⟩
  refine⟨_,rfl,a,_,rfl,.inl hA,_,rfl,b,_,rfl,.inl hB,_,_,rfl,?_⟩;rw[sr,GO,GO];have hz:max xs.length ys.length<=sizeLine:=by have:=sizeLine_eq;omega
  refine⟨_,rfl,_,rfl,(p7 hz).1,(p7 hz).2,jA (lo:=0) (n:=max xs.length ys.length) (λi zs σ' H'=>∃z:Option V,σ'=[z,some (.ref a),some (.ref b)]/\zs=((List.range i).map λk=>V.int (cf xs k-cf ys k))/\H=H') hz ⟨none,rfl,rfl,rfl⟩ ?_ ?_ ?_⟩
  ·rintro i zs σ' H' _ ⟨z,rfl,rfl,rfl⟩;simp
  ·rintro i zs σ' H' hi ⟨z,rfl,rfl,rfl⟩;refine⟨_,rfl,_,rfl,a,xs,i,?_,hA,_,rfl,_,rfl,b,ys,i,?_,hB,_,_,rfl,rfl,_,rfl,?_,rfl⟩
   ·show[V.ref a,V.int (0+(i:Int))]=_;rw[Im]
   ·show[V.ref b,V.int (0+(i:Int))]=_;rw[Im]
   ·rw[List.range_succ,G8];rfl
  ·rintro zs σ' H' p ⟨z,rfl,rfl,rfl⟩ hp;refine⟨p,(List.range (max xs.length ys.length)).map λk=>cf xs k-cf ys k,rfl,SqL.of ?_,?_⟩
   ·rw[ar,HQ];rfl
   ·intro p' H' sm hp' e;refine k p' H' ((Same.upd_new hp).trans sm) ((Same.upd_new hp).free hp') ?_;rw[e,o3]
def sp1(g:List Int->List Int):Sp:=λvs H Q _=>∃(a:Addr) (ns:List Int),vs=[.ref a]/\H a=some (.lst (ns.map V.int))/\ns.length<=100000/\AllB 100000 ns/\mkL H Q (g ns)
theorem Ai{k:Nat}{n:Nat}(h:n<2^k):Bits k (n:Int):=by show((n:Int)).natAbs<2^k;rw[Hw];exact h
theorem wF{n:Nat}(h:n<=1000000):Bits 1000000 (n:Int):=(Ai (k:=20) (IX h (by decide))).mono
theorem xV(f:Nat->V)(i:Nat):(List.range i).map f++[f i]=(List.range (i+1)).map f:=by rw[List.range_succ,G8];rfl
theorem yU(F:Fun K "slope" "slope" ki f fd)(T:Txt K mg):FnOk P w K mg base CX0 1 f fd ["row"] (sp1 slopeL):=by
 refine F.ok xi (λvs H Q E h=>?_) (λcdv A outer s H vs Q E hr h=>?_)
 ·obtain⟨a,ns,rfl,_⟩:=h;rfl
 ·obtain⟨a,ns,rfl,hA,hn,hb,k⟩:=h;have big:=sizeLine_eq;refine⟨_,(ai (au (dw (own:=["k"]) (fr:=["row"]) (js:=[0]) (by walk_at "comp_ok") rfl (yx rfl T.range_ (aa ac (aa (aJ (aV (K:=K) rfl) (by rfl) T.len_ PySem.boot_len (aa (pv 0) ad)) ad))) (λ_ _ _ _=>(aR (i:=0) (show List.Nodup (["k","row"]:List Str)from by decide +kernel) rfl (Or.inl rfl))) (λ_ _ _ _=>(ag aI (pv 0) (am (bj (K:=K) rfl) (pv 1) (pv 0) (λ_ _=>rfl))))))),?_⟩;have hl:(ns.map V.int).length=ns.length:=GO _;refine aY ⟨_,rfl,a,_,rfl,.inl (SqL.of hA),1,_,rfl,⟨by decide,by decide,by rw[hl];omega,by rw[hl];omega⟩,jA (lo:=1) (λi ys σ' H'=>∃z:Option V,σ'=[z,some (.ref a)]/\ys=((List.range i).map λ(j:Nat)=>V.int (((j:Int)+1)*cf ns (j+1)))/\H=H') (by rw[hl];omega) ⟨none,rfl,rfl,rfl⟩ ?_ ?_ ?_⟩
  ·rintro i ys σ' H' _ ⟨z,rfl,rfl,rfl⟩;simp
  ·rintro i ys σ' H' hi ⟨z,rfl,rfl,rfl⟩;rw[hl]at hi;have hi':i+1<ns.length:=by omega
   have e0:(1:Int)+(i:Int)=((i+1:Nat):Int):=by omega
   refine⟨_,rfl,_,rfl,_,rfl,a,_,_,_,rfl,rfl,SqL.of hA,jH e0 hi',_,_,rfl,rfl,⟨by rw[e0];exact wF (by omega),(hb.cf _).mono⟩,_,rfl,?_,rfl⟩;rw[<- xV];show _++[V.int ((1+(i:Int))*cf ns (i+1))]=_;rw[Int.add_comm 1]
  ·rintro ys σ' H' p ⟨z,rfl,rfl,rfl⟩ hp;refine k p _ (Same.upd_new hp) hp ?_;have en:(((ns.map V.int).length:Int)-1).toNat=ns.length-1:=by rw[hl];omega
   rw[ar,en];unfold RM.slopeL;rw[HQ];rfl
def j0:Sp:=λvs H Q _=>∃(a:Addr) (xs:List V),vs=[.ref a]/\H a=some (.lst xs)/\Q (.int ((xs.length:Int)-1)) H
theorem zi(F:Fun K "degree" "degree" kC f fd)(T:Txt K mg):FnOk P w K mg base CX0 1 f fd ["row"] j0:=by
 refine F.ok xt (λvs H Q E h=>?_) (λcdv A outer s H vs Q E hr h=>?_)
 ·obtain⟨a,xs,rfl,_⟩:=h;rfl
 ·obtain⟨a,xs,rfl,hA,k⟩:=h;refine⟨_,(ai (au (ag aW (aJ (aV (K:=K) rfl) (by rfl) T.len_ PySem.boot_len (aa (pv 0) ad)) ac))),?_⟩;exact⟨_,rfl,a,_,rfl,.inl (SqL.of hA),_,_,rfl,rfl,k⟩
def pB:Sp:=λvs H Q _=>∃(a:Addr) (xs:List Int) (c:Int),vs=[.ref a,.int c]/\H a=some (.lst (xs.map V.int))/\xs.length<=1000000/\Bits 1000000 c/\AllB 1000000 xs/\mkL H Q (scL c xs)
theorem yZ(F:Fun K "scaled" "scaled" ko f fd)(T:Txt K mg):FnOk P w K mg base CX0 1 f fd ["row","factor"] pB:=by
 refine F.ok xk (λvs H Q E h=>?_) (λcdv A outer s H vs Q E hr h=>?_)
 ·obtain⟨a,xs,c,rfl,_⟩:=h;rfl
 ·obtain⟨a,xs,c,rfl,hA,hn,bc,bx,k⟩:=h;have big:=sizeLine_eq;refine⟨_,(ai (au (dw (own:=["value"]) (fr:=["factor"]) (js:=[1]) (by walk_at "comp_ok") rfl (cy (K:=K) rfl (pv 0)) (λ_ _ _ _=>(aR (i:=0) (show List.Nodup (["value","factor"]:List Str)from by decide +kernel) rfl (Or.inl rfl))) (λ_ _ _ _=>(ag aI (pv 1) (pv 0)))))),?_⟩;refine aY ⟨_,rfl,a,rfl,⟨_,SqL.of hA⟩,jB (K:=K) (a:=a) (xs:=xs.map V.int) (λi ys σ' H'=>∃(z0:Option V),σ'=[z0,some (.int c)]/\ys=(scL c (xs.take i)).map V.int/\H=H') (by rw[GO];omega) ⟨none,rfl,rfl,rfl⟩ ?_ ?_ ?_⟩
  ·rintro i ys σ' H' _ ⟨z0,rfl,rfl,rfl⟩;exact⟨SqL.of hA,by rw[GO,bX,HL];exact Nat.min_le_left _ _⟩
  ·rintro i x ys σ' H' hi ⟨z0,rfl,rfl,rfl⟩;obtain⟨y,_,rfl,hm,et⟩:=dE hi;refine⟨_,rfl,_,rfl,_,_,rfl,rfl,⟨bc,bx y hm⟩,_,rfl,?_,rfl⟩;rw[et];simp[scL]
  ·rintro ys σ' H' p ⟨z0,rfl,rfl,rfl⟩ hp;refine k p _ (Same.upd_new hp) hp ?_;rw[ar,GO,HB]
theorem uH(ms:List Int):b6 ms none (some (-1))=ms.take (ms.length-1):=by
 unfold b6;rw[HT.sIx_none,IT,H0]
 congr 1
 show(if(-1:Int)<0 then((-1:Int)+(ms.length:Int)).toNat else min (-1:Int).toNat ms.length)=_;rw[if_pos (by decide)];omega
theorem uU{ms:List Int}{n k:Nat}:cf (ms.take n) k=if k<n then cf ms k else 0:=by
 unfold cf;by_cases h:k<n
 ·rw[if_pos h];simp[List.getD,List.getElem?_take,h]
 ·rw[if_neg h];simp[List.getD,List.getElem?_take,h]
def pJ:Sp:=λvs H Q _=>∃(a b:Addr) (rs ys:List Int) (p:Nat) (l:Int),vs=[.ref a,.ref b,.int p,.int l]/\H a=some (.lst (rs.map V.int))/\H b=some (.lst (ys.map V.int))/\rs.length=p+ys.length/\ys≠[]/\Bits 1000000 l/\AllB 1000000 ys/\mkL H Q (fg rs ys p l)
theorem zb(F:Fun K "lowered" "lowered" ky f fd)(T:Txt K mg):FnOk P w K mg base CX0 1 f fd ["row","second","place","lead"] pJ:=by
 refine F.ok sc_lowered (λvs H Q E h=>?_) (λcdv A outer s H vs Q E hr h=>?_)
 ·obtain⟨a,b,rs,ys,p,l,rfl,_⟩:=h;rfl
 ·obtain⟨a,b,rs,ys,p,l,rfl,hA,hB,hl,hy,bl,by',k⟩:=h;have hyl:=GQ.mpr hy
  refine⟨_,(af (aj (i:=4) sc_lowered.nd rfl (Or.inl rfl) (fW (fJ (K:=K) rfl) (pv 0) fU (fT (ce b8 ac))))
   (af (bP PassesOwn.never rfl (dI rfl T.enumerate_ (aa (fW (fJ (K:=K) rfl) (pv 1) fU (fT (ce b8 ac))) ad)) (eZ rfl (cm (aR (i:=5) sc_lowered.nd rfl (Or.inl rfl)) (cm (aR (i:=6) sc_lowered.nd rfl (Or.inl rfl)) dJ)))
     (ai (iT (ag aW (am (bj (K:=K) rfl) (pv 4) (ag bh (pv 2) (pv 5)) (λ_ _=>rfl)) (ag aI (pv 3) (pv 6))) (iV (pv 4) (ag bh (pv 2) (pv 5)) iG))))
   (ai (au (pv 4))))),?_⟩
  refine ax ⟨_,rfl,_,rfl,_,rfl,a,_,rfl,SqL.of hA,λkp hkp=>?_⟩;rw[jy,uH];have s1:=Same.upd_new (o:=.lst ((rs.take (rs.length-1)).map V.int)) hkp;have nkb:b≠kp:=aN hB hkp;refine⟨_,rfl,_,rfl,_,rfl,b,_,rfl,SqL.of (s1 _ _ hB),λp2 hp2=>?_⟩;rw[jy,uH];have n2:kp≠p2:=aN ar hp2;generalize hH2:upd (upd H kp (.lst ((rs.take (rs.length-1)).map V.int))) p2 (.lst ((ys.take (ys.length-1)).map V.int))=H2;have hk2:H2 kp=some (.lst ((rs.take (rs.length-1)).map V.int)):=by rw[<- hH2,upd_ne n2,ar]
  have hq2:H2 p2=some (.lst ((ys.take (ys.length-1)).map V.int)):=by rw[<- hH2,ar]
  have s2:Same H H2:=by rw[<- hH2];exact s1.then_new hp2
  have lt:(rs.take (rs.length-1)).length=rs.length-1:=by rw[HL];omega
  have lty:(ys.take (ys.length-1)).length=ys.length-1:=by rw[HL];omega
  refine⟨p2,rfl,⟨_,SqL.of hq2⟩,ge (K:=K) (a:=p2) (xs:=(ys.take (ys.length-1)).map V.int) (λi σ' H'=>∃(acc:List Int) (z5 z6:Option V),σ'=[some (.ref a),some (.ref b),some (.int p),some (.int l),some (.ref kp),z5,z6]/\SameB kp H2 H'/\H' kp=some (.lst (acc.map V.int))/\acc.length=rs.length-1/\∀n,n<acc.length->cf acc n=cf rs n-(if p<=n/\n-p<i then l*cf ys (n-p)else 0))
   ⟨_,none,none,rfl,SameB.refl _ _,hk2,lt,λn hn=>by rw[uU,if_pos (by omega),if_neg (by omega)];omega⟩ ?_ ?_ ?_⟩
  ·rintro i σ' H' _ ⟨acc,z5,z6,rfl,sb,_⟩;exact SqL.of (sb _ _ (Ne.symm n2) hq2)
  ·rintro i x σ' H' q hi ⟨acc,z5,z6,rfl,sb,hpa,hal,hac⟩ hq
   have hil:i<ys.length-1:=by apply Classical.byContradiction;intro hn;rw[List.getElem?_eq_none_iff.mpr (by rw[GO,lty];omega)]at hi;cases hi
   rw[List.getElem?_map,de (by rw[lty];exact hil),uU,if_pos hil]at hi;obtain rfl:=Option.some.inj hi;refine⟨q,_,rfl,SqT.of ar,rfl,_,_,rfl,_,_,rfl,rfl,?_⟩;have nqp:kp≠q:=aN hpa hq;have hpa':upd H' q (.tup [.int i,.int (cf ys i)]) kp=some (.lst (acc.map V.int)):=by rw[upd_ne nqp];exact hpa
   have hpi:p+i<acc.length:=by omega
   have epi:((p:Nat):Int)+((i:Nat):Int)=((p+i:Nat):Int):=by omega
   refine⟨_,rfl,_,rfl,_,rfl,_,_,rfl,rfl,kp,_,_,_,rfl,rfl,SqL.of hpa',jH epi hpi,_,rfl,_,rfl,_,_,rfl,rfl,⟨bl,by'.cf i⟩,_,_,rfl,rfl,_,rfl,_,rfl,_,rfl,_,_,rfl,rfl,kp,_,_,p+i,rfl,rfl,hpa',jk epi (by rw[GO];exact hpi),?_⟩;refine⟨acc.set (p+i) (cf acc (p+i)-l*cf ys i),_,_,rfl,(sb.then_new hq).then_upd,by rw[ar,jb],by rw[Il];exact hal,λn hn=>?_⟩;rw[Il]at hn;rw[g6 hpi];by_cases e:n=p+i
   ·subst e;rw[if_pos rfl,hac _ hpi,if_neg (by omega),if_pos (by omega),Nat.add_sub_cancel_left];omega
   ·rw[if_neg e,hac n hn];by_cases h1:p<=n/\n-p<i
    ·rw[if_pos h1,if_pos (by omega)]
    ·rw[if_neg h1,if_neg (by omega)]
  ·rintro σ' H' ⟨acc,z5,z6,rfl,sb,hpa,hal,hac⟩;rw[GO,lty]at hac;refine⟨_,rfl,k kp H' (λb' o e=>sb b' o (aN e hkp) (s2 b' o e)) hkp ?_⟩;rw[hpa]
   have e:acc=fg rs ys p l:=by
    apply cP
    ·rw[hal,sP]
    ·intro n hn;have hn':n<rs.length-1:=by omega
     rw[hac n hn,jC,if_pos hn'];by_cases h1:p<=n
     ·have h2:p<=n/\n-p<ys.length-1:=⟨h1,by omega⟩;rw[if_pos h1,if_pos h2]
     ·have h2:¬(p<=n/\n-p<ys.length-1):=λz=>h1 z.1
      rw[if_neg h1,if_neg h2]
   rw[e]
theorem AllB.of_cf{k:Nat}{l:List Int}(h:∀n,Bits k (RM.cf l n)):AllB k l:=λx hx=>by
 obtain⟨i,hi,rfl⟩:=List.mem_iff_getElem.mp hx;have:=h i
 rwa [ck hi]at this
theorem gj{k:Nat}{x:Int}(h:Bits k x):Bits k ((x.natAbs:Nat):Int):=h.of_le (by rw[Hw];exact GP _)
theorem sg_bits{x:Int}:Bits 1 (sg x):=by show(sg x).natAbs<2^1;unfold sg;split<;>(try split)<;>decide
theorem gB{k:Nat}{x y:Int}(h:Bits k y):Bits k (sg x*y):=h.of_le (by
 rw[Hj];have h2:(sg x).natAbs<=1:=by unfold sg;split<;>(try split)<;>decide
 calc (sg x).natAbs*y.natAbs<=1*y.natAbs:=HI _ h2
  _=y.natAbs:=Nat.one_mul _)
theorem mT{xs ys:List Int}{b:Nat}(hx:AllB b xs)(hy:AllB b ys):∀i,AllB (b+i*(b+1)) (aK xs ys i).1/\AllB (b+i*(b+1)) (aK xs ys i).2
 |0=>by rw[Nat.zero_mul];exact⟨AllB.zeros,hx⟩
 |i+1=>by
  obtain⟨h1,h2⟩:=mT hx hy i;have e:b+(i+1)*(b+1)=b+i*(b+1)+b+1:=by rw[Nat.succ_mul];omega
  have hs:Bits b (((RM.cf ys (ys.length-1)).natAbs:Nat):Int):=gj (hy.cf _);rw[e];show AllB _ (ci ys (aK xs ys i) _).1/\AllB _ (ci ys (aK xs ys i) _).2;unfold ci;dsimp only
  constructor
  ·intro x hx;rcases List.mem_or_eq_of_mem_set hx with h |rfl
   ·obtain⟨y,hy',rfl⟩:=GT.mp h;have:=hs.mul (h1 y hy');exact this.mono (by omega)
   ·exact(gB (h2.cf _)).mono (by omega)
  ·refine AllB.of_cf λn=>?_
   rw[jC];by_cases hn:n<(scL (((RM.cf ys (ys.length-1)).natAbs:Nat):Int) (aK xs ys i).2).length-1
   ·rw[if_pos hn,bv]
    have m1:Bits (b+i*(b+1)+b) ((((RM.cf ys (ys.length-1)).natAbs:Nat):Int)*RM.cf (aK xs ys i).2 n):=by have:=hs.mul (h2.cf n);rwa [Nat.add_comm]at this
    refine m1.sub ?_;by_cases hp:(xs.length+1-ys.length-1-i)<=n
    ·rw[if_pos hp];exact(gB (h2.cf _)).mul (hy.cf _)
    ·rw[if_neg hp];exact Bits.zero
   ·rw[if_neg hn];exact Bits.zero
theorem eD{k:Nat}{b:Int}(h:Bits k b):∀n,Bits (k*n+1) (b^n)
 |0=>by show((b^0:Int)).natAbs<2^(k*0+1);rw[Int.pow_zero,Nat.mul_zero];decide
 |n+1=>by rw[Hq];have:=(eD h n).mul h;exact this.mono (by rw[Nat.mul_succ];omega)
def An(H:Hp)(Q:VK)(xs ys:List Int):Prop:=∀(t q r:Addr) (H':Hp),Same H H'->H t=none->H q=none->H r=none->q≠r->q≠t->r≠t->H' t=some (.tup [.int (aS xs ys),.ref q,.ref r])->H' q=some (.lst ((aT xs ys).map V.int))->H' r=some (.lst ((aA xs ys).map V.int))->Q (.ref t) H'
def jZ:Sp:=λvs H Q _=>∃(a b:Addr) (xs ys:List Int) (n:Nat),vs=[.ref a,.ref b]/\H a=some (.lst (xs.map V.int))/\H b=some (.lst (ys.map V.int))/\ys≠[]/\AllB n xs/\AllB n ys/\(xs.length+2)*(n+1)<=1000000/\ys.length<=1000000/\An H Q xs ys
theorem ia{l:List Int}(h:l≠[]):atI (l.map V.int) (-1)=some (.int (cf l (l.length-1))):=by
 obtain⟨r,x,rfl⟩:=(cF l).resolve_left h;have e:(r++[x]).length-1=r.length:=by simp
 rw[e,gh,G8];exact vt _ _
theorem zh(F:Fun K "divided" "divided" kB f fd)(T:Txt K mg)(ii:Cal P w K mg base 1 "whole_sign" ["value"] iA uf ub)(ou:Cal P w K mg base 1 "degree" ["row"] j0 CD Co)(Ez:Cal P w K mg base 1 "scaled" ["row","factor"] pB FW Fj)(EE:Cal P w K mg base 1 "lowered" ["row","second","place","lead"] pJ Gb Fo)(oq:Cal P w K mg base 1 "poly" ["row"] (gv K) CB Cm):FnOk P w K mg base CX0 2 f fd ["first","second"] jZ:=by
 obtain⟨ib,gM,gQ,g8⟩:=ii;obtain⟨jI,jc,jh,jE⟩:=ou;obtain⟨vB,sv,sU,ve⟩:=Ez;obtain⟨Eb,AC,Bj,DB⟩:=EE;obtain⟨n6,lU,mv,nI⟩:=oq;refine F.ok sc_divided (λvs H Q E h=>?_) (λcdv A outer s H vs Q E hr h=>?_)
 ·obtain⟨a,b,xs,ys,n,rfl,_⟩:=h;rfl
 ·obtain⟨a,b,xs,ys,nb,rfl,hA,hB,hy,bx,by',hsz,hyn,k⟩:=h;have big:=sizeLine_eq;have hu:=hr.units;have hyl:=GQ.mpr hy
  have hxl:xs.length<=1000000:=by have:=IF (xs.length+2) (show 1<=nb+1 by omega);omega
  have bsz:∀i,i<=xs.length->nb+i*(nb+1)<=1000000:=λi hi=>by have h1:=HI (nb+1) hi;rw[Nat.add_mul]at hsz;omega
  have hnb:nb<=1000000:=by have:=bsz 0 (GR _);omega
  refine⟨_,(af (aP (aC (fc (K:=K) rfl hu) (pv 1) (bz ad) (aw _))
   (ai rd)
   aO)
   (af (aj (i:=2) sc_divided.nd rfl (Or.inl rfl) (aJ gi (by rfl) T.abs_ PyProof.Rows.boot_abs (aa (am (bj (K:=K) rfl) (pv 1) (ce b8 ac) (λ_ _=>rfl)) ad)))
   (af (aj (i:=3) sc_divided.nd rfl (Or.inl rfl) (aq ib (hr.mono) rfl gM gQ g8 .nil al (aa (am (bj (K:=K) rfl) (pv 1) (ce b8 ac) (λ_ _=>rfl)) ad)))
   (af (aj (i:=4) sc_divided.nd rfl (Or.inl rfl) (ag bh (ag aW (aq jI (hr.mono) rfl jc jh jE .nil al (aa (pv 0) ad)) (aq jI (hr.mono) rfl jc jh jE .nil al (aa (pv 1) ad))) ac))
   (af (aj (i:=5) sc_divided.nd rfl (Or.inl rfl) ac)
   (af (aj (i:=6) sc_divided.nd rfl (Or.inl rfl) (ag rD (bz (aa ac ad)) (pv 4)))
   (af (aj (i:=7) sc_divided.nd rfl (Or.inl rfl) (gI (jD (K:=K) rfl) (by rfl) T.list_ PyProof.Rows.boot_list (aa (pv 0) ad)))
   (af (bP PassesOwn.never rfl (yw rfl T.range_ (aa (ag aW (pv 4) ac) (aa (ce b8 ac) (aa (ce b8 ac) ad)))) (aR (i:=8) sc_divided.nd rfl (Or.inl rfl))
     (af (aj (i:=9) sc_divided.nd rfl (Or.inl rfl) (ag aI (pv 3) (am (bj (K:=K) rfl) (pv 7) (ce b8 ac) (λ_ _=>rfl))))
       (af (aj (i:=5) sc_divided.nd rfl (Or.inl rfl) (ag aI (pv 5) (pv 2)))
       (af (aj (i:=6) sc_divided.nd rfl (Or.inl rfl) (aq vB (hr.mono) rfl sv sU ve .nil al (aa (pv 6) (aa (pv 2) ad))))
       (af (iT (pv 9) (iV (pv 6) (pv 8) iG))
       (ai (aj (i:=7) sc_divided.nd rfl (Or.inl rfl) (aq Eb (hr.mono) rfl AC Bj DB .nil al (aa (aq vB (hr.mono) rfl sv sU ve .nil al (aa (pv 7) (aa (pv 2) ad))) (aa (pv 1) (aa (pv 8) (aa (pv 9) ad))))))))))))
   (ai (au (cz (aa (pv 5) (aa (pv 6) (aa (aq n6 (hr.mono) rfl lU mv nI .nil al (aa (pv 7) ad)) ad)))))))))))))),?_⟩
  refine bI ⟨_,rfl,GR _,λp1 hp1=>?_⟩;have s1:Same H (upd H p1 (.lst [])):=Same.upd_new hp1;refine⟨b,p1,ys,[],rfl,rfl,SqL.of (s1 _ _ hB),SqL.of ar,_,rfl,aG (λh0=>absurd h0 hy) (λ_=>?_)⟩;generalize upd H p1 (.lst [])=H1 at s1 ⊢
  refine ax ⟨_,rfl,_,rfl,b,_,_,_,rfl,rfl,SqL.of (s1 _ _ hB),ia hy,_,rfl,?_⟩;rw[cZ];refine ax ⟨_,rfl,_,rfl,b,_,_,_,rfl,rfl,SqL.of (s1 _ _ hB),ia hy,_,rfl,?_⟩;refine ax ⟨_,rfl,a,_,rfl,s1 _ _ hA,_,rfl,b,_,rfl,s1 _ _ hB,_,_,rfl,rfl,_,_,rfl,rfl,?_⟩;dsimp only
  rw[GO,GO];have est:((xs.length:Int)-1-((ys.length:Int)-1)+1).toNat=aQ xs ys:=by unfold aQ;omega
  generalize hst:((xs.length:Int)-1-((ys.length:Int)-1)+1)=st at est ⊢
  refine ax ?_;refine ax ⟨by show 1<=sizeLine;decide,λp2 hp2=>⟨_,rfl,p2,_,_,rfl,rfl,ar,by omega,by omega,by show 1*_<=_;omega,λq hq=>?_⟩⟩;rw[est,qE];have s2:=s1.then_new (o:=.lst [V.int 0]) hp2;have s3:=s2.then_new (o:=.lst ((List.replicate (aQ xs ys) (0:Int)).map V.int)) hq;have fq:H q=none:=s2.free hq;refine ax ⟨_,rfl,a,_,rfl,.inl (SqL.of (s3 _ _ hA)),λr hr'=>?_⟩;have hq3:upd (upd H1 p2 (.lst [V.int 0])) q (.lst ((List.replicate (aQ xs ys) (0:Int)).map V.int)) q=some (.lst ((List.replicate (aQ xs ys) (0:Int)).map V.int)):=ar;have s4:=s3.then_new (o:=.lst (xs.map V.int)) hr';have fr:H r=none:=s3.free hr';have nqr:q≠r:=aN hq3 hr';generalize hH4:upd (upd (upd H1 p2 (.lst [V.int 0])) q (.lst ((List.replicate (aQ xs ys) (0:Int)).map V.int))) r (.lst (xs.map V.int))=H4 at s4 ⊢
  have hq4:H4 q=some (.lst ((List.replicate (aQ xs ys) (0:Int)).map V.int)):=by rw[<- hH4,upd_ne nqr];exact hq3
  have hr4:H4 r=some (.lst (xs.map V.int)):=by rw[<- hH4,ar]
  have hs:Bits nb (((cf ys (ys.length-1)).natAbs:Nat):Int):=gj (by'.cf _);refine⟨_,rfl,_,_,rfl,rfl,_,rfl,_,rfl,st-1,-1,rfl,by omega,?_⟩;have en:(st-1 - -1).toNat=aQ xs ys:=by rw[<- est];congr 1;omega
  rw[en]
  refine Cd (λi σ' H'=>∃(q r:Addr) (z8 z9:Option V),σ'=[some (.ref a),some (.ref b),some (.int ((cf ys (ys.length-1)).natAbs:Nat)),some (.int (sg (cf ys (ys.length-1)))),some (.int st),some (.int (((cf ys (ys.length-1)).natAbs:Int)^i)),some (.ref q),some (.ref r),z8,z9]/\Same H H'/\H q=none/\H r=none/\q≠r/\H' q=some (.lst ((aK xs ys i).1.map V.int))/\H' r=some (.lst ((aK xs ys i).2.map V.int)))
   ⟨q,r,none,none,rfl,s4,fq,fr,nqr,hq4,hr4⟩ ?_ ?_
  ·rintro i σ' H' hi ⟨q,r,z8,z9,rfl,sm,fq,fr,nqr,hq',hr'⟩;obtain⟨lq,lr,low,_⟩:=fm (a:=xs) hy i (HS hi);obtain⟨bq,br⟩:=mT bx by' i;have hix:i<xs.length:=by unfold aQ at hi;omega
   have bi:=bsz i (HS hix);have rne:(aK xs ys i).2≠[]:=λz=>by rw[z]at lr;simp at lr;omega
   have ep:st-1+(i:Int) * -1=((xs.length+1-ys.length-1-i:Nat):Int):=by unfold aQ at hi est;omega
   refine ax ⟨_,rfl,_,rfl,_,rfl,r,_,_,_,rfl,rfl,SqL.of hr',ia rne,_,_,rfl,rfl,⟨sg_bits.mono,(br.cf _).mono bi⟩,?_⟩
   have bpow:Bits 1000000 (((cf ys (ys.length-1)).natAbs:Int)^i):=(eD hs i).mono (by
    have:=HI i (show nb<=nb+1 by omega);rw[Nat.mul_comm (nb+1) i]at this;have h2:=bsz (i+1) hix;rw[Nat.succ_mul]at h2
    omega)
   refine ax ⟨_,rfl,_,rfl,_,_,rfl,rfl,⟨bpow,hs.mono hnb⟩,?_⟩;dsimp only
   rw[<- Hq];refine ax ⟨_,rfl,_,rfl,q,_,_,rfl,hq',by rw[lq];omega,hs.mono hnb,bq.mono bi,λq1 H2 sm2 hq1 eq1=>?_⟩;have fq1:H q1=none:=sm.free hq1;have sm2':=sm.trans sm2;have hpl:xs.length+1-ys.length-1-i<(scL ((cf ys (ys.length-1)).natAbs:Int) (aK xs ys i).1).length:=by rw[bX,lq];unfold aQ at hi;omega
   refine⟨_,rfl,_,rfl,_,rfl,q1,_,_,_,rfl,rfl,eq1,jk ep (by rw[GO];exact hpl),?_⟩;rw[jb];have sm3:Same H (upd H2 q1 (.lst (((scL ((cf ys (ys.length-1)).natAbs:Int) (aK xs ys i).1).set (xs.length+1-ys.length-1-i) (sg (cf ys (ys.length-1))*cf (aK xs ys i).2 ((aK xs ys i).2.length-1))).map V.int))):=dM sm2' fq1;have nq1r:q1≠r:=λz=>by rw[z,hr']at hq1;cases hq1
   have hr3:upd H2 q1 (.lst (((scL ((cf ys (ys.length-1)).natAbs:Int) (aK xs ys i).1).set (xs.length+1-ys.length-1-i) (sg (cf ys (ys.length-1))*cf (aK xs ys i).2 ((aK xs ys i).2.length-1))).map V.int)) r=some (.lst ((aK xs ys i).2.map V.int)):=by rw[upd_ne (Ne.symm nq1r)];exact sm2 _ _ hr'
   have hq3:upd H2 q1 (.lst (((scL ((cf ys (ys.length-1)).natAbs:Int) (aK xs ys i).1).set (xs.length+1-ys.length-1-i) (sg (cf ys (ys.length-1))*cf (aK xs ys i).2 ((aK xs ys i).2.length-1))).map V.int)) q1=some (.lst (((scL ((cf ys (ys.length-1)).natAbs:Int) (aK xs ys i).1).set (xs.length+1-ys.length-1-i) (sg (cf ys (ys.length-1))*cf (aK xs ys i).2 ((aK xs ys i).2.length-1))).map V.int)):=ar;generalize upd H2 q1 (.lst (((scL ((cf ys (ys.length-1)).natAbs:Int) (aK xs ys i).1).set (xs.length+1-ys.length-1-i) (sg (cf ys (ys.length-1))*cf (aK xs ys i).2 ((aK xs ys i).2.length-1))).map V.int))=H3 at sm3 hr3 hq3 ⊢
   refine⟨_,rfl,_,rfl,r,_,_,rfl,hr3,by rw[lr];omega,hs.mono hnb,br.mono bi,λr1 H5 sm5 hr1 er1=>?_⟩;have sm35:=sm3.trans sm5;refine⟨_,rfl,_,rfl,_,rfl,r1,b,_,_,(xs.length+1-ys.length-1-i),sg (cf ys (ys.length-1))*cf (aK xs ys i).2 ((aK xs ys i).2.length-1),?_,er1,sm35 _ _ hB,?_,hy,(gB (br.cf _)).mono bi,by'.mono hnb,λr2 H6 sm6 hr2 er2=>?_⟩
   ·rw[<- ep];rfl
   ·rw[bX,lr];unfold aQ at hi;omega
   ·have nqr2:q1≠r2:=λz=>by rw[<- z,sm5 _ _ hq3]at hr2;cases hr2
    exact⟨q1,r2,_,_,rfl,sm35.trans sm6,fq1,sm35.free hr2,nqr2,sm6 _ _ (sm5 _ _ hq3),er2⟩
  ·rintro σ' H' ⟨q,r,z8,z9,rfl,sm,fq,fr,nqr,hq',hr'⟩;refine⟨_,rfl,_,rfl,_,rfl,r,_,rfl,SqL.of hr',λr1 H2 sm2 hr1 er1=>⟨by show 3<=sizeLine;decide,λt ht=>?_⟩⟩;have nqr1:q≠r1:=λz=>by rw[<- z,hq']at hr1;cases hr1
   have ntq:q≠t:=aN (sm2 _ _ hq') ht;have ntr:r1≠t:=aN er1 ht;refine k t q r1 _ ((sm.trans sm2).then_new ht) ((sm.trans sm2).free ht) fq (sm.free hr1) nqr1 ntq ntr ar ?_ ?_
   ·rw[upd_ne ntq];exact sm2 _ _ hq'
   ·rw[upd_ne ntr];exact er1
def Fit(one other:List Int):Prop:=Tr one/\Tr other/\∃n,AllB n one/\AllB n other/\(one.length+2)*(n+1)<=1000000/\other.length<=1000000
noncomputable def Run:Nat->List Int->List Int->Prop
 |0,one,_=>one=[]
 |n+1,one,other=>one=[]\/(Fit one other/\Run n other (nxt one other))
def sj(H:Hp)(Q:VK)(xss:List (List Int)):Prop:=∀(l:Addr) (ps:List Addr) (H':Hp),Same H H'->H l=none->(∀p∈ps,H p=none/\p≠l)->H' l=some (.lst (ps.map V.ref))->RwH H' ps xss->Q (.ref l) H'
theorem RwH.upd_ne{H:Hp}{ps:List Addr}{xss:List (List Int)}{a:Addr}{o:HO}(h:RwH H ps xss)(hn:∀p∈ps,p≠a):RwH (upd H a o) ps xss:=⟨h.1,λi p xs e1 e2=>by rw[L2.upd_ne (hn p (List.mem_of_getElem? e1))];exact h.2 i p xs e1 e2⟩
def pF:Sp:=λvs H Q _=>∃(a b:Addr) (xs ys:List Int) (n:Nat),vs=[.ref a,.ref b]/\H a=some (.lst (xs.map V.int))/\H b=some (.lst (ys.map V.int))/\Tr xs/\Tr ys/\xs.length<=1000/\ys.length<=1000/\n<=1000/\Run n (ah xs) (ah ys)/\sj H Q (aF n (ah xs) (ah ys))
theorem y7(F:Fun K "row_from" "row_from" kt f fd)(T:Txt K mg)(ol:Cal P w K mg base 33 "shrunk" ["row"] eQ Cy Cj)(ot:Cal P w K mg base 2 "divided" ["first","second"] jZ CC Cn)(oi:Cal P w K mg base 2 "taken" ["first","second"] (j3 K aZ) Cv Ch):FnOk P w K mg base CX0 34 f fd ["first","second"] pF:=by
 obtain⟨ic,gN,gR,g9⟩:=ol;obtain⟨n9,lW,mx,nK⟩:=ot;obtain⟨nX,lP,ml,nD⟩:=oi;refine F.ok sc_row_from (λvs H Q E h=>?_) (λcdv A outer s H vs Q E hr h=>?_)
 ·obtain⟨a,b,xs,ys,n,rfl,_⟩:=h;rfl
 ·obtain⟨a,b,xs,ys,n,rfl,hA,hB,xtr,ytr,hx,hy,hn,hrun,k⟩:=h;have big:=sizeLine_eq;have hu:=hr.units
  refine⟨_,(af (aj (i:=2) sc_row_from.nd rfl (Or.inl rfl) (bz ad))
   (af (aj (i:=3) sc_row_from.nd rfl (Or.inl rfl) (aq ic (hr.mono) rfl gN gR g9 .nil al (aa (pv 0) ad)))
   (af (aj (i:=4) sc_row_from.nd rfl (Or.inl rfl) (aq ic (hr.mono) rfl gN gR g9 .nil al (aa (pv 1) ad)))
   (af (fS PassesOwn.never (aC (fb (K:=K) rfl hu) (pv 3) (bz ad) (aw _))
     (af (dH (e8 PySem.F.plainAttrs_list PySem.F.slot_list_append PySem.F.type_list_append fe (pv 2) (aa (pv 3) ad)))
       (af (aj (i:=5) sc_row_from.nd rfl (Or.inl rfl) (yE (aC (fc (K:=K) rfl hu) (pv 4) (bz ad) (aw _)) (bz ad) (am (aB (K:=K) rfl) (aq n9 (hr.mono) rfl lW mx nK .nil al (aa (pv 3) (aa (pv 4) ad))) ac (λ_ _=>rfl))))
       (af (aj (i:=3) sc_row_from.nd rfl (Or.inl rfl) (pv 4))
       (ai (aj (i:=4) sc_row_from.nd rfl (Or.inl rfl) (aq ic (hr.mono) rfl gN gR g9 .nil al (aa (aq nX (hr.mono) rfl lP ml nD .nil al (aa (bz ad) (aa (pv 5) ad))) ad))))))))
   (ai (au (pv 2))))))),?_⟩
  refine ax ⟨GR _,λl hl=>?_⟩;have s1:=Same.upd_new (o:=.lst []) hl;have hl1:upd H l (.lst []) l=some (.lst (([]:List Addr).map V.ref)):=ar;generalize upd H l (.lst [])=H1 at s1 hl1 ⊢
  refine ax ⟨_,rfl,a,xs,rfl,s1 _ _ hA,xtr,by omega,λp1 H2 sm2 hp1 e1=>?_⟩;have s2:=s1.trans sm2;refine ax ⟨_,rfl,b,ys,rfl,s2 _ _ hB,ytr,by omega,λp2 H3 sm3 hp2 e2=>?_⟩;have s3:=s2.trans sm3;have n1l:p1≠l:=λz=>by rw[z,hl1]at hp1;cases hp1
  have n2l:p2≠l:=λz=>by rw[z,sm2 _ _ hl1]at hp2;cases hp2
  generalize ah xs=one' at hrun k e1
  generalize ah ys=other at hrun k e2
  refine⟨λm σ' H'=>∃(po pt:Addr) (one other':List Int) (ps:List Addr) (acc:List (List Int)) (z5:Option V),σ'=[some (.ref a),some (.ref b),some (.ref l),some (.ref po),some (.ref pt),z5]/\Same H H'/\H' l=some (.lst (ps.map V.ref))/\RwH H' ps acc/\(∀p∈ps,H p=none/\p≠l)/\H' po=some (.lst (one.map V.int))/\H' pt=some (.lst (other'.map V.int))/\H po=none/\H pt=none/\po≠l/\pt≠l/\Run m one other'/\acc++aF m one other'=aF n one' other/\ps.length+m<=1000,
   ⟨_,p1,p2,one',other,[],[],none,rfl,s3,sm3 _ _ (sm2 _ _ hl1),RwH.nil,(λp hp=>nomatch hp),sm3 _ _ e1,e2,s1.free hp1,s2.free hp2,n1l,n2l,hrun,rfl,by show 0+n<=1000;omega⟩,?_⟩
  rintro m σ' H4 ⟨po,pt,one,other',ps,acc,z5,rfl,s4,hl4,hR4,hf4,ho4,ht4,fo,ft,nol,ntl,hrun4,hacc,hlen⟩;refine⟨_,rfl,GR _,λq hq=>?_⟩;have t5:=Same.upd_new (o:=.lst []) hq;refine⟨po,q,one,[],rfl,rfl,SqL.of (t5 _ _ ho4),SqL.of ar,_,rfl,b9 (λhne=>?_) (λhe=>?_)⟩
  rotate_left
  ·have he':one=[]:=he;subst he';rw[eU,IH]at hacc;refine⟨_,rfl,k l ps _ (s4.trans t5) hl hf4 (t5 _ _ hl4) ?_⟩;rw[<- hacc];exact hR4.same t5
  have hne':one≠[]:=hne
  obtain⟨m1,rfl⟩:∃m1,m=m1+1:=by
   cases m with
   |zero=>exact absurd hrun4 hne'
   |succ m1=>exact⟨m1,rfl⟩
  obtain⟨⟨otr,ttr,nb,bo,bt,hsz,htl⟩,hrun5⟩:=(show one=[]\/(Fit one other'/\Run m1 other' (nxt one other'))from hrun4).resolve_left hne'
  have hacc5:(acc++[one])++aF m1 other' (nxt one other')=aF n one' other:=by rw[<- hacc];show _=acc++(if one=[]then[]else one::aF m1 other' (nxt one other'));rw[if_neg hne',List.append_assoc];rfl
  generalize hH5:upd H4 q (.lst [])=H5 at t5 ⊢
  refine⟨λσ'' H''=>∃m',m'<m1+1/\∃(po pt:Addr) (one other':List Int) (ps:List Addr) (acc:List (List Int)) (z5:Option V),σ''=[some (.ref a),some (.ref b),some (.ref l),some (.ref po),some (.ref pt),z5]/\Same H H''/\H'' l=some (.lst (ps.map V.ref))/\RwH H'' ps acc/\(∀p∈ps,H p=none/\p≠l)/\H'' po=some (.lst (one.map V.int))/\H'' pt=some (.lst (other'.map V.int))/\H po=none/\H pt=none/\po≠l/\pt≠l/\Run m' one other'/\acc++aF m' one other'=aF n one' other/\ps.length+m'<=1000,λ_ _ h=>h,?_⟩;have hl5:=t5 _ _ hl4;refine gC ⟨_,rfl,.inl ⟨rfl,_,SqL.of hl5⟩,_,rfl,l,_,_,rfl,rfl,hl5,by rw[GO];omega,?_⟩;rw[f9];have s6:Same H (upd H5 l (.lst ((ps++[po]).map V.ref))):=dM (s4.trans t5) hl;have hl6:upd H5 l (.lst ((ps++[po]).map V.ref)) l=some (.lst ((ps++[po]).map V.ref)):=ar
  have hf6:∀p∈ps++[po],H p=none/\p≠l:=λp hp=>by
   rcases HK.mp hp with h |h
   ·exact hf4 p h
   ·rw[G1.mp h];exact⟨fo,nol⟩
  have hR6:RwH (upd H5 l (.lst ((ps++[po]).map V.ref))) (ps++[po]) (acc++[one]):=((hR4.same t5).snoc (t5 _ _ ho4)).upd_ne λp hp=>(hf6 p hp).2
  have ho6:upd H5 l (.lst ((ps++[po]).map V.ref)) po=some (.lst (one.map V.int)):=by rw[L2.upd_ne nol];exact t5 _ _ ho4
  have ht6:upd H5 l (.lst ((ps++[po]).map V.ref)) pt=some (.lst (other'.map V.int)):=by rw[L2.upd_ne ntl];exact t5 _ _ ht4
  generalize upd H5 l (.lst ((ps++[po]).map V.ref))=H6 at s6 hl6 hR6 ho6 ht6 ⊢
  refine xQ (λσ' H'=>∃pr:Addr,σ'=[some (.ref a),some (.ref b),some (.ref l),some (.ref po),some (.ref pt),some (.ref pr)]/\Same H6 H'/\H' pr=some (.lst ((rst one other').map V.int))) ?_ ?_
  case refine_2 =>
   intro rest;refine cq (xO ⟨_,rfl,GR _,λq2 hq2=>?_⟩);have t7:=Same.upd_new (o:=.lst []) hq2;refine⟨pt,q2,other',[],rfl,rfl,SqL.of (t7 _ _ ht6),SqL.of ar,_,rfl,aG (λh0=>?_) (λh0=>?_)⟩
   ·have h0':other'=[]:=h0;refine⟨GR _,λq3 hq3=>rest _ _ ⟨q3,rfl,t7.then_new hq3,?_⟩⟩;rw[ar];unfold rst;rw[if_pos h0'];rfl
   ·have h0':other'≠[]:=h0;refine⟨_,rfl,_,rfl,po,pt,one,other',nb,rfl,t7 _ _ ho6,t7 _ _ ht6,h0',bo,bt,hsz,htl,λt q' r H8 sm8 _ _ _ _ _ _ et _ er=>?_⟩;refine⟨t,_,_,_,rfl,rfl,SqT.of et,rfl,rest _ _ ⟨r,rfl,t7.trans sm8,?_⟩⟩;rw[er];unfold rst;rw[if_neg h0']
  rintro σ' H8 ⟨pr,rfl,t8,hr8⟩;refine ax ⟨_,rfl,?_⟩;refine cq ⟨GR _,λq hq=>?_⟩;have t9:=t8.then_new (o:=.lst []) hq
  have hrl:(rst one other').length<=1000000:=by
   unfold rst;split
   ·exact GR _
   ·rename_i h0
    have:=d8 (a:=one) h0;omega
  refine⟨_,rfl,q,pr,[],rst one other',rfl,SqL.of ar,SqL.of (by rw[L2.upd_ne (aN hr8 hq)];exact hr8),GR _,hrl,λp9 H9 sm9 hp9 e9=>?_⟩;have hsl:(aZ [] (rst one other')).length<=1000000:=GW (sN _) (by unfold cH;rw[GO,Hm];exact Nat.max_le.mpr ⟨GR _,hrl⟩);refine⟨p9,_,rfl,e9,cL _,hsl,λp10 H10 bZ hp10 e10=>?_⟩;have t10:Same H6 H10:=(t9.trans sm9).trans bZ;have f10:H6 p10=none:=(t9.trans sm9).free hp10;refine⟨m1,HU _,pt,p10,other',nxt one other',ps++[po],acc++[one],_,rfl,s6.trans t10,t10 _ _ hl6,hR6.same t10,hf6,t10 _ _ ht6,e10,ft,s6.free f10,ntl,(λz=>by rw[z,hl6]at f10;cases f10),hrun5,hacc5,by rw[GZ];show ps.length+1+m1<=1000;omega⟩
def pE:Sp:=λvs H Q _=>∃(a:Addr) (xs:List Int) (n:Nat),vs=[.ref a]/\H a=some (.lst (xs.map V.int))/\Tr xs/\AllB 90000 xs/\xs.length<=1000/\n<=1000/\Run n (ah xs) (ah (slopeL xs))/\sj H Q (aF n (ah xs) (ah (slopeL xs)))
theorem iu{xs:List Int}(h:Tr xs):Tr (slopeL xs):=by
 intro n hn;unfold slopeL at *
 rw[GO,Hm]at hn;rw[eh,if_pos (by omega)];exact G4 (by omega) (h (n+1) (by omega))
theorem y6(F:Fun K "row_of" "row_of" kr f fd)(T:Txt K mg)(EB:Cal P w K mg base 34 "row_from" ["first","second"] pF FY Fl)(oj:Cal P w K mg base 1 "slope" ["row"] (sp1 slopeL) Cw Ci):FnOk P w K mg base CX0 35 f fd ["polynomial"] pE:=by
 obtain⟨Ea,AA,Bi,DA⟩:=EB;obtain⟨nY,lQ,mn,nE⟩:=oj;refine F.ok xn (λvs H Q E h=>?_) (λcdv A outer s H vs Q E hr h=>?_)
 ·obtain⟨a,xs,n,rfl,_⟩:=h;rfl
 ·obtain⟨a,xs,n,rfl,hA,xtr,bx,hx,hn,hrun,k⟩:=h;refine⟨_,(ai (au (aq Ea (hr.mono) rfl AA Bi DA .nil al (aa (pv 0) (aa (aq nY (hr.mono) rfl lQ mn nE .nil al (aa (pv 0) ad)) ad))))),?_⟩;refine aY ⟨_,rfl,_,rfl,a,xs,rfl,hA,by omega,bx.mono,λp H1 s1 hp e1=>?_⟩;have hsl:(slopeL xs).length<=1000:=by unfold slopeL;rw[GO,Hm];omega
  exact⟨a,p,xs,slopeL xs,n,rfl,s1 _ _ hA,e1,xtr,iu xtr,hx,hsl,hn,hrun,λl ps H' sm hl hf e r=>k l ps H' (s1.trans sm) (s1.free hl) (λp hp=>⟨s1.free (hf p hp).1,(hf p hp).2⟩) e r⟩
def fI:Sp:=λvs H Q _=>∃(a b:Addr) (xs ys:List Int),vs=[.ref a,.ref b]/\H a=some (.lst (xs.map V.int))/\H b=some (.lst (ys.map V.int))/\xs.length<=1000000/\ys.length<=1000000/\AllB 1000000 xs/\AllB 1000000 ys/\mkL H Q (ae xs ys)
theorem za(F:Fun K "multiplied" "multiplied" kx f fd)(T:Txt K mg):FnOk P w K mg base CX0 1 f fd ["first","second"] fI:=by
 refine F.ok sc_multiplied (λvs H Q E h=>?_) (λcdv A outer s H vs Q E hr h=>?_)
 ·obtain⟨a,b,xs,ys,rfl,_⟩:=h;rfl
 ·obtain⟨a,b,xs,ys,rfl,hA,hB,hx,hy,bx,by',k⟩:=h;have hu:=hr.units
  refine⟨_,(af (aP (PW.pt (bO (aC (fc (K:=K) rfl hu) (pv 0) (bz ad) (aw _)) (cr (aC (fc (K:=K) rfl hu) (pv 1) (bz ad) (aw _)))))
   (ai (au (bz ad)))
   aO)
   (af (aj (i:=2) sc_multiplied.nd rfl (Or.inl rfl) (ag rD (bz (aa ac ad)) (ag aW (ag bh (aJ (aV (K:=K) rfl) (by rfl) T.len_ PySem.boot_len (aa (pv 0) ad)) (aJ (aV (K:=K) rfl) (by rfl) T.len_ PySem.boot_len (aa (pv 1) ad))) ac)))
   (af (bP PassesOwn.never rfl (dI rfl T.enumerate_ (aa (pv 0) ad)) (eZ rfl (cm (aR (i:=3) sc_multiplied.nd rfl (Or.inl rfl)) (cm (aR (i:=4) sc_multiplied.nd rfl (Or.inl rfl)) dJ)))
     (ai (bP PassesOwn.never rfl (dI rfl T.enumerate_ (aa (pv 1) ad)) (eZ rfl (cm (aR (i:=5) sc_multiplied.nd rfl (Or.inl rfl)) (cm (aR (i:=6) sc_multiplied.nd rfl (Or.inl rfl)) dJ)))
       (ai (iT (ag bh (am (bj (K:=K) rfl) (pv 2) (ag bh (pv 3) (pv 5)) (λ_ _=>rfl)) (ag aI (pv 4) (pv 6))) (iV (pv 2) (ag bh (pv 3) (pv 5)) iG))))))
   (ai (au (pv 2)))))),?_⟩
  refine⟨_,rfl,GR _,λp1 hp1=>?_⟩;have s1:Same H (upd H p1 (.lst [])):=Same.upd_new hp1;refine⟨a,p1,xs,[],rfl,rfl,SqL.of (s1 _ _ hA),SqL.of ar,_,rfl,?_⟩;refine aG (λh0=>?_) (λh0=>?_)
  ·refine cR ⟨GR _,λp2 hp2=>k p2 _ (s1.then_new hp2) (s1.free hp2) ?_⟩;rw[ar];unfold ae;rw[if_pos (.inl h0)];rfl
  refine⟨_,rfl,GR _,λp2 hp2=>?_⟩;have s2:Same H (upd (upd H p1 (.lst [])) p2 (.lst [])):=s1.then_new hp2;refine⟨b,p2,ys,[],rfl,rfl,SqL.of (s2 _ _ hB),SqL.of ar,_,rfl,?_⟩;refine aG (λh1=>?_) (λh1=>?_)
  ·refine⟨GR _,λp3 hp3=>k p3 _ (s2.then_new hp3) (s2.free hp3) ?_⟩;rw[ar];unfold ae;rw[if_pos (.inr h1)];rfl
  generalize upd (upd H p1 (.lst [])) p2 (.lst [])=H2 at s2 ⊢
  obtain⟨la,ea⟩:∃la,xs.length=la+1:=⟨xs.length-1,by have:=GQ.mpr h0;omega⟩;obtain⟨lb,eb⟩:∃lb,ys.length=lb+1:=⟨ys.length-1,by have:=GQ.mpr h1;omega⟩;refine⟨(by show 1<=sizeLine;decide),λp3 hp3=>?_⟩;have s3:=s2.then_new (o:=.lst [V.int 0]) hp3;have big:=sizeLine_eq;refine⟨_,rfl,a,_,rfl,.inl (SqL.of (s3 _ _ hA)),_,rfl,b,_,rfl,.inl (SqL.of (s3 _ _ hB)),_,_,rfl,rfl,_,_,rfl,rfl,p3,_,_,rfl,rfl,ar,?_,?_,?_,λp hp=>?_⟩
  ·rw[GO,GO];omega
  ·rw[GO,GO];omega
  ·rw[GO,GO];show 1*_<=_;omega
  have en:(((xs.map V.int).length:Int)+((ys.map V.int).length:Int)-1).toNat=la+lb+1:=by rw[GO,GO];omega
  rw[en,qE];have s4:=s3.then_new (o:=.lst ((List.replicate (la+lb+1) (0:Int)).map V.int)) hp;have npa:a≠p:=s3.ne hA hp;have npb:b≠p:=s3.ne hB hp;generalize hH4:upd (upd H2 p3 (.lst [V.int 0])) p (.lst ((List.replicate (la+lb+1) (0:Int)).map V.int))=H4 at s4 ⊢
  have hp4:H4 p=some (.lst ((List.replicate (la+lb+1) (0:Int)).map V.int)):=by rw[<- hH4,ar]
  refine⟨_,rfl,a,rfl,⟨_,SqL.of (s4 _ _ hA)⟩,ge (K:=K) (a:=a) (xs:=xs.map V.int) (λj σ' H'=>∃(acc:List Int) (z3 z4 z5 z6:Option V),σ'=[some (.ref a),some (.ref b),some (.ref p),z3,z4,z5,z6]/\SameB p H4 H'/\H' p=some (.lst (acc.map V.int))/\acc.length=la+lb+1/\∀n,n<acc.length->cf acc n=sm xs ys n j)
   ⟨List.replicate (la+lb+1) 0,none,none,none,none,rfl,SameB.refl _ _,hp4,by simp,λn _=>by rw[g7];rfl⟩ ?_ ?_ ?_⟩
  ·rintro j σ' H' _ ⟨acc,z3,z4,z5,z6,rfl,sb,_⟩;exact SqL.of (sb _ _ npa (s4 _ _ hA))
  ·rintro j x σ' H' q hj ⟨acc,z3,z4,z5,z6,rfl,sb,hpa,hal,hac⟩ hq;rw[List.getElem?_map]at hj
   have hjl:j<xs.length:=by apply Classical.byContradiction;intro hn;rw[List.getElem?_eq_none_iff.mpr (HG hn)]at hj;cases hj
   rw[de hjl]at hj;obtain rfl:=Option.some.inj hj;refine⟨q,_,rfl,SqT.of ar,rfl,_,_,rfl,_,_,rfl,rfl,?_⟩;have nqp:p≠q:=aN hpa hq;have sb1:SameB p H4 (upd H' q (.tup [.int j,.int (cf xs j)])):=sb.then_new hq
   refine⟨_,rfl,b,rfl,⟨_,SqL.of (sb1 _ _ npb (s4 _ _ hB))⟩,ge (K:=K) (a:=b) (xs:=ys.map V.int) (λi σ' H'=>∃(acc:List Int) (z5 z6:Option V),σ'=[some (.ref a),some (.ref b),some (.ref p),some (.int j),some (.int (cf xs j)),z5,z6]/\SameB p H4 H'/\H' p=some (.lst (acc.map V.int))/\acc.length=la+lb+1/\∀n,n<acc.length->cf acc n=sm xs ys n j+(if j<=n/\n-j<i then tm xs ys n j else 0))
    ⟨acc,z5,z6,rfl,sb1,by rw[upd_ne nqp];exact hpa,hal,r9 hac⟩ ?_ ?_ ?_⟩
   ·rintro i σ' H' _ ⟨acc,z5,z6,rfl,sb,_⟩;exact SqL.of (sb _ _ npb (s4 _ _ hB))
   ·rintro i x σ' H' q hi ⟨acc,z5,z6,rfl,sb,hpa,hal,hac⟩ hq;rw[List.getElem?_map]at hi
    have hil:i<ys.length:=by apply Classical.byContradiction;intro hn;rw[List.getElem?_eq_none_iff.mpr (HG hn)]at hi;cases hi
    rw[de hil]at hi;obtain rfl:=Option.some.inj hi;refine⟨q,_,rfl,SqT.of ar,rfl,_,_,rfl,_,_,rfl,rfl,?_⟩;have nqp:p≠q:=aN hpa hq;have hpa':upd H' q (.tup [.int i,.int (cf ys i)]) p=some (.lst (acc.map V.int)):=by rw[upd_ne nqp];exact hpa
    have hji:j+i<acc.length:=by omega
    have eji:((j:Nat):Int)+((i:Nat):Int)=((j+i:Nat):Int):=by omega
    refine⟨_,rfl,_,rfl,_,rfl,_,_,rfl,rfl,p,_,_,_,rfl,rfl,SqL.of hpa',jH eji hji,_,rfl,_,rfl,_,_,rfl,rfl,⟨bx.cf j,by'.cf i⟩,_,_,rfl,rfl,_,rfl,_,rfl,_,rfl,_,_,rfl,rfl,p,_,_,j+i,rfl,rfl,hpa',jk eji (by rw[GO];exact hji),?_⟩;refine⟨acc.set (j+i) (cf acc (j+i)+cf xs j*cf ys i),_,_,rfl,(sb.then_new hq).then_upd,by rw[ar,jb],by rw[Il];exact hal,r8 hjl hil hji hac⟩
   ·rintro σ' H' ⟨acc,z5,z6,rfl,sb,hpa,hal,hac⟩;rw[GO]at hac;exact⟨acc,_,_,_,_,rfl,sb,hpa,hal,sd hac⟩
  ·rintro σ' H' ⟨acc,z3,z4,z5,z6,rfl,sb,hpa,hal,hac⟩;rw[GO]at hac;refine⟨_,rfl,k p H' (λb' o e=>sb b' o (s3.ne e hp) (s4 b' o e)) (s3.free hp) ?_⟩;rw[hpa]
   have e:acc=ae xs ys:=by
    apply cP
    ·rw[hal];unfold ae;rw[if_neg (by intro z;exact z.elim h0 h1),GO,Hm];omega
    ·intro n _;rw[aE,se (by omega) hac]
   rw[e]
def Vp(C:Addr)(H:Hp)(vs:List V)(a r:Addr)(ns:List Int)(t b:Int):Prop:=vs=[.ref a,.ref r]/\H a=some (.lst (ns.map V.int))/\RA C H r t b/\ns.length<=20/\AllB 95000 ns/\Bits 400 t/\Bits 400 b
def VpI(H:Hp)(vs:List V)(a:Addr)(ns:List Int)(t b:Int):Prop:=vs=[.ref a,.int t,.int b]/\H a=some (.lst (ns.map V.int))/\ns.length<=20/\AllB 95000 ns/\Bits 400 t/\Bits 400 b
def pi:Sp:=λvs H Q _=>∃(a:Addr) (ns:List Int) (t b:Int),VpI H vs a ns t b/\∀(p:Addr) (H':Hp),Same H H'->H p=none->H' p=some (.tup [.int (hv t b ns),.int (b^ns.length)])->Q (.ref p) H'
theorem mI{t b:Int}(bt:Bits 400 t)(bb:Bits 400 b):∀{l:List Int},AllB 95000 l->Bits (95000+1+(400+1)*l.length) (hv t b l)
 | [],_=>by refine Bits.mono (j:=1) ?_ (by omega);show(0:Int).natAbs<2^1;decide
 |v::l,h=>by
  rw[cY];have h1:=h v (GY ..);have h2:=mI bt bb (l:=l) λx hx=>h x (GU _ hx)
  have e1:=(h1.mul (eD bb (l.length+1))).mono (k:=95000+1+(400+1)*l.length+400) (by omega);have e2:=(bt.mul h2).mono (k:=95000+1+(400+1)*l.length+400) (by omega);exact(e1.add e2).mono (by rw[Hl];omega)
theorem yS(F:Fun K "value_parts" "value_parts" kg f fd)(T:Txt K mg):FnOk P w K mg base CX0 1 f fd ["row","top","bottom"] pi:=by
 refine F.ok sc_value_parts (λvs H Q E h=>?_) (λcdv A outer s H vs Q E hr h=>?_)
 ·obtain⟨a,ns,t,b,⟨rfl,_⟩,_⟩:=h;rfl
 ·obtain⟨a,ns,t,b,⟨rfl,hA,hn,hb,bt,bb⟩,k⟩:=h
  refine⟨_,(af (aj (i:=3) sc_value_parts.nd rfl (Or.inl rfl) ac)
   (af (aj (i:=4) sc_value_parts.nd rfl (Or.inl rfl) ac)
   (af (bP PassesOwn.never rfl (rA rfl T.reversed_ (aa (pv 0) ad)) (aR (i:=5) sc_value_parts.nd rfl (Or.inl rfl))
     (af (aj (i:=4) sc_value_parts.nd rfl (Or.inl rfl) (ag aI (pv 4) (pv 2)))
       (ai (aj (i:=3) sc_value_parts.nd rfl (Or.inl rfl) (ag bh (ag aI (pv 3) (pv 1)) (ag aI (pv 5) (pv 4)))))))
   (ai (au (cz (aa (pv 3) (aa (pv 4) ad)))))))),?_⟩
  have hl:(ns.map V.int).length=ns.length:=GO _;refine ax ?_;refine ax ?_;refine⟨_,rfl,a,_,rfl,SqL.of hA,tU (K:=K) (a:=a) (xs:=ns.map V.int) (λi σ' H'=>∃z:Option V,σ'=[some (.ref a),some (.int t),some (.int b),some (.int (hv t b (ns.drop (ns.length-i)))),some (.int (b^i)),z]/\H=H') ⟨none,?_,rfl⟩ ?_ ?_ ?_⟩
  ·rw[H0,List.drop_length,Int.pow_zero];rfl
  ·rintro i σ' H' _ ⟨z,rfl,rfl⟩;exact SqL.of hA
  ·rintro i x σ' H' hi hx ⟨z,rfl,rfl⟩;rw[hl]at hi hx;obtain⟨c,ec,rfl,hc,_⟩:=dE hx;have hi':i<ns.length:=hi;have e1:ns.length-(i+1)=ns.length-1-i:=by omega
   have hd:=CO t b (l:=ns) (n:=ns.length-1-i) (by omega);have e2:ns.length-1-i+1=ns.length-i:=by omega
   have e3:ns.length-(ns.length-1-i)=i+1:=by omega
   rw[e2,e3,nj ec]at hd;have bs:=mI bt bb (l:=ns.drop (ns.length-i)) λx hx=>hb x (List.mem_of_mem_drop hx)
   rw[Ik]at bs;have bp:=eD bb i;have bq:=eD bb (i+1);refine⟨_,rfl,_,rfl,_,_,rfl,rfl,⟨bp.mono (by omega),bb.mono⟩,?_⟩;refine⟨_,rfl,_,rfl,_,_,rfl,rfl,⟨bs.mono (by omega),bt.mono⟩,_,rfl,_,rfl,_,_,rfl,rfl,⟨(hb c hc).mono,?_⟩,_,_,rfl,rfl,?_⟩
   ·show Bits 1000000 (b^i*b);rw[<- Hq];exact bq.mono (by omega)
   refine⟨some (.int c),?_,rfl⟩;rw[e1,hd,Hq b i,Int.add_comm,Hv t];rfl
  ·rintro σ' H' ⟨z,rfl,rfl⟩;rw[hl,Nat.sub_self,IT];exact⟨_,rfl,_,rfl,by show 2<=sizeLine;decide,λp hp=>k p _ (Same.upd_new hp) hp ar⟩
def pC(C:Addr):Sp:=λvs H Q _=>∃(a r:Addr) (ns:List Int) (t b:Int),Vp C H vs a r ns t b/\∀H',Same H H'->Q (.int (sg (hv t b ns))) H'
theorem yV(F:Fun K "sign_at" "sign_at" kj f fd)(T:Txt K mg)(R:RCI K mg C)(Ex:Cal P w K mg base 1 "value_parts" ["row","top","bottom"] pi FU Fh)(ii:Cal P w K mg base 1 "whole_sign" ["value"] iA uf ub):FnOk P w K mg base CX0 2 f fd ["row","ratio"] (pC C):=by
 obtain⟨D7,Ax,Bf,Dx⟩:=Ex;obtain⟨ib,gM,gQ,g8⟩:=ii;refine F.ok xj (λvs H Q E h=>?_) (λcdv A outer s H vs Q E hr h=>?_)
 ·obtain⟨a,r,ns,t,b,⟨rfl,_⟩,_⟩:=h;rfl
 ·obtain⟨a,r,ns,t,b,hV,k⟩:=h;obtain⟨rfl,hA,⟨dx,hR⟩,hn,hbs,bt,bb⟩:=hV;refine⟨_,(ai (au (aq ib (hr.mono) rfl gM gQ g8 .nil al (aa (am (aB (K:=K) rfl) (aq D7 (hr.mono) rfl Ax Bf Dx .nil al (aa (pv 0) (aa (cU (K:=K) rfl (pv 1) rfl) (aa (cU (K:=K) rfl (pv 1) rfl) ad)))) ac (λ_ _=>rfl)) ad)))),?_⟩;refine⟨_,rfl,_,rfl,r,C,dx,_,_,rfl,hR,R.cl,R.nT,mM _ _,_,rfl,r,C,dx,_,_,rfl,hR,R.cl,R.nB,mN _ _,a,ns,t,b,⟨rfl,hA,hn,hbs,bt,bb⟩,λp H1 s1 hp e1=>?_⟩;exact⟨p,_,_,_,rfl,rfl,SqT.of e1,rfl,_,rfl,k H1 s1⟩
noncomputable def sgs(t b:Int)(xss:List (List Int)):List Int:=xss.map λp=>sg (hv t b p)
def pV(C:Addr):Sp:=λvs H Q _=>∃(l r:Addr) (ps:List Addr) (xss:List (List Int)) (t b:Int),vs=[.ref l,.ref r]/\H l=some (.lst (ps.map V.ref))/\RwH H ps xss/\RA C H r t b/\Bits 400 t/\Bits 400 b/\(∀xs∈xss,xs.length<=20/\AllB 95000 xs)/\xss.length<=1000000/\∀H',Same H H'->Q (.int (chS (sgs t b xss)).1) H'
theorem wU(t b:Int)(xss:List (List Int)):∀s∈sgs t b xss,s.natAbs<=1:=λs hs=>by obtain⟨x,_,rfl⟩:=GT.mp hs;exact qt _
theorem qq{t b:Int}{xss:List (List Int)}{i:Nat}{xs:List Int}(h:xss[i]?=some xs):sgs t b (xss.take (i+1))=sgs t b (xss.take i)++[sg (hv t b xs)]:=by unfold sgs;rw[HM,h,G8];rfl
theorem rH{x:Int}(h:x.natAbs<=1):Bits 1000000 x:=Bits.mono (j:=1) (IX h (by decide)) (by decide)
theorem zl(F:Fun K "changes" "changes" kF f fd)(T:Txt K mg)(R:RCI K mg C)(Ey:Cal P w K mg base 2 "sign_at" ["row","ratio"] (pC C) FV Fi):FnOk P w K mg base CX0 3 f fd ["row","ratio"] (pV C):=by
 obtain⟨D8,Ay,Bg,Dy⟩:=Ey;refine F.ok sc_changes (λvs H Q E h=>?_) (λcdv A outer s H vs Q E hr h=>?_)
 ·obtain⟨l,r,ps,xss,t,b,rfl,_⟩:=h;rfl
 ·obtain⟨l,r,ps,xss,t,b,rfl,hL,hR,hRA,bt,bb,hb,hn,k⟩:=h
  refine⟨_,(af (aj (i:=2) sc_changes.nd rfl (Or.inl rfl) ac)
   (af (aj (i:=3) sc_changes.nd rfl (Or.inl rfl) ac)
   (af (bP PassesOwn.never rfl (cy (K:=K) rfl (pv 0)) (aR (i:=4) sc_changes.nd rfl (Or.inl rfl))
     (af (aj (i:=5) sc_changes.nd rfl (Or.inl rfl) (aq D8 (hr.mono) rfl Ay Bg Dy .nil al (aa (pv 4) (aa (pv 1) ad))))
       (af (aP (aC cC (ag aI (pv 5) (pv 3)) ac (aw _))
         (ai (aj (i:=2) sc_changes.nd rfl (Or.inl rfl) (ag bh (pv 2) ac)))
         aO)
       (ai (aP (aC da (pv 5) ac (aw _))
         (ai (aj (i:=3) sc_changes.nd rfl (Or.inl rfl) (pv 5)))
         aO)))))
   (ai (au (pv 2)))))),?_⟩
  have hpl:(ps.map V.ref).length=xss.length:=by rw[GO,hR.1]
  refine ax ?_;refine ax ?_;refine⟨_,rfl,l,rfl,⟨_,SqL.of hL⟩,df (K:=K) (a:=l) (xs:=ps.map V.ref) (λi σ' H'=>∃(z4 z5:Option V),σ'=[some (.ref l),some (.ref r),some (.int (chS (sgs t b (xss.take i))).1),some (.int (chS (sgs t b (xss.take i))).2),z4,z5]/\Same H H') ⟨none,none,rfl,λ_ _ e=>e⟩ ?_ ?_ ?_⟩
  ·rintro i σ' H' _ ⟨z4,z5,rfl,sm⟩;exact SqL.of (sm _ _ hL)
  ·rintro i x σ' H1 hi ⟨z4,z5,rfl,s1⟩;obtain⟨p,xs,rfl,ep,ex,hp,hlt⟩:=hR.of_get hi;obtain⟨hx1,hx2⟩:=hb xs (List.mem_of_getElem? ex);show bU (eL _ (dY 5)) _ _ _ _;refine ax ⟨_,rfl,_,rfl,p,r,xs,t,b,⟨rfl,s1 _ _ hp,hRA.same s1,hx1,hx2,bt.mono,bb.mono⟩,λH2 sm2=>?_⟩;have s2:=s1.trans sm2;obtain⟨c1,c2,c3⟩:=Dn _ (wU t b (xss.take i));rw[qq ex,m8];have hs:=qt (hv t b xs);generalize sg (hv t b xs)=s at hs ⊢
   generalize chS (sgs t b (xss.take i))=z at c1 ⊢
   obtain⟨m,bf⟩:=z;dsimp only
   refine cS (λσ' H'=>σ'=[some (.ref l),some (.ref r),some (.int (if s*bf<0 then m+1 else m)),some (.int bf),some (.ref p),some (.int s)]/\H2=H') ?_ ?_
   case refine_2 =>
    intro rest;refine⟨_,rfl,_,rfl,_,_,rfl,rfl,⟨rH hs,rH c1⟩,_,_,rfl,rfl,_,rfl,aG (λh1=>?_) (λh1=>?_)⟩
    ·refine cq ⟨_,rfl,_,_,rfl,rfl,rest _ _ ⟨?_,rfl⟩⟩;rw[if_pos h1];rfl
    ·refine rest _ _ ⟨?_,rfl⟩;rw[if_neg h1];rfl
   rintro σ' H' ⟨rfl,rfl⟩;refine⟨_,rfl,_,_,rfl,rfl,_,rfl,b9 (λh1=>?_) (λh1=>?_)⟩
   ·refine cq ⟨_,rfl,some (.ref p),some (.int s),?_,s2⟩;unfold chF;have h1':¬s=0:=h1;rw[if_neg h1'];rfl
   ·refine⟨some (.ref p),some (.int s),?_,s2⟩;unfold chF;have h1':s=0:=h1;rw[if_pos h1']
  ·rintro σ' H' ⟨z4,z5,rfl,sm⟩;rw[hpl,HB];exact⟨_,rfl,k H' sm⟩
def pU(C:Addr):Sp:=λvs H Q _=>∃(l r r2:Addr) (ps:List Addr) (xss:List (List Int)) (t b t2 b2:Int),vs=[.ref l,.ref r,.ref r2]/\H l=some (.lst (ps.map V.ref))/\RwH H ps xss/\RA C H r t b/\RA C H r2 t2 b2/\Bits 400 t/\Bits 400 b/\Bits 400 t2/\Bits 400 b2/\(∀xs∈xss,xs.length<=20/\AllB 95000 xs)/\xss.length<=1000000/\∀H',Same H H'->Q (.int ((chS (sgs t b xss)).1-(chS (sgs t2 b2 xss)).1)) H'
theorem zj(F:Fun K "count" "count" kD f fd)(T:Txt K mg)(R:RCI K mg C)(EN:Cal P w K mg base 3 "changes" ["row","ratio"] (pV C) Gi Fw):FnOk P w K mg base CX0 4 f fd ["row","low","high"] (pU C):=by
 obtain⟨vE,sy,sX,vh⟩:=EN;refine F.ok xu (λvs H Q E h=>?_) (λcdv A outer s H vs Q E hr h=>?_)
 ·obtain⟨l,r,r2,ps,xss,t,b,t2,b2,rfl,_⟩:=h;rfl
 ·obtain⟨l,r,r2,ps,xss,t,b,t2,b2,rfl,hL,hR,h1,h2,bt,bb,bt2,bb2,hb,hn,k⟩:=h;refine⟨_,(ai (au (ag aW (aq vE (hr.mono) rfl sy sX vh .nil al (aa (pv 0) (aa (pv 1) ad))) (aq vE (hr.mono) rfl sy sX vh .nil al (aa (pv 0) (aa (pv 2) ad)))))),?_⟩;refine aY ⟨_,rfl,_,rfl,l,r,ps,xss,t,b,rfl,hL,hR,h1,bt,bb,hb,hn,λH1 s1=>?_⟩;refine⟨_,rfl,_,rfl,l,r2,ps,xss,t2,b2,rfl,s1 _ _ hL,hR.same s1,h2.same s1,bt2,bb2,hb,hn,λH2 s2=>?_⟩;exact⟨_,_,rfl,rfl,k _ (s1.trans s2)⟩
structure NCI(K:PySem.W.Frag)(mg:Str->Option Value)(CN:Addr):Prop where
 cl:Cls K CN
 nP:NoAttr K CN "poly"
 nL:NoAttr K CN "low"
 nH:NoAttr K CN "high"
 mg:mg "Number"=some (.ref CN)
 ha:PySem.W.findIn K (.ref CN) "__class__"=some (some (.builtin "object.__class__"))
 hn:PySem.W.specialIn K (.builtin "object.__class__") "__get__"=some (some (.builtin "getset_descriptor.__get__"))
 ht:PySem.W.takesIn K (.builtin "object.__class__")=some true
 hm:PySem.W.mroIn K CN (.type "object")=some true
noncomputable def dZ(p l h:Addr):List (Str×V):=bR "high" (.ref h) (bR "low" (.ref l) (bR "poly" (.ref p) []))
theorem yz:¬(("poly":Str)="high"):=by decide +kernel
theorem yv:¬(("poly":Str)="low"):=by decide +kernel
theorem AZ:¬(("low":Str)="high"):=by decide +kernel
theorem Cg(p l h:Addr):(dZ p l h).lookup ("high":Str)=some (.ref h):=by unfold dZ;rw[cG,if_pos rfl]
theorem Cf(p l h:Addr):(dZ p l h).lookup ("low":Str)=some (.ref l):=by unfold dZ;rw[cG,if_neg AZ,cG,if_pos rfl]
theorem mO(p l h:Addr):(dZ p l h).lookup ("poly":Str)=some (.ref p):=by unfold dZ;rw[cG,if_neg yz,cG,if_neg yv,cG,if_pos rfl]
def NA(CN:Addr)(H:Hp)(x p l h:Addr):Prop:=∃dx,H x=some (.ins CN dx (dZ p l h))
theorem NA.same{CN:Addr}{H H':Hp}{x p l h:Addr}(n:NA CN H x p l h)(s:Same H H'):NA CN H' x p l h:=let⟨dx,e⟩:=n;⟨dx,s _ _ e⟩
def iC(CN:Addr):Sp:=λvs H Q _=>∃(x dx r l h:Addr) (ns:List V),vs=[.ref x,.ref r,.ref l,.ref h]/\H x=some (.ins CN dx [])/\H r=some (.lst ns)/\∀p,H p=none->Q .non (upd (upd H p (.lst ns)) x (.ins CN dx (dZ p l h)))
theorem zR(F:Fun K "__init__" "Number.__init__" lh f fd)(T:Txt K mg)(RN:NCI K mg CN):FnOk P w K mg base CX0 1 f fd ["self","row","low","high"] (iC CN):=by
 refine F.ok xB (λvs H Q E h=>?_) (λcdv A outer s H vs Q E hr h=>?_)
 ·obtain⟨x,dx,r,l,h,ns,rfl,_⟩:=h;rfl
 ·obtain⟨x,dx,r,l,h,ns,rfl,hx,hR,k⟩:=h
  refine⟨_,(af (gF (pv 0) (gI (jD (K:=K) rfl) (by rfl) T.list_ PyProof.Rows.boot_list (aa (pv 1) ad)) rfl)
   (af (gF (pv 0) (pv 2) rfl)
   (ai (gF (pv 0) (pv 3) rfl)))),?_⟩
  refine⟨_,rfl,r,_,rfl,.inl (SqL.of hR),λp hp=>?_⟩;have npx:x≠p:=aN hx hp;refine⟨_,rfl,x,CN,dx,_,rfl,by rw[upd_ne npx];exact hx,RN.cl,RN.nP,by show 0<1000;decide,?_⟩;refine⟨_,rfl,_,rfl,x,CN,dx,_,rfl,ar,RN.cl,RN.nL,by show 1<1000;decide,?_⟩;refine⟨_,rfl,_,rfl,x,CN,dx,_,rfl,ar,RN.cl,RN.nH,by show 2<1000;decide,?_⟩;show Q .non (upd (upd (upd (upd H p _) x _) x _) x _);rw[ip,ip];exact k p hp
theorem rS:(¬("against":Str)="bottom")/\¬("against":Str)="top":=⟨by decide +kernel,by decide +kernel⟩
theorem Aw{CN:Addr}{H3:Hp}{q:Addr->Hp->Prop}{E:XK}{r l h:Addr}{ns:List V}(e3:H3 r=some (.lst ns))(k:∀(x p:Addr) (H':Hp),Same H3 H'->H3 x=none->NA CN H' x p l h->H' p=some (.lst ns)->H3 p=none->q x H'):∀x dx:Addr,H3 x=none->H3 dx=none->dx≠x->iC CN (.ref x::([.ref r,.ref l,.ref h]++[])) (upd (upd H3 dx (.own x)) x (.ins CN dx [])) (λv H2=>v=.non/\q x H2) E:=λx dx nx ndx ne=>by
 have npx:r≠x:=aN e3 nx;have npd:r≠dx:=aN e3 ndx;refine⟨x,dx,r,l,h,_,rfl,ar,by rw[upd_ne npx,upd_ne npd];exact e3,λq hq=>⟨rfl,?_⟩⟩;have nqx:q≠x:=λz=>by rw[z,ar]at hq;cases hq
 have nqd:q≠dx:=λz=>by rw[z,upd_ne ne,ar]at hq;cases hq
 have hq3:H3 q=none:=by rw[upd_ne nqx,upd_ne nqd]at hq;exact hq
 refine k x q _ (λc o ec=>?_) nx ⟨dx,ar⟩ (by rw[upd_ne nqx,ar]) hq3;have ncx:c≠x:=aN ec nx;have ncd:c≠dx:=aN ec ndx;have e4:upd (upd H3 dx (.own x)) x (.ins CN dx []) c=some o:=by rw[upd_ne ncx,upd_ne ncd];exact ec
 rw[upd_ne ncx,upd_ne (aN e4 hq)];exact e4
theorem qg{i j:Nat}{a b:List Int}{n:Nat}(ha:AllB i a)(hb:AllB j b):∀m,Bits (i+j+m) (sm a b n m)
 |0=>Bits.zero
 |m+1=>by
  rw[sm];refine(qg ha hb m).add ?_;unfold tm;split
  ·exact((ha.cf m).mul (hb.cf _)).mono (by omega)
  ·exact Bits.zero
theorem si{i j k:Nat}{a b:List Int}(ha:AllB i a)(hb:AllB j b)(hk:i+j+a.length<=k):AllB k (ae a b):=AllB.of_cf λn=>by rw[aE];exact(qg ha hb a.length).mono hk
theorem i6(a b:List Int):(ae a b).length<=a.length+b.length:=by
 unfold ae;split
 ·exact GR _
 ·rw[GO,Hm];omega
theorem uA{xs ys:List Int}{x y:Nat}(hx:AllB x xs)(hy:AllB y ys):∀i,AllB (x+i*(y+1)) (aK xs ys i).1/\AllB (x+i*(y+1)) (aK xs ys i).2
 |0=>by rw[Nat.zero_mul];exact⟨AllB.zeros,hx⟩
 |i+1=>by
  obtain⟨h1,h2⟩:=uA hx hy i;have e:x+(i+1)*(y+1)=x+i*(y+1)+y+1:=by rw[Nat.succ_mul];omega
  have hs:Bits y (((RM.cf ys (ys.length-1)).natAbs:Nat):Int):=gj (hy.cf _);rw[e];show AllB _ (ci ys (aK xs ys i) _).1/\AllB _ (ci ys (aK xs ys i) _).2;unfold ci;dsimp only
  constructor
  ·intro v hv;rcases List.mem_or_eq_of_mem_set hv with h |rfl
   ·obtain⟨u,hu,rfl⟩:=GT.mp h;exact(hs.mul (h1 u hu)).mono (by omega)
   ·exact(gB (h2.cf _)).mono (by omega)
  ·refine AllB.of_cf λn=>?_
   rw[jC];by_cases hn:n<(scL (((RM.cf ys (ys.length-1)).natAbs:Nat):Int) (aK xs ys i).2).length-1
   ·rw[if_pos hn,bv]
    have m1:Bits (x+i*(y+1)+y) ((((RM.cf ys (ys.length-1)).natAbs:Nat):Int)*RM.cf (aK xs ys i).2 n):=by have:=hs.mul (h2.cf n);rwa [Nat.add_comm]at this
    refine m1.sub ?_;by_cases hp:(xs.length+1-ys.length-1-i)<=n
    ·rw[if_pos hp];exact(gB (h2.cf _)).mul (hy.cf _)
    ·rw[if_neg hp];exact Bits.zero
   ·rw[if_neg hn];exact Bits.zero
theorem j7{n:Nat}{l:List Int}(h:AllB n l):AllB n (ah l):=by
 intro y hy;obtain⟨x,hx,rfl⟩:=GT.mp hy;obtain⟨d,hd⟩:=gc hx;by_cases hg:(ak l:Int)=0
 ·rw[hg,Int.ediv_zero];exact Bits.zero
 ·have e:x/(ak l:Int)=d:=by rw[hd];exact Int.mul_ediv_cancel_left d hg
  rw[e];refine(h x hx).of_le ?_;rw[hd,Hj];exact IK _ (HW.mpr hg)
theorem j6(l:List Int):(ah l).length=l.length:=GO _
theorem qy(n:Nat)(o:List Int):Run n [] o:=by cases n with |zero=>rfl |succ n=>exact .inl rfl
theorem ut(n:Nat)(o:List Int):RM.Ends n [] o:=by cases n with |zero=>rfl |succ n=>exact .inl rfl
theorem gr8:gr 540 6=91260:=by decide
def Okr(xs:List Int):Prop:=Tr xs/\AllB 91260 xs/\xs.length<=7
theorem qx:∀(n:Nat) (one other:List Int) (x y s:Nat),one.length=s+1->s<=6->other.length<=s->s<n->Tr one->Tr other->AllB x one->AllB y other->x+1<=gr 540 (6-s)->y+1<=gr 540 (6-s+1)->Run n one other/\RM.Ends n one other/\∀xs∈aF n one other,Okr xs
 |0,one,other,x,y,s,_,_,_,h,_,_,_,_,_,_=>absurd h (Nat.not_lt_zero _)
 |m+1,one,other,x,y,s,hl,hs8,hol,hsm,t1,t2,b1,b2,g1,g2=>by
  have hne:one≠[]:=λz=>by rw[z]at hl;simp at hl
  have m1:gr 540 (6-s)<=91260:=by rw[<- gr8];exact gd 540 (by omega)
  have bo1:AllB 91260 one:=b1.mono (by omega)
  have bo2:AllB 91260 other:=by
   by_cases ho:other=[]
   ·rw[ho];exact AllB.nil
   ·have:=GQ.mpr ho;have m2:gr 540 (6-s+1)<=91260:=by rw[<- gr8];exact gd 540 (by omega)
    exact b2.mono (by omega)
  have fit:Fit one other:=⟨t1,t2,91260,bo1,bo2,by rw[hl];omega,by omega⟩
  have eS:aF (m+1) one other=one::aF m other (nxt one other):=by show(if one=[]then[]else one::aF m other (nxt one other))=_;rw[if_neg hne]
  have ok1:Okr one:=⟨t1,bo1,by omega⟩;by_cases ho:other=[]
  ·subst ho;refine⟨.inr ⟨fit,qy _ _⟩,.inr (ut _ _),λxs hx=>?_⟩;rw[eS,eU]at hx;rw[G1.mp hx];exact ok1
  ·have hop:=GQ.mpr ho;obtain⟨d,hd⟩:∃d,other.length=d+1:=⟨other.length-1,by omega⟩;have hN:aQ one other=(s-d-1)+2:=by unfold aQ;omega
   have e6:6-s+2+(s-d-1)=6-d+1:=by omega
   have rb:AllB (x+aQ one other*(y+1)) (aA one other):=((uA b1 b2 (aQ one other)).2).trim
   have nb:AllB (x+aQ one other*(y+1)) (nxt one other):=by
    unfold nxt rst;rw[if_neg ho,iy (d7 _ _)];refine j7 λv hv=>?_
    obtain⟨u,hu,rfl⟩:=GT.mp hv;have:=(rb u hu).neg
    rwa [show -1*u = -u by omega]
   have nl:(nxt one other).length<=d:=by unfold nxt rst;rw[if_neg ho,iy (d7 _ _),j6,bX];have:=d8 (a:=one) ho;omega
   have nt:Tr (nxt one other):=c7 (cL _);have jump:=tM 540 (6-s) (s-d-1);rw[e6]at jump;have mm:=IF (s-d-1+2) g2;obtain⟨r1,r2,r3⟩:=qx m other (nxt one other) y (x+aQ one other*(y+1)) d hd (by omega) nl (by omega) t2 nt b2 nb (GW g2 (gd 540 (by omega))) (by rw[hN];omega);refine⟨.inr ⟨fit,r1⟩,.inr r2,λxs hx=>?_⟩;rw[eS]at hx;rcases GX.mp hx with rfl |hx
   ·exact ok1
   ·exact r3 xs hx
theorem cK{H:Hp}{ps:List Addr}{r:List (List Int)}{i:Nat}{j:Int}(h:RwH H ps r)(hi:i<r.length)(e:j=i):∃p,atI (ps.map V.ref) j=some (.ref p)/\H p=some (.lst ((r.getD i []).map V.int)):=by obtain⟨p,ep,hp⟩:=h.get hi;subst e;exact⟨p,fA (by rw[List.getElem?_map,ep];rfl),hp⟩
theorem vq{H:Hp}{ps:List Addr}{r:List (List Int)}{i:Nat}(h:RwH H ps r)(hi:0<i)(hi2:i<=r.length):∃p,atI (ps.map V.ref) (-(i:Int))=some (.ref p)/\H p=some (.lst ((r.getD (r.length-i) []).map V.int)):=by
 obtain⟨p,ep,hp⟩:=h.get (i:=r.length-i) (by omega);refine⟨p,?_,hp⟩;have hl:(ps.map V.ref).length=r.length:=by rw[GO,h.1]
 have e:ixN (ps.map V.ref).length (-(i:Int))=some (r.length-i):=by
  unfold ixN;rw[hl,if_neg (by omega),if_pos (by omega)]
  congr 1;omega
 unfold atI;rw[e];show(ps.map V.ref)[r.length-i]?=_;rw[List.getElem?_map,ep];rfl
theorem qC:∀(n:Nat) (one other:List Int),(aF n one other).length<=n
 |0,_,_=>GP _
 |n+1,one,other=>by
  show(if one=[]then[]else one::aF n other (nxt one other)).length<=n+1;split
  ·exact GR _
  ·have:=qC n other (nxt one other);rw[Hl];omega
theorem wH{n:Nat}{xs:List Int}(h:AllB n xs)(hl:xs.length<=9):AllB (n+4) (slopeL xs):=by intro x hx;obtain⟨k,hk,rfl⟩:=GT.mp hx;have hk':k<xs.length-1:=IG.mp hk;have b1:Bits 4 ((k:Int)+1):=IX (show((k:Int)+1).natAbs<=8 by omega) (by decide);exact(b1.mul (h.cf (k+1))).mono (by omega)
theorem iE(xs:List Int):(slopeL xs).length=xs.length-1:=by unfold slopeL;rw[GO,Hm]
theorem xI{kps:List Int}(ktr:Tr kps)(kb:AllB 530 kps)(kl:kps.length<=7):Run 9 (ah kps) (ah (slopeL kps))/\RM.Ends 9 (ah kps) (ah (slopeL kps))/\∀xs∈aF 9 (ah kps) (ah (slopeL kps)),Okr xs:=by
 by_cases h0:kps=[]
 ·subst h0
  exact⟨qy _ _,ut _ _,λxs hx=>by
   have e:ah []=[]:=rfl;rw[e,eU]at hx
   exact nomatch hx⟩
 ·have hl:=GQ.mpr h0;obtain⟨s,hs⟩:∃s,kps.length=s+1:=⟨kps.length-1,by omega⟩;refine qx 9 (ah kps) (ah (slopeL kps)) 530 534 s (by rw[j6,hs]) (by omega) (by rw[j6,iE,hs];omega) (by omega) (c7 ktr) (c7 (iu ktr)) (j7 kb) (j7 (wH kb (by omega))) ?_ ?_
  ·exact GW (show 531<=gr 540 0 by decide) (gd 540 (GR _))
  ·exact GW (show 535<=gr 540 1 by decide) (gd 540 (by omega))
theorem xP{Q:Hp->Prop}{H1 H2:Hp}(e:H1=H2)(h:Q H2):Q H1:=by rw[e];exact h
theorem w9(c:Int):(sg c<0↔c<0)/\(0<=sg c↔0<=c)/\(sg c<=0↔c<=0):=by unfold sg;split<;>(try split)<;>omega
abbrev Lnk:=Int×List Int×Int
def LkA(H:Hp)(p:Addr)(x:Lnk):Prop:=∃qa,H p=some (.tup [.int x.1,.ref qa,.int x.2.2])/\H qa=some (.lst (x.2.1.map V.int))
theorem LkA.same{H H':Hp}{p:Addr}{x:Lnk}(h:LkA H p x)(s:Same H H'):LkA H' p x:=let⟨qa,a,b⟩:=h;⟨qa,s _ _ a,s _ _ b⟩
def LkH(H:Hp)(ps:List Addr)(xs:List Lnk):Prop:=ps.length=xs.length/\∀(i:Nat) (p:Addr) (x:Lnk),ps[i]?=some p->xs[i]?=some x->LkA H p x
theorem LkH.same{H H':Hp}{ps:List Addr}{xs:List Lnk}(h:LkH H ps xs)(s:Same H H'):LkH H' ps xs:=⟨h.1,λi p x a b=>(h.2 i p x a b).same s⟩
theorem LkH.nil{H:Hp}:LkH H [] []:=⟨rfl,λi p x h=>by simp at h⟩
theorem LkH.snoc{H:Hp}{ps:List Addr}{xs:List Lnk}{p:Addr}{x:Lnk}(h:LkH H ps xs)(hp:LkA H p x):LkH H (ps++[p]) (xs++[x]):=by
 refine⟨by rw[GZ,GZ,h.1];rfl,λi q y a b=>?_⟩;by_cases hi:i<ps.length
 ·rw[List.getElem?_append_left hi]at a;rw[List.getElem?_append_left (by rw[<- h.1];exact hi)]at b;exact h.2 i q y a b
 ·rw[List.getElem?_append_right (by omega)]at a;rw[List.getElem?_append_right (by rw[<- h.1];omega),<- h.1]at b;by_cases h0:i-ps.length=0
  ·rw[h0]at a b;obtain rfl:p=q:=by simpa using a
   obtain rfl:x=y:=by simpa using b
   exact hp
  ·rw[List.getElem?_eq_none_iff.mpr (by simp;omega)]at a;cases a
theorem LkH.of_get{H:Hp}{ps:List Addr}{xs:List Lnk}{i:Nat}{v:V}(h:LkH H ps xs)(hx:(ps.map V.ref)[i]?=some v):∃p x,v=.ref p/\ps[i]?=some p/\xs[i]?=some x/\LkA H p x/\i<xs.length:=by
 rw[List.getElem?_map]at hx;cases e:ps[i]? with
 |none=>rw[e]at hx;cases hx
 |some p =>
  rw[e]at hx;have hi:i<ps.length:=(List.getElem?_eq_some_iff.mp e).1;have hi':i<xs.length:=by rw[<- h.1];exact hi
  exact⟨p,xs[i],(Option.some.inj hx).symm,rfl,List.getElem?_eq_getElem hi',h.2 i p _ e (List.getElem?_eq_getElem hi'),hi'⟩
noncomputable def ga(a b:List Int):Lnk:=(aS a b,aT a b,(ak (aA a b):Int))
def pK:Sp:=λvs H Q _=>∃(a b:Addr) (xs ys:List Int) (n:Nat),vs=[.ref a,.ref b]/\H a=some (.lst (xs.map V.int))/\H b=some (.lst (ys.map V.int))/\ys≠[]/\AllB n xs/\AllB n ys/\(xs.length+2)*(n+1)<=1000000/\ys.length<=1000000/\∀(t:Addr) (H':Hp),Same H H'->H t=none->LkA H' t (ga xs ys)->Q (.ref t) H'
theorem zc(F:Fun K "link_of" "link_of" kz f fd)(T:Txt K mg)(ot:Cal P w K mg base 2 "divided" ["first","second"] jZ CC Cn)(oo:Cal P w K mg base 2 "shared" ["row"] (jU K) CA Cl):FnOk P w K mg base CX0 3 f fd ["first","second"] pK:=by
 obtain⟨n9,lW,mx,nK⟩:=ot;obtain⟨n5,lT,mr,nG⟩:=oo;refine F.ok sc_link_of (λvs H Q E h=>?_) (λcdv A outer s H vs Q E hr h=>?_)
 ·obtain⟨a,b,xs,ys,n,rfl,_⟩:=h;rfl
 ·obtain⟨a,b,xs,ys,n,rfl,hA,hB,yn,bx,by',hz,yl,k⟩:=h
  refine⟨_,(af (aj (i:=2) sc_link_of.nd rfl (Or.inl rfl) (aq n9 (hr.mono) rfl lW mx nK .nil al (aa (pv 0) (aa (pv 1) ad))))
   (ai (au (cz (aa (am (aB (K:=K) rfl) (pv 2) ac (λ_ _=>rfl)) (aa (am (aB (K:=K) rfl) (pv 2) ac (λ_ _=>rfl)) (aa (aq n5 (hr.mono) rfl lT mr nG .nil al (aa (am (aB (K:=K) rfl) (pv 2) ac (λ_ _=>rfl)) ad)) ad))))))),?_⟩
  refine ax ⟨_,rfl,_,rfl,a,b,xs,ys,n,rfl,hA,hB,yn,bx,by',hz,yl,λt q r H1 s1 ht hq hr' _ _ _ et eq er=>?_⟩;refine aY ⟨_,rfl,t,_,_,_,rfl,rfl,SqT.of et,rfl,_,rfl,t,_,_,_,rfl,rfl,SqT.of et,rfl,_,rfl,t,_,_,_,rfl,rfl,SqT.of et,rfl,r,_,rfl,SqL.of er,by show 3<=sizeLine;decide,λp hp=>?_⟩;have s2:=Same.upd_new (o:=.tup [.int (aS xs ys),.ref q,.int (ak (aA xs ys):Nat)]) hp;exact k p _ (s1.trans s2) (s1.free hp) ⟨q,ar,s2 _ _ eq⟩
noncomputable def cg(r:List (List Int)):List Lnk:=(List.range (r.length-2)).map λk=>ga (r.getD k []) (r.getD (k+1) [])
def pD(CN:Addr):Sp:=λvs H Q _=>∃(o q l h:Addr) (ns:List Int) (n:Nat),vs=[.ref o]/\NA CN H o q l h/\H q=some (.lst (ns.map V.int))/\Tr ns/\AllB 90000 ns/\ns.length<=1000/\n<=1000/\Run n (ah ns) (ah (slopeL ns))/\2<=(aF n (ah ns) (ah (slopeL ns))).length/\(aF n (ah ns) (ah (slopeL ns))).length<=1000/\(∀xs∈aF n (ah ns) (ah (slopeL ns)),xs≠[]/\AllB 95000 xs/\xs.length<=8) /\
 ∀(t l lk:Addr) (ps ls:List Addr) (H':Hp),Same H H'->H' t=some (.tup [.ref l,.ref lk])->H' l=some (.lst (ps.map V.ref))->RwH H' ps (aF n (ah ns) (ah (slopeL ns)))->H' lk=some (.lst (ls.map V.ref))->LkH H' ls (cg (aF n (ah ns) (ah (slopeL ns))))->H l=none->H lk=none->(∀p∈ps,H p=none)->Q (.ref t) H'
theorem y8(F:Fun K "root_paper" "root_paper" ku f fd)(T:Txt K mg)(RN:NCI K mg CN)(EA:Cal P w K mg base 35 "row_of" ["polynomial"] pE FX Fk)(EF:Cal P w K mg base 3 "link_of" ["first","second"] pK Gc Fp):FnOk P w K mg base CX0 36 f fd ["one"] (pD CN):=by
 obtain⟨D9,Az,Bh,Dz⟩:=EA;obtain⟨Ec,AD,Bk,DC⟩:=EF;refine F.ok sc_root_paper (λvs H Q E h=>?_) (λcdv A outer s H vs Q E hr h=>?_)
 ·obtain⟨o,q,l,h,ns,n,rfl,_⟩:=h;rfl
 ·obtain⟨o,q,l,h,ns,n,rfl,na,hq,tn,bn,ln,nn,hrun,r2,r1000,hR,k⟩:=h;obtain⟨dO,hO⟩:=id na;have big:=sizeLine_eq;generalize hr0:aF n (ah ns) (ah (slopeL ns))=r at *
  refine⟨_,(af (aj (i:=1) sc_root_paper.nd rfl (Or.inr rfl) (aq D9 (hr.mono) rfl Az Bh Dz .nil al (aa (cU (K:=K) rfl (pv 0) rfl) ad)))
   (ai (au (cz (aa (pv 1) (aa (dw (own:=["k"]) (fr:=["row"]) (js:=[1]) (by walk_at "comp_ok") rfl (fV rfl T.range_ (aa (ag aW (aJ (aV (K:=K) rfl) (by rfl) T.len_ PySem.boot_len (aa (pv 1) ad)) ac) ad)) (λ_ _ _ _=>(aR (i:=0) (show List.Nodup (["k","row"]:List Str)from by decide +kernel) rfl (Or.inl rfl))) (λ_ _ _ _=>(aq Ec (hr.mono) rfl AD Bk DC .nil al (aa (am (bj (K:=K) rfl) (pv 1) (pv 0) (λ_ _=>rfl)) (aa (am (bj (K:=K) rfl) (pv 1) (ag bh (pv 0) ac) (λ_ _=>rfl)) ad))))) ad)))))),?_⟩
  refine ax ⟨_,rfl,o,CN,dO,_,_,rfl,hO,RN.cl,RN.nP,mO _ _ _,q,ns,n,rfl,hq,tn,bn,ln,nn,hrun,λlr ps H1 s1 hlr hps elr hRr=>?_⟩;rw[hr0]at hRr;have pl:(ps.map V.ref).length=r.length:=by rw[GO,hRr.1]
  obtain⟨M,eM⟩:∃M,r.length-2=M:=⟨_,rfl⟩;have en:((ps.map V.ref).length:Int)-2=(M:Int):=by rw[pl];omega
  refine aY ⟨_,rfl,_,rfl,lr,_,rfl,.inl (SqL.of elr),_,_,rfl,rfl,?_⟩;refine⟨(M:Int),congrArg (λz:Int=>[V.int z]) en,by omega,by omega,jA (lo:=0) (n:=M) (λi ys σ' H'=>∃(z:Option V) (ls:List Addr),σ'=[z,some (.ref lr)]/\ys=ls.map V.ref/\Same H1 H'/\LkH H' ls ((cg r).take i)) (by omega) ⟨none,[],rfl,rfl,Same.refl _,by rw[IU];exact LkH.nil⟩ ?_ ?_ ?_⟩
  ·rintro i ys σ' H' hi ⟨z,ls,rfl,rfl,_,hL⟩;have:=hL.1;rw[HL]at this;rw[GO];omega
  ·rintro i ys σ' H' hi ⟨z,ls,rfl,rfl,sm,hL⟩;have h1:i<r.length:=by omega
   have h2:i+1<r.length:=by omega
   obtain⟨pa,ea,ha⟩:=cK (hRr.same sm) h1 (show(0+(i:Int))=i by omega);obtain⟨pb,eb,hb⟩:=cK (hRr.same sm) h2 (show(0+(i:Int))+1=((i+1:Nat):Int) by omega);have el:=sm _ _ elr;have ma:r.getD i []∈r:=by rw[List.getD_eq_getElem?_getD,List.getElem?_eq_getElem h1];exact Hu _
   have mb:r.getD (i+1) []∈r:=by rw[List.getD_eq_getElem?_getD,List.getElem?_eq_getElem h2];exact Hu _
   obtain⟨_,a2,a3⟩:=hR _ ma;obtain⟨b1,b2,b3⟩:=hR _ mb;refine⟨_,rfl,_,rfl,lr,_,_,_,rfl,rfl,SqL.of el,ea,_,rfl,_,rfl,_,_,rfl,rfl,lr,_,_,_,rfl,rfl,SqL.of el,eb,pa,pb,_,_,95000,rfl,ha,hb,b1,a2,b2,?_,by omega,λt H2 s2 ht hk=>?_⟩
   ·have:(r.getD i []).length+2<=10:=by omega
    have:=HI (95000+1) this;omega
   refine⟨_,ls++[t],rfl,by rw[G8];rfl,sm.trans s2,?_⟩
   have e:(cg r)[i]?=some (ga (r.getD i []) (r.getD (i+1) [])):=by unfold cg;rw[List.getElem?_map,List.getElem?_range (by omega)];rfl
   rw[HM,e];exact(hL.same s2).snoc hk
  ·rintro ys σ' H2 lk ⟨z,ls,rfl,rfl,sm,hL⟩ hlk;have s2:=Same.upd_new (o:=.lst (ls.map V.ref)) hlk;have e2:upd H2 lk (.lst (ls.map V.ref)) lk=some (.lst (ls.map V.ref)):=ar;generalize upd H2 lk (.lst (ls.map V.ref))=H3 at s2 e2 ⊢
   refine⟨by show 2<=sizeLine;decide,λt ht=>?_⟩;have s3:=Same.upd_new (o:=.tup [.ref lr,.ref lk]) ht;have u3:=sm.trans (s2.trans s3);have lt:(cg r).take M=cg r:=List.take_of_length_le (by unfold cg;rw[GO,Hm];omega);rw[lt]at hL;exact k t lr lk ps ls _ (s1.trans u3) ar (u3 _ _ elr) (hRr.same u3) (s3 _ _ e2) (hL.same (s2.trans s3)) hlr ((s1.trans sm).free hlk) (λp hp=>(hps p hp).1)
def nW(r:List (List Int))(k:Nat)(x:Lnk):Prop:=0<x.1/\0<x.2.2/\ae [x.1] (r.getD k [])=aZ (ae x.2.1 (r.getD (k+1) [])) (ae [x.2.2] (r.getD (k+2) []))
def LkB(x:Lnk):Prop:=Bits 900000 x.1/\Bits 900000 x.2.2/\AllB 900000 x.2.1/\x.2.1.length<=1000
def RwB(r:List (List Int)):Prop:=∀xs∈r,xs.length<=20/\AllB 95000 xs
theorem RwB.at{r:List (List Int)}(h:RwB r)(k:Nat):(r.getD k []).length<=20/\AllB 95000 (r.getD k []):=by
 by_cases hk:k<r.length
 ·refine h _ ?_;rw[List.getD_eq_getElem?_getD,List.getElem?_eq_getElem hk];exact Hu _
 ·rw[List.getD_eq_getElem?_getD,List.getElem?_eq_none (by omega)];exact⟨GR _,AllB.nil⟩
def pM:Sp:=λvs H Q _=>∃(l p:Addr) (ps:List Addr) (r:List (List Int)) (k:Nat) (x:Lnk),vs=[.ref l,.int (k:Int),.ref p]/\H l=some (.lst (ps.map V.ref))/\RwH H ps r/\RwB r/\k+2<r.length/\LkA H p x/\LkB x/\∀(b:Bool) (H':Hp),Same H H'->(b=true↔nW r k x)->Q (.bl b) H'
theorem zd(F:Fun K "link_holds" "link_holds" iJ f fd)(T:Txt K mg)(ED:Cal P w K mg base 1 "multiplied" ["first","second"] fI Ga Fn)(oi:Cal P w K mg base 2 "taken" ["first","second"] (j3 K aZ) Cv Ch):FnOk P w K mg base CX0 3 f fd ["row","k","link"] pM:=by
 obtain⟨n8,lV,mw,nJ⟩:=ED;obtain⟨nX,lP,ml,nD⟩:=oi;refine F.ok xo (λvs H Q E h=>?_) (λcdv A outer s H vs Q E hr h=>?_)
 ·obtain⟨l,p,ps,r,k,x,rfl,_⟩:=h;rfl
 ·obtain⟨l,p,ps,r,k,⟨f0,q0,g0⟩,rfl,hl,hR,hB,hk,⟨qa,hp,hq⟩,⟨bf,bg,bq,lq⟩,kk⟩:=h;have hu:(A.deeper (PyProof.Rows.envOfC (Str.ofString "link_holds") (av iJ) s.heap.objs.size f cdv)).units+64<cLine:=by have:=hr.un;omega
  have big:=sizeLine_eq
  replace bf:Bits 900000 f0:=bf
  replace bg:Bits 900000 g0:=bg
  replace bq:AllB 900000 q0:=bq
  replace lq:q0.length<=1000:=lq
  refine⟨_,(af (aP (PW.pt (bO (aC gJ (am (aB (K:=K) rfl) (pv 2) ac (λ_ _=>rfl)) ac (aw _)) (cr (aC gJ (am (aB (K:=K) rfl) (pv 2) ac (λ_ _=>rfl)) ac (aw _)))))
   (ai (au cn))
   aO)
   (ai (au (cV (fc (K:=K) rfl hu) (aq n8 (hr.mono) rfl lV mw nJ .nil al (aa (bz (aa (am (aB (K:=K) rfl) (pv 2) ac (λ_ _=>rfl)) ad)) (aa (am (bj (K:=K) rfl) (pv 0) (pv 1) (λ_ _=>rfl)) ad))) (aq nX (hr.mono) rfl lP ml nD .nil al (aa (aq n8 (hr.mono) rfl lV mw nJ .nil al (aa (am (aB (K:=K) rfl) (pv 2) ac (λ_ _=>rfl)) (aa (am (bj (K:=K) rfl) (pv 0) (ag bh (pv 1) ac) (λ_ _=>rfl)) ad))) (aa (aq n8 (hr.mono) rfl lV mw nJ .nil al (aa (bz (aa (am (aB (K:=K) rfl) (pv 2) ac (λ_ _=>rfl)) ad)) (aa (am (bj (K:=K) rfl) (pv 0) (ag bh (pv 1) ac) (λ_ _=>rfl)) ad))) ad))) (aw _))))),?_⟩
  refine bI (bV ⟨_,rfl,p,_,_,_,rfl,rfl,SqT.of hp,rfl,_,_,rfl,rfl,_,rfl,aG (λz=>?_) (λz=>?_)⟩)
  ·have z':f0<=0:=z;exact cR (aY (kk false H (Same.refl _) ⟨λy=>Bool.noConfusion y,λy=>absurd y.1 (by show ¬0<f0;omega)⟩))
  refine⟨_,rfl,p,_,_,_,rfl,rfl,SqT.of hp,rfl,_,_,rfl,rfl,_,rfl,aG (λz2=>?_) (λz2=>?_)⟩
  ·have z':g0<=0:=z2;exact aY (kk false H (Same.refl _) ⟨λy=>Bool.noConfusion y,λy=>absurd y.2.1 (by show ¬0<g0;omega)⟩)
  have f1:¬f0<=0:=z;have g1:¬g0<=0:=z2;obtain⟨la,ba⟩:=hB.at k;obtain⟨lb,bb⟩:=hB.at (k+1);obtain⟨lc,bc⟩:=hB.at (k+2);have one:∀{c:Int},Bits 900000 c->AllB 1000000 [c]:=λh x hx=>by rw[G1.mp hx];exact h.mono
  refine aY ⟨_,rfl,p,_,_,_,rfl,rfl,SqT.of hp,rfl,by show 1<=sizeLine;decide,λv1 hv1=>?_⟩;have s1:=Same.upd_new (o:=.lst [.int f0]) hv1;have e1:upd H v1 (.lst [.int f0]) v1=some (.lst ([f0].map V.int)):=ar;generalize upd H v1 (.lst [.int f0])=H1 at s1 e1 ⊢
  obtain⟨pa,ea,ha⟩:=cK (hR.same s1) (show k<r.length by omega) (rfl:((k:Nat):Int)=k);refine⟨_,rfl,_,rfl,l,_,_,_,rfl,rfl,SqL.of (s1 _ _ hl),ea,v1,pa,[f0],_,rfl,e1,ha,by show 1<=1000000;decide,by omega,one bf,ba.mono,λm1 H2 s2 hm1 em1=>?_⟩;have t2:=s1.trans s2;obtain⟨pb,eb,hb⟩:=cK (hR.same t2) (show k+1<r.length by omega) (show((k:Nat):Int)+1=((k+1:Nat):Int) by omega);refine⟨_,rfl,p,_,_,_,rfl,rfl,SqT.of (t2 _ _ hp),rfl,_,rfl,_,rfl,_,_,rfl,rfl,l,_,_,_,rfl,rfl,SqL.of (t2 _ _ hl),eb,qa,pb,q0,_,rfl,t2 _ _ hq,hb,by omega,by omega,bq.mono,bb.mono,λm2 H3 s3 hm2 em2=>?_⟩;have t3:=t2.trans s3;refine⟨_,rfl,p,_,_,_,rfl,rfl,SqT.of (t3 _ _ hp),rfl,by show 1<=sizeLine;decide,λv2 hv2=>?_⟩;have s4:=Same.upd_new (o:=.lst [.int g0]) hv2;have e4:upd H3 v2 (.lst [.int g0]) v2=some (.lst ([g0].map V.int)):=ar;refine xP (H2:=upd H3 v2 (.lst [.int g0])) rfl ?_;generalize upd H3 v2 (.lst [.int g0])=H4 at s4 e4 ⊢
  have t4:=t3.trans s4;obtain⟨pc,ec,hc⟩:=cK (hR.same t4) (show k+2<r.length by omega) (show((k:Nat):Int)+2=((k+2:Nat):Int) by omega);refine⟨_,rfl,_,rfl,_,_,rfl,rfl,l,_,_,_,rfl,rfl,SqL.of (t4 _ _ hl),ec,v2,pc,[g0],_,rfl,e4,hc,by show 1<=1000000;decide,by omega,one bg,bc.mono,λm3 H5 s5 hm3 em3=>?_⟩;have l2:=i6 q0 (r.getD (k+1) []);have l3:=i6 [g0] (r.getD (k+2) []);have l1:([g0]:List Int).length=1:=rfl;refine⟨m2,m3,_,_,rfl,SqL.of ((s4.trans s5) _ _ em2),SqL.of em3,by omega,by omega,λm4 H6 s6 hm4 em4=>?_⟩;refine⟨m1,m4,_,_,rfl,rfl,SqL.of ((s3.trans (s4.trans (s5.trans s6))) _ _ em1),SqL.of em4,kk _ H6 (t4.trans (s5.trans s6)) ?_⟩;rw[decide_eq_true_iff];exact⟨λy=>⟨by show 0<f0;omega,by show 0<g0;omega,y⟩,λy=>y.2.2⟩
structure HotP(ns:List Int)(r:List (List Int))(xs:List Lnk):Prop where
 two:2<=r.length
 len:xs.length+2=r.length
 fst:r.getD 0 []=ns
 snd:r.getD 1 []=ah (slopeL ns)
 lst:(r.getD (r.length-1) []).length=1
 lks:∀(k:Nat) (x:Lnk),xs[k]?=some x->nW r k x
def pP:Sp:=λvs H Q _=>∃(pn l lk:Addr) (ps ls:List Addr) (ns:List Int) (r:List (List Int)) (xs:List Lnk),vs=[.ref pn,.ref l,.ref lk]/\H pn=some (.lst (ns.map V.int))/\H l=some (.lst (ps.map V.ref))/\RwH H ps r/\RwB r/\H lk=some (.lst (ls.map V.ref))/\LkH H ls xs/\(∀x∈xs,LkB x)/\Tr ns/\ns.length<=20/\AllB 95000 ns/\r.length<=1000/\xs.length<=1000/\∀(b:Bool) (H':Hp),Same H H'->(b=true↔HotP ns r xs)->Q (.bl b) H'
theorem D0{bs:List Bool}{p:Nat->Prop}(h:∀i b,bs[i]?=some b->(b=true↔p i)):bs.all id=true↔∀i,i<bs.length->p i:=by
 rw[Ix];constructor
 ·intro z i hi;exact(h i bs[i] (List.getElem?_eq_getElem hi)).mp (z _ (Hu hi))
 ·intro z b hb;obtain⟨i,hi,rfl⟩:=HZ hb;exact(h i bs[i] (List.getElem?_eq_getElem hi)).mpr (z i hi)
theorem zg(F:Fun K "holds_together" "holds_together" iL f fd)(T:Txt K mg)(ol:Cal P w K mg base 33 "shrunk" ["row"] eQ Cy Cj)(oj:Cal P w K mg base 1 "slope" ["row"] (sp1 slopeL) Cw Ci)(ou:Cal P w K mg base 1 "degree" ["row"] j0 CD Co)(EG:Cal P w K mg base 3 "link_holds" ["row","k","link"] pM Gd Fq):FnOk P w K mg base CX0 34 f fd ["polynomial","row","links"] pP:=by
 obtain⟨ic,gN,gR,g9⟩:=ol;obtain⟨nY,lQ,mn,nE⟩:=oj;obtain⟨jI,jc,jh,jE⟩:=ou;obtain⟨Ed,AE,Bl,DE⟩:=EG;refine F.ok xr (λvs H Q E h=>?_) (λcdv A outer s H vs Q E hr h=>?_)
 ·obtain⟨pn,l,lk,ps,ls,ns,r,xs,rfl,_⟩:=h;rfl
 ·obtain⟨pn,l,lk,ps,ls,ns,r,xs,rfl,hn,hl,hR,hB,hlk,hL,hX,tn,ln,bn,r1000,x1000,k⟩:=h;have hu:(A.deeper (PyProof.Rows.envOfC (Str.ofString "holds_together") (av iL) s.heap.objs.size f cdv)).units+64<cLine:=by have:=hr.un;omega
  have big:=sizeLine_eq;have pl:(ps.map V.ref).length=r.length:=by rw[GO,hR.1]
  have ql:(ls.map V.ref).length=xs.length:=by rw[GO,hL.1]
  have no:∀{H':Hp},Same H H'->¬HotP ns r xs->Q (.bl false) H':=λsm h=>k false _ sm ⟨λz=>Bool.noConfusion z,λz=>absurd z h⟩
  refine⟨_,(af (aP (PW.pt (bO (aC cC (aJ (aV (K:=K) rfl) (by rfl) T.len_ PySem.boot_len (aa (pv 1) ad)) ac (aw _)) (cr (aC da (aJ (aV (K:=K) rfl) (by rfl) T.len_ PySem.boot_len (aa (pv 2) ad)) (ag aW (aJ (aV (K:=K) rfl) (by rfl) T.len_ PySem.boot_len (aa (pv 1) ad)) ac) (aw _)))))
   (ai (au cn))
   aO)
   (af (aP (PW.pt (bO (aC (fb (K:=K) rfl hu) (am (bj (K:=K) rfl) (pv 1) ac (λ_ _=>rfl)) (pv 0) (aw _)) (bO (aC (fb (K:=K) rfl hu) (am (bj (K:=K) rfl) (pv 1) ac (λ_ _=>rfl)) (aq ic (hr.mono) rfl gN gR g9 .nil al (aa (aq nY (hr.mono) rfl lQ mn nE .nil al (aa (pv 0) ad)) ad)) (aw _)) (cr (aC da (aq jI (hr.mono) rfl jc jh jE .nil al (aa (am (bj (K:=K) rfl) (pv 1) (ce b8 ac) (λ_ _=>rfl)) ad)) ac (aw _))))))
     (ai (au cn))
     aO)
   (ai (au (aJ (Dw (K:=K) rfl rfl) (by rfl) T.all_ PyProof.Rows.boot_all (aa (dw (own:=["k","link"]) (fr:=["row"]) (js:=[1]) (by walk_at "comp_ok") rfl (dI rfl T.enumerate_ (aa (pv 2) ad)) (λ_ _ _ _=>(rB (K:=K) (n:=2) rfl rfl (cm (aR (i:=0) (show List.Nodup (["k","link","row"]:List Str)from by decide +kernel) rfl (Or.inl rfl) (Or.inr rfl)) (cm (aR (i:=1) (show List.Nodup (["k","link","row"]:List Str)from by decide +kernel) rfl (Or.inl rfl) (Or.inr rfl)) dJ rfl) rfl) rfl rfl)) (λ_ _ _ _=>(aq Ed (hr.mono) rfl AE Bl DE .nil al (aa (pv 2) (aa (pv 0) (aa (pv 1) ad)))))) ad)))))),?_⟩
  refine bI (bV ⟨_,rfl,l,_,rfl,.inl (SqL.of hl),_,_,rfl,rfl,_,rfl,aG (λz=>?_) (λz=>?_)⟩)
  ·have z':((ps.map V.ref).length:Int)<2:=z;exact cR (aY (no (Same.refl _) λy=>by have:=y.two;omega))
  have z0:¬((ps.map V.ref).length:Int)<2:=z;refine⟨_,rfl,lk,_,rfl,.inl (SqL.of hlk),_,rfl,l,_,rfl,.inl (SqL.of hl),_,_,rfl,rfl,_,_,rfl,rfl,_,rfl,b9 (λz1=>?_) (λz1=>?_)⟩
  ·have z':¬((ls.map V.ref).length:Int)=((ps.map V.ref).length:Int)-2:=z1;exact aY (no (Same.refl _) λy=>by have:=y.len;omega)
  have z2:((ls.map V.ref).length:Int)=((ps.map V.ref).length:Int)-2:=z1;have r2:2<=r.length:=by omega
  have lx:xs.length+2=r.length:=by omega
  obtain⟨p0,ea,h0⟩:=cK hR (show 0<r.length by omega) (rfl:(0:Int)=((0:Nat):Int));refine bI (bV ⟨_,rfl,l,_,_,_,rfl,rfl,SqL.of hl,ea,_,rfl,p0,pn,_,_,rfl,rfl,SqL.of h0,SqL.of hn,_,rfl,b9 (λz3=>?_) (λz3=>?_)⟩)
  ·exact cR (aY (no (Same.refl _) λy=>z3 y.fst))
  obtain⟨p1,eb,h1⟩:=cK hR (show 1<r.length by omega) (rfl:(1:Int)=((1:Nat):Int));refine bV ⟨_,rfl,l,_,_,_,rfl,rfl,SqL.of hl,eb,_,rfl,pn,ns,rfl,hn,by omega,bn.mono,λs1 H1 t1 hs1 es1=>?_⟩;refine⟨s1,_,rfl,es1,iu tn,by rw[iE];omega,λs2 H2 t2 hs2 es2=>?_⟩;have u2:=t1.trans t2;refine⟨p1,s2,_,_,rfl,rfl,SqL.of (u2 _ _ h1),SqL.of es2,_,rfl,b9 (λz4=>?_) (λz4=>?_)⟩
  ·exact cR (aY (no u2 λy=>z4 y.snd))
  obtain⟨p9,ec,h9⟩:=vq (hR.same u2) (show 0<1 by decide) (show 1<=r.length by omega);refine⟨_,rfl,_,rfl,l,_,_,_,rfl,rfl,SqL.of (u2 _ _ hl),ec,p9,_,rfl,h9,_,_,rfl,rfl,_,rfl,b9 (λz5=>?_) (λz5=>?_)⟩
  ·have z':¬(((r.getD (r.length-1) []).map V.int).length:Int)-1=0:=z5;rw[GO]at z';exact aY (no u2 λy=>by have:=y.lst;omega)
  have z6:(((r.getD (r.length-1) []).map V.int).length:Int)-1=0:=z5;rw[GO]at z6;refine aY ⟨_,rfl,lk,rfl,⟨_,SqL.of (u2 _ _ hlk)⟩,uL (K:=K) (a:=lk) (xs:=ls.map V.ref) (λi ys σ' H'=>∃(z0 z1:Option V) (bs:List Bool),σ'=[z0,z1,some (.ref l)]/\ys=bs.map V.bl/\bs.length=i/\Same H H'/\∀j b,bs[j]?=some b->(b=true↔∀x,xs[j]?=some x->nW r j x)) (by omega) ⟨none,none,[],rfl,rfl,rfl,u2,λj b h=>(nomatch h)⟩ ?_ ?_ ?_⟩
  ·rintro i ys σ' H' hi ⟨z0,z1,bs,rfl,rfl,rfl,sm,_⟩;exact⟨SqL.of (sm _ _ hlk),by rw[GO];exact GP _⟩
  ·rintro i v ys σ' H' q hi ⟨z0,z1,bs,rfl,rfl,rfl,sm,hb⟩ hq;obtain⟨p,x,rfl,ep,ex,hk,hlt⟩:=(hL.same sm).of_get hi;have s3:=Same.upd_new (o:=.tup [.int (bs.length:Int),.ref p]) hq;refine⟨q,_,rfl,SqT.of ar,rfl,_,_,rfl,_,_,rfl,rfl,?_⟩;have u3:=sm.trans s3;refine⟨_,rfl,_,rfl,_,rfl,l,p,ps,r,bs.length,x,rfl,u3 _ _ hl,hR.same u3,hB,by omega,hk.same s3,hX x (List.mem_of_getElem? ex),λb H4 s4 hb4=>?_⟩;refine⟨_,_,bs++[b],rfl,by rw[G8];rfl,GZ,u3.trans s4,λj b' hj=>?_⟩;by_cases hjl:j<bs.length
   ·rw[List.getElem?_append_left hjl]at hj;exact hb j b' hj
   ·rw[List.getElem?_append_right (by omega)]at hj;by_cases h0:j-bs.length=0
    ·rw[h0]at hj;obtain rfl:b=b':=by simpa using hj
     obtain rfl:j=bs.length:=by omega
     rw[hb4,ex];exact⟨λy x' e=>by cases e;exact y,λy=>y x rfl⟩
    ·rw[List.getElem?_eq_none_iff.mpr (by simp;omega)]at hj;cases hj
  ·rintro ys σ' H3 pl' ⟨z0,z1,bs,rfl,rfl,hbl,sm,hb⟩ hpl;refine⟨pl',bs,rfl,SqL.of ar,k _ _ (sm.then_new hpl) ?_⟩;rw[D0 hb];refine⟨λy=>⟨r2,lx,z3,z4,by omega,λj x ex=>y j ?_ x ex⟩,λy j _ x ex=>y.lks j x ex⟩;rw[hbl,ql];exact(List.getElem?_eq_some_iff.mp ex).1
def vA(ns:List Int)(r:List (List Int))(xs:List Lnk)(l1 l2 h1 h2:Int):Prop:=HotP ns r xs/\l1*h2<h1*l2/\(chS (sgs l1 l2 r)).1-(chS (sgs h1 h2 r)).1=1
def pO(C:Addr):Sp:=λvs H Q _=>∃(pn lo hi pp l lk:Addr) (ps ls:List Addr) (ns:List Int) (r:List (List Int)) (xs:List Lnk) (l1 l2 h1 h2:Int),vs=[.ref pn,.ref lo,.ref hi,.ref pp]/\H pp=some (.tup [.ref l,.ref lk])/\RA C H lo l1 l2/\RA C H hi h1 h2/\Bits 400 l1/\Bits 400 l2/\Bits 400 h1/\Bits 400 h2/\H pn=some (.lst (ns.map V.int))/\H l=some (.lst (ps.map V.ref))/\RwH H ps r/\RwB r/\H lk=some (.lst (ls.map V.ref))/\LkH H ls xs/\(∀x∈xs,LkB x)/\Tr ns/\ns.length<=20/\AllB 95000 ns/\r.length<=1000/\xs.length<=1000/\∀(b:Bool) (H':Hp),Same H H'->(b=true↔vA ns r xs l1 l2 h1 h2)->Q (.bl b) H'
theorem zf(F:Fun K "just_one" "just_one" kA f fd)(T:Txt K mg)(R:RCI K mg C)(EI:Cal P w K mg base 34 "holds_together" ["polynomial","row","links"] pP Gf Ft)(Fb:MCal P w K mg base 2 C "against" ["self","other"] (pZ C) GF FR)(EJ:Cal P w K mg base 4 "count" ["row","low","high"] (pU C) Gg Fu):FnOk P w K mg base CX0 35 f fd ["polynomial","low","high","paper"] (pO C):=by
 obtain⟨Ef,AG,Bn,DG⟩:=EI;obtain⟨Eu,Am,DU⟩:=Fb;obtain⟨Eg,AH,Bo,DH⟩:=EJ;refine F.ok xq (λvs H Q E h=>?_) (λcdv A outer s H vs Q E hr h=>?_)
 ·obtain⟨pn,lo,hi,pp,l,lk,ps,ls,ns,r,xs,l1,l2,h1,h2,rfl,_⟩:=h;rfl
 ·obtain⟨pn,lo,hi,pp,l,lk,ps,ls,ns,r,xs,l1,l2,h1,h2,rfl,hpp,hlo,hhi,b1,b2,b3,b4,hn,hl,hR,hB,hlk,hL,hX,tn,ln,bn,r1000,x1000,k⟩:=h;refine⟨_,(ai (au (fX (aq Ef (hr.mono) rfl AG Bn DG .nil al (aa (pv 0) (aa (am (aB (K:=K) rfl) (pv 3) ac (λ_ _=>rfl)) (aa (am (aB (K:=K) rfl) (pv 3) ac (λ_ _=>rfl)) ad)))) (fX (cV cC (yD (pv 1) R.cl Am Eu (hr.mono) DU .nil al (aa (pv 2) ad)) ac (aw _)) (gH (cV bS (aq Eg (hr.mono) rfl AH Bo DH .nil al (aa (am (aB (K:=K) rfl) (pv 3) ac (λ_ _=>rfl)) (aa (pv 1) (aa (pv 2) ad)))) ac (aw _))))))),?_⟩;refine aY (fQ ⟨_,rfl,_,rfl,pp,_,_,_,rfl,rfl,SqT.of hpp,rfl,_,rfl,pp,_,_,_,rfl,rfl,SqT.of hpp,rfl,pn,l,lk,ps,ls,ns,r,xs,rfl,hn,hl,hR,hB,hlk,hL,hX,tn,ln,bn,r1000,x1000,λb H1 s1 hb=>⟨_,rfl,?_⟩⟩);cases b with
  |false=>exact bG (k false H1 s1 ⟨λz=>Bool.noConfusion z,λz=>hb.mpr z.1⟩)
  |true =>
   refine cR ?_;have hot:=hb.mp rfl;obtain⟨dx,hx'⟩:=id (hlo.same s1);have s_lt:sg (l1*h2-h1*l2)<0↔l1*h2<h1*l2:=by rw[(w9 _).1];omega
   refine fQ ⟨_,rfl,lo,dx,_,rfl,hx',Ce _ _ rS.1 rS.2,_,rfl,lo,hi,l1,l2,h1,h2,rfl,hlo.same s1,hhi.same s1,b1.mono,b2.mono,b3.mono,b4.mono,_,_,rfl,rfl,_,rfl,aG (λz=>?_) (λz=>?_)⟩
   ·refine⟨_,rfl,pp,_,_,_,rfl,rfl,SqT.of (s1 _ _ hpp),rfl,_,rfl,_,rfl,l,lo,hi,ps,r,l1,l2,h1,h2,rfl,s1 _ _ hl,hR.same s1,hlo.same s1,hhi.same s1,b1,b2,b3,b4,hB,by omega,λH2 s2=>?_⟩;refine⟨_,_,rfl,rfl,k _ H2 (s1.trans s2) ?_⟩;rw[decide_eq_true_iff];exact⟨λy=>⟨hot,s_lt.mp z,y⟩,λy=>y.2.2⟩
   ·exact k false H1 s1 ⟨λy=>Bool.noConfusion y,λy=>absurd (s_lt.mpr y.2.1) z⟩
theorem zL(F:Fun K "_law_cell_at" "_law_cell_at" k9 f fd)(T:Txt K mg):FnOk P w K mg base CX0 1 f fd ["_law_script","_law_k"] (gw K):=by
 refine F.ok xz (λvs H Q E h=>?_) (λcdv A outer s H vs Q E hr h=>?_)
 ·obtain⟨a,ns,k,rfl,_⟩:=h;rfl
 ·obtain⟨a,ns,n,rfl,hS,k⟩:=h
  refine⟨_,(af (aP (aC cC (pv 1) (aJ (aV (K:=K) rfl) (by rfl) T.len_ PySem.boot_len (aa (pv 0) ad)) (aw _))
   (ai (au (am (bj (K:=K) rfl) (pv 0) (pv 1) (λ_ _=>rfl))))
   aO)
   (ai (au ac))),?_⟩
  refine⟨_,rfl,_,rfl,a,_,rfl,.inl hS,_,_,rfl,rfl,_,rfl,?_⟩;refine aG (λh1=>?_) (λh1=>?_)
  ·rw[GO]at h1;have h2:n<ns.length:=by omega
   refine⟨_,rfl,_,rfl,a,_,_,_,rfl,rfl,hS,fA (v:=.int (ns.getD n 0)) ?_,k⟩;rw[List.getElem?_map,List.getElem?_eq_getElem h2];simp[List.getD,h2]
  ·rw[GO]at h1;have h2:ns.length<=n:=by omega
   have e:ns.getD n 0=0:=by simp[List.getD,List.getElem?_eq_none_iff.mpr h2]
   rw[e]at k;exact k
def jS:Sp:=λvs H Q _=>∃i:Int,vs=[.int i]/\Q (.bl true) H
theorem zn(F:Fun K "_law_whole" "_law_whole" kH f fd)(T:Txt K mg):FnOk P w K mg base CX0 1 f fd ["_law_found"] jS:=by
 refine F.ok xx (λvs H Q E h=>?_) (λcdv A outer s H vs Q E hr h=>?_)
 ·obtain⟨i,rfl,_⟩:=h;rfl
 ·obtain⟨i,rfl,k⟩:=h;refine⟨_,(ai (au (fX (aJ (eC (K:=K) rfl) (by rfl) T.isinstance_ PyProof.Rows.boot_isinstance (aa (pv 0) (aa (dL (v:=.ty "int") (by rfl) T.int_ PyProof.Rows.boot_int (by rfl)) ad))) (gH (yC (aJ (eC (K:=K) rfl) (by rfl) T.isinstance_ PyProof.Rows.boot_isinstance (aa (pv 0) (aa (dL (v:=.ty "bool") (by rfl) T.bool_ PyProof.Rows.boot_bool (by rfl)) ad)))))))),?_⟩;refine aY (fQ (dG ⟨_,rfl,dU (.int i) (k:=true) (by rfl) ⟨_,rfl,cR ?_⟩⟩));refine xN (dG ⟨_,rfl,dU (.int i) (k:=false) (by rfl) ⟨_,rfl,?_⟩⟩);exact k
def px:Sp:=λvs H Q _=>∃c z:Int,vs=[.int c,.int z]/\0<=z/\Bits 1000 z/\Q (.int (c%(2*z+1)-z)) H
theorem zm(F:Fun K "_law_within" "_law_within" kG f fd)(T:Txt K mg):FnOk P w K mg base CX0 1 f fd ["_law_cell","_law_most"] px:=by
 refine F.ok xw (λvs H Q E h=>?_) (λcdv A outer s H vs Q E hr h=>?_)
 ·obtain⟨c,z,rfl,_⟩:=h;rfl
 ·obtain⟨c,z,rfl,hz,hb,k⟩:=h;refine⟨_,(ai (au (ag aW (ag cj (pv 0) (ag bh (ag aI ac (pv 1)) ac)) (pv 1)))),?_⟩;refine⟨_,rfl,_,rfl,_,_,rfl,rfl,⟨Bits.mono (j:=2) (by show(2:Int).natAbs<2^2;decide) (by decide),hb.mono⟩,_,_,rfl,rfl,_,_,rfl,rfl,(by show(0:Int)<2*z+1;omega),_,rfl,_,_,rfl,rfl,k⟩
theorem zp(F:Fun K "_law_trim" "_law_trim" kJ f fd)(T:Txt K mg):FnOk P w K mg base CX0 1 f fd ["_law_row"] (gv K):=by
 refine F.ok sc__law_trim (λvs H Q E h=>?_) (λcdv A outer s H vs Q E hr h=>?_)
 ·obtain⟨a,ns,rfl,_⟩:=h;rfl
 ·obtain⟨a,ns,rfl,hS,k⟩:=h
  refine⟨_,(af (aj (i:=1) sc__law_trim.nd rfl (Or.inl rfl) (aJ (aV (K:=K) rfl) (by rfl) T.len_ PySem.boot_len (aa (pv 0) ad)))
   (af (fS PassesOwn.never (PW.pt (c9 (aC cW (pv 1) ac (aw _)) (du (aC bS (am (bj (K:=K) rfl) (pv 0) (ag aW (pv 1) ac) (λ_ _=>rfl)) ac (aw _)))))
     (ai (aj (i:=1) sc__law_trim.nd rfl (Or.inl rfl) (ag aW (pv 1) ac))))
   (ai (au (fW (fJ (K:=K) rfl) (pv 0) fU (fT (pv 1))))))),?_⟩
  refine⟨_,rfl,a,_,rfl,.inl hS,?_⟩;refine⟨λm σ' H'=>∃n:Nat,n<=ns.length/\σ'=[some (.ref a),some (.int n)]/\H=H'/\n=m/\trim (ns.take n)=trim ns,⟨_,ns.length,GP _,?_,rfl,rfl,?_⟩,?_⟩
  ·rw[GO];rfl
  ·rw[HB]
  ·rintro m σ' H' ⟨n,hn,rfl,rfl,rfl,ht⟩
   have fin:trim (ns.take n)=ns.take n->∃v,([some (V.ref a),some (V.int n)]:St)[0]?=some (some v)/\∃v_1,([some (V.ref a),some (V.int n)]:St)[1]?=some (some v_1)/\∃i,v_1=V.int i/\iR K v none (some i) H Q:=λh=>by
    refine⟨_,rfl,_,rfl,n,rfl,a,_,rfl,hS,λp hp=>k p _ (Same.upd_new hp) hp ?_⟩;rw[ar,<- ht,h]
    have e:di (ns.map V.int) none (some (n:Int))=(ns.take n).map V.int:=by unfold di;rw[HT.sIx_none,HT.sIx_nat,IT,H0,GO,Nat.min_eq_left hn,List.map_take]
    rw[e]
   refine⟨_,rfl,_,_,rfl,rfl,_,rfl,?_⟩;refine aG (λhp=>?_) (λhp=>?_)
   ·obtain⟨j,rfl⟩:∃j,n=j+1:=⟨n-1,by have:(0:Int)<n:=hp;omega⟩;have hj:j<ns.length:=hn;refine⟨_,rfl,_,rfl,_,_,rfl,rfl,a,_,j,.int (cf ns j),rfl,?_,hS,fA ?_,_,_,rfl,rfl,_,rfl,?_⟩
    ·show V.int (((j+1:Nat):Int)-1)=V.int j
     congr 1;omega
    ·rw[List.getElem?_map,de hj];rfl
    refine aG (λh0=>?_) (λh0=>?_)
    ·refine⟨λσ'' H''=>∃m',m'<j+1/\∃n:Nat,n<=ns.length/\σ''=[some (.ref a),some (.int n)]/\H=H''/\n=m'/\trim (ns.take n)=trim ns,λ_ _ h=>h,?_⟩;refine⟨_,rfl,_,_,rfl,rfl,j,HU _,j,HS hj,?_,rfl,rfl,?_⟩
     ·show[some (V.ref a),some (V.int (((j+1:Nat):Int)-1))]=[some (V.ref a),some (V.int j)]
      congr 4;omega
     ·rw[<- ht,oK hj h0]
    ·exact fin (oM hj h0)
   ·obtain rfl:n=0:=by have:¬(0:Int)<n:=hp;omega
    exact fin (by rw[IU];rfl)
theorem zA(F:Fun K "_law_mul" "_law_mul" kS f fd)(T:Txt K mg):FnOk P w K mg base CX0 1 f fd ["_law_kp","_law_kq"] fI:=by
 refine F.ok sc__law_mul (λvs H Q E h=>?_) (λcdv A outer s H vs Q E hr h=>?_)
 ·obtain⟨a,b,xs,ys,rfl,_⟩:=h;rfl
 ·obtain⟨a,b,xs,ys,rfl,hA,hB,hx,hy,bx,by',k⟩:=h
  refine⟨_,(af (aP (PW.pt (bO (aC bS (aJ (aV (K:=K) rfl) (by rfl) T.len_ PySem.boot_len (aa (pv 0) ad)) ac (aw _)) (cr (aC bS (aJ (aV (K:=K) rfl) (by rfl) T.len_ PySem.boot_len (aa (pv 1) ad)) ac (aw _)))))
   (ai (au (bz ad)))
   aO)
   (af (ya (i:=2) sc__law_mul.nd rfl (Or.inl rfl) (own:=["_law_k"]) (fr:=[]) (js:=[]) (by walk_at "comp_ok") rfl (fV rfl T.range_ (aa (ag aW (ag bh (aJ (aV (K:=K) rfl) (by rfl) T.len_ PySem.boot_len (aa (pv 0) ad)) (aJ (aV (K:=K) rfl) (by rfl) T.len_ PySem.boot_len (aa (pv 1) ad))) ac) ad)) (λ_ _ _ _=>(aR (i:=0) (show List.Nodup (["_law_k"]:List Str)from by decide +kernel) rfl (Or.inl rfl))) (λ_ _ _ _=>ac) (by rfl))
   (af (bP PassesOwn.never rfl (dI rfl T.enumerate_ (aa (pv 0) ad)) (eZ rfl (cm (aR (i:=3) sc__law_mul.nd rfl (Or.inl rfl)) (cm (aR (i:=4) sc__law_mul.nd rfl (Or.inl rfl)) dJ)))
     (ai (bP PassesOwn.never rfl (dI rfl T.enumerate_ (aa (pv 1) ad)) (eZ rfl (cm (aR (i:=5) sc__law_mul.nd rfl (Or.inl rfl)) (cm (aR (i:=6) sc__law_mul.nd rfl (Or.inl rfl)) dJ)))
       (ai (iT (ag bh (am (bj (K:=K) rfl) (pv 2) (ag bh (pv 3) (pv 5)) (λ_ _=>rfl)) (ag aI (pv 4) (pv 6))) (iV (pv 2) (ag bh (pv 3) (pv 5)) iG))))))
   (ai (au (pv 2)))))),?_⟩
  have none':(xs=[]\/ys=[])->∀p,H p=none->Q (.ref p) (upd H p (.lst [])):=λh p hp=>k p _ (Same.upd_new hp) hp (by rw[ar];unfold ae;rw[if_pos h];rfl)
  have hlx:(xs.map V.int).length=xs.length:=GO _;have hly:(ys.map V.int).length=ys.length:=GO _;refine bI (bV ⟨_,rfl,a,_,rfl,.inl (SqL.of hA),_,_,rfl,rfl,_,rfl,aG (λh0=>?_) (λh0=>?_)⟩)
  ·exact cR ⟨GR _,λp hp=>none' (.inl (HA.mp (by rw[hlx]at h0;omega))) p hp⟩
  refine⟨_,rfl,b,_,rfl,.inl (SqL.of hB),_,_,rfl,rfl,_,rfl,aG (λh1=>?_) (λh1=>?_)⟩
  ·exact⟨GR _,λp hp=>none' (.inr (HA.mp (by rw[hly]at h1;omega))) p hp⟩
  rw[hlx]at h0;rw[hly]at h1;have hx0:xs≠[]:=λz=>h0 (by rw[z];rfl)
  have hy0:ys≠[]:=λz=>h1 (by rw[z];rfl)
  obtain⟨la,ea⟩:∃la,xs.length=la+1:=⟨xs.length-1,by have:=GQ.mpr hx0;omega⟩;obtain⟨lb,eb⟩:∃lb,ys.length=lb+1:=⟨ys.length-1,by have:=GQ.mpr hy0;omega⟩;have big:=sizeLine_eq;have en:((xs.map V.int).length:Int)+((ys.map V.int).length:Int)-1=((la+lb+1:Nat):Int):=by rw[hlx,hly];omega
  refine⟨_,rfl,a,_,rfl,.inl (SqL.of hA),_,rfl,b,_,rfl,.inl (SqL.of hB),_,_,rfl,rfl,_,_,rfl,rfl,?_⟩;dsimp only
  rw[en];refine⟨_,rfl,by omega,by omega,jA (lo:=0) (n:=la+lb+1) (λi zs σ' H'=>∃z:Option V,σ'=[z]/\zs=(List.replicate i (0:Int)).map V.int/\H=H') (by omega) ⟨none,rfl,rfl,rfl⟩ ?_ ?_ ?_⟩
  ·rintro i zs σ' H' _ ⟨z,rfl,rfl,rfl⟩;simp
  ·rintro i zs σ' H' hi ⟨z,rfl,rfl,rfl⟩;refine⟨_,rfl,?_,rfl⟩;rw[List.replicate_succ',G8];rfl
  rintro zs σ' H' p ⟨z,rfl,rfl,rfl⟩ hp;have s4:=Same.upd_new (o:=.lst ((List.replicate (la+lb+1) (0:Int)).map V.int)) hp;have npa:a≠p:=aN hA hp;have npb:b≠p:=aN hB hp;have hp4:upd H p (.lst ((List.replicate (la+lb+1) (0:Int)).map V.int)) p=some (.lst ((List.replicate (la+lb+1) (0:Int)).map V.int)):=ar;generalize upd H p (.lst ((List.replicate (la+lb+1) (0:Int)).map V.int))=H4 at s4 hp4 ⊢
  refine⟨_,rfl,a,rfl,⟨_,SqL.of (s4 _ _ hA)⟩,ge (K:=K) (a:=a) (xs:=xs.map V.int) (λj σ' H'=>∃(acc:List Int) (z3 z4 z5 z6:Option V),σ'=[some (.ref a),some (.ref b),some (.ref p),z3,z4,z5,z6]/\SameB p H4 H'/\H' p=some (.lst (acc.map V.int))/\acc.length=la+lb+1/\∀n,n<acc.length->cf acc n=sm xs ys n j)
   ⟨List.replicate (la+lb+1) 0,none,none,none,none,rfl,SameB.refl _ _,hp4,by simp,λn _=>by rw[g7];rfl⟩ ?_ ?_ ?_⟩
  ·rintro j σ' H' _ ⟨acc,z3,z4,z5,z6,rfl,sb,_⟩;exact SqL.of (sb _ _ npa (s4 _ _ hA))
  ·rintro j x σ' H' q hj ⟨acc,z3,z4,z5,z6,rfl,sb,hpa,hal,hac⟩ hq;rw[List.getElem?_map]at hj
   have hjl:j<xs.length:=by apply Classical.byContradiction;intro hn;rw[List.getElem?_eq_none_iff.mpr (HG hn)]at hj;cases hj
   rw[de hjl]at hj;obtain rfl:=Option.some.inj hj;refine⟨q,_,rfl,SqT.of ar,rfl,_,_,rfl,_,_,rfl,rfl,?_⟩;have nqp:p≠q:=aN hpa hq;have sb1:SameB p H4 (upd H' q (.tup [.int j,.int (cf xs j)])):=sb.then_new hq
   refine⟨_,rfl,b,rfl,⟨_,SqL.of (sb1 _ _ npb (s4 _ _ hB))⟩,ge (K:=K) (a:=b) (xs:=ys.map V.int) (λi σ' H'=>∃(acc:List Int) (z5 z6:Option V),σ'=[some (.ref a),some (.ref b),some (.ref p),some (.int j),some (.int (cf xs j)),z5,z6]/\SameB p H4 H'/\H' p=some (.lst (acc.map V.int))/\acc.length=la+lb+1/\∀n,n<acc.length->cf acc n=sm xs ys n j+(if j<=n/\n-j<i then tm xs ys n j else 0))
    ⟨acc,z5,z6,rfl,sb1,by rw[upd_ne nqp];exact hpa,hal,r9 hac⟩ ?_ ?_ ?_⟩
   ·rintro i σ' H' _ ⟨acc,z5,z6,rfl,sb,_⟩;exact SqL.of (sb _ _ npb (s4 _ _ hB))
   ·rintro i x σ' H' q hi ⟨acc,z5,z6,rfl,sb,hpa,hal,hac⟩ hq;rw[List.getElem?_map]at hi
    have hil:i<ys.length:=by apply Classical.byContradiction;intro hn;rw[List.getElem?_eq_none_iff.mpr (HG hn)]at hi;cases hi
    rw[de hil]at hi;obtain rfl:=Option.some.inj hi;refine⟨q,_,rfl,SqT.of ar,rfl,_,_,rfl,_,_,rfl,rfl,?_⟩;have nqp:p≠q:=aN hpa hq;have hpa':upd H' q (.tup [.int i,.int (cf ys i)]) p=some (.lst (acc.map V.int)):=by rw[upd_ne nqp];exact hpa
    have hji:j+i<acc.length:=by omega
    have eji:((j:Nat):Int)+((i:Nat):Int)=((j+i:Nat):Int):=by omega
    refine⟨_,rfl,_,rfl,_,rfl,_,_,rfl,rfl,p,_,_,_,rfl,rfl,SqL.of hpa',jH eji hji,_,rfl,_,rfl,_,_,rfl,rfl,⟨bx.cf j,by'.cf i⟩,_,_,rfl,rfl,_,rfl,_,rfl,_,rfl,_,_,rfl,rfl,p,_,_,j+i,rfl,rfl,hpa',jk eji (by rw[GO];exact hji),?_⟩;refine⟨acc.set (j+i) (cf acc (j+i)+cf xs j*cf ys i),_,_,rfl,(sb.then_new hq).then_upd,by rw[ar,jb],by rw[Il];exact hal,r8 hjl hil hji hac⟩
   ·rintro σ' H' ⟨acc,z5,z6,rfl,sb,hpa,hal,hac⟩;rw[GO]at hac;exact⟨acc,_,_,_,_,rfl,sb,hpa,hal,sd hac⟩
  ·rintro σ' H' ⟨acc,z3,z4,z5,z6,rfl,sb,hpa,hal,hac⟩;rw[GO]at hac;refine⟨_,rfl,k p H' (λb' o e=>sb b' o (aN e hp) (s4 b' o e)) hp ?_⟩;rw[hpa]
   have e:acc=ae xs ys:=by
    apply cP
    ·rw[hal];unfold ae;rw[if_neg (by intro z;exact z.elim hx0 hy0),GO,Hm];omega
    ·intro n _;rw[aE,se (by omega) hac]
   rw[e]
def p6:Sp:=λvs H Q _=>∃(a b:Addr) (xs ys:List Int),vs=[.ref a,.ref b]/\H a=some (.lst (xs.map V.int))/\H b=some (.lst (ys.map V.int))/\xs.length<=1000000/\ys.length<=1000000/\mkL H Q (fB xs ys)
theorem zO(F:Fun K "_law_add" "_law_add" lf f fd)(T:Txt K mg)(oB:Cal P w K mg base 1 "_law_cell_at" ["_law_script","_law_k"] (gw K) CK Cu)(EQ:Cal P w K mg base 1 "_law_trim" ["_law_row"] (gv K) Gk Fy):FnOk P w K mg base CX0 2 f fd ["_law_kp","_law_kq"] p6:=by
 obtain⟨eG,dQ,dS,eE⟩:=oB;obtain⟨Eh,AI,Bp,DI⟩:=EQ;refine F.ok sc__law_add (λvs H Q E h=>?_) (λcdv A outer s H vs Q E hr h=>?_)
 ·obtain⟨a,b,xs,ys,rfl,_⟩:=h;rfl
 ·obtain⟨a,b,xs,ys,rfl,hA,hB,hx,hy,k⟩:=h
  refine⟨_,(af (aj (i:=2) sc__law_add.nd rfl (Or.inl rfl) (bz ad))
   (af (bP PassesOwn.never rfl (fV rfl T.range_ (aa (aJ (uY rfl) (by rfl) T.max_ PyProof.Rows.boot_max (aa (aJ (aV (K:=K) rfl) (by rfl) T.len_ PySem.boot_len (aa (pv 0) ad)) (aa (aJ (aV (K:=K) rfl) (by rfl) T.len_ PySem.boot_len (aa (pv 1) ad)) ad))) ad)) (aR (i:=3) sc__law_add.nd rfl (Or.inl rfl))
     (ai (dH (e8 PySem.F.plainAttrs_list PySem.F.slot_list_append PySem.F.type_list_append fe (pv 2) (aa (ag bh (aq eG (hr.mono) rfl dQ dS eE .nil al (aa (pv 0) (aa (pv 3) ad))) (aq eG (hr.mono) rfl dQ dS eE .nil al (aa (pv 1) (aa (pv 3) ad)))) ad)))))
   (ai (au (aq Eh (hr.mono) rfl AI Bp DI .nil al (aa (pv 2) ad)))))),?_⟩
  have big:=sizeLine_eq;refine ax ⟨GR _,λp hp=>?_⟩;have npa:a≠p:=aN hA hp;have npb:b≠p:=aN hB hp;have s1:=Same.upd_new (o:=.lst []) hp;have hp1:upd H p (.lst []) p=some (.lst []):=ar;generalize upd H p (.lst [])=H1 at s1 hp1 ⊢
  refine⟨_,rfl,a,_,rfl,.inl (SqL.of (s1 _ _ hA)),_,rfl,b,_,rfl,.inl (SqL.of (s1 _ _ hB)),_,_,rfl,?_⟩;rw[sr,GO,GO];refine⟨_,rfl,by omega,by omega,?_⟩;rw[Int.toNat_natCast];refine mL (lo:=0) (n:=max xs.length ys.length) (λi σ' H'=>∃(z:Option V),σ'=[some (.ref a),some (.ref b),some (.ref p),z]/\SameB p H1 H'/\H' p=some (.lst (((List.range i).map λk=>cf xs k+cf ys k).map V.int))) ⟨none,rfl,SameB.refl _ _,hp1⟩ ?_ ?_
  ·rintro i σ' H' hi ⟨z,rfl,sb,hpa⟩;have hi':i<max xs.length ys.length:=hi;have e0:(0:Int)+(i:Int)=(i:Nat):=by omega
   refine⟨_,rfl,.inl ⟨rfl,_,SqL.of hpa⟩,_,rfl,_,rfl,a,xs,i,(by show[V.ref a,V.int (0+(i:Int))]=_;rw[e0]),SqL.of (sb _ _ npa (s1 _ _ hA)),_,rfl,_,rfl,b,ys,i,(by show[V.ref b,V.int (0+(i:Int))]=_;rw[e0]),SqL.of (sb _ _ npb (s1 _ _ hB)),_,_,rfl,rfl,p,_,_,rfl,rfl,hpa,by rw[GO,GO,Hm];omega,?_⟩;refine⟨_,rfl,sb.then_upd,?_⟩;rw[ar,List.range_succ,G8,G8];rfl
  ·rintro σ' H' ⟨z,rfl,sb,hpa⟩;have sH:Same H H':=λb' o e=>sb b' o (aN e hp) (s1 b' o e)
   refine⟨_,rfl,p,_,rfl,SqL.of hpa,λq H2 sm hq e2=>k q H2 (sH.trans sm) (sH.free hq) ?_⟩;rw[e2,D2]
def jW:Sp:=λvs H Q _=>∃(a:Addr) (ns:List Int),vs=[.ref a]/\H a=some (.lst (ns.map V.int))/\Tr ns/\Q (.bl true) H
theorem zC(F:Fun K "_law_is_poly" "_law_is_poly" kT f fd)(T:Txt K mg)(ow:Cal P w K mg base 1 "_law_whole" ["_law_found"] jS CF Cp):FnOk P w K mg base CX0 2 f fd ["_law_found"] jW:=by
 obtain⟨jJ,jd,ji,jF⟩:=ow;refine F.ok sc__law_is_poly (λvs H Q E h=>?_) (λcdv A outer s H vs Q E hr h=>?_)
 ·obtain⟨a,ns,rfl,_⟩:=h;rfl
 ·obtain⟨a,ns,rfl,hA,ht,k⟩:=h
  refine⟨_,(af (aP (cv (cu (aJ (eC (K:=K) rfl) (by rfl) T.isinstance_ PyProof.Rows.boot_isinstance (aa (pv 0) (aa (dL (v:=.ty "list") (by rfl) T.list_ PyProof.Rows.boot_list (by rfl)) ad)))))
   (ai (au cn))
   aO)
   (af (bP PassesOwn.never rfl (cy (K:=K) rfl (pv 0)) (aR (i:=1) sc__law_is_poly.nd rfl (Or.inl rfl))
     (ai (aP (cv (cu (aq jJ (hr.mono) rfl jd ji jF .nil al (aa (pv 1) ad))))
       (ai (au cn))
       aO)))
   (ai (au (yB (cV bS (aJ (aV (K:=K) rfl) (by rfl) T.len_ PySem.boot_len (aa (pv 0) ad)) ac (aw _)) (gH (cV da (am (bj (K:=K) rfl) (pv 0) (ce b8 ac) (λ_ _=>rfl)) ac (aw _)))))))),?_⟩
  refine bI (cx (fR (dG ⟨_,rfl,dU (.lst hA) (k:=true) (by rfl) ⟨_,rfl,bG ?_⟩⟩)));refine⟨_,rfl,a,rfl,⟨_,SqL.of hA⟩,df (K:=K) (a:=a) (xs:=ns.map V.int) (λi σ' H'=>∃z:Option V,σ'=[some (.ref a),z]/\H=H') ⟨none,rfl,rfl⟩ ?_ ?_ ?_⟩
  ·rintro i σ' H' _ ⟨z,rfl,rfl⟩;exact SqL.of hA
  ·rintro i x σ' H' hi ⟨z,rfl,rfl⟩;obtain⟨y,_,rfl,_,_⟩:=dE hi;exact⟨_,rfl,_,rfl,_,rfl,bG ⟨_,rfl,rfl⟩⟩
  ·rintro σ' H' ⟨z,rfl,rfl⟩;dsimp only
   refine aY (xM ⟨_,rfl,a,_,rfl,.inl (SqL.of hA),_,_,rfl,rfl,_,rfl,aG (λ_=>k) (λh0=>?_)⟩);rw[GO]at h0;have hne:ns≠[]:=λz=>h0 (by rw[z];rfl)
   refine⟨_,rfl,_,rfl,a,_,_,_,rfl,rfl,SqL.of hA,ia hne,_,_,rfl,rfl,?_⟩;have hl:=GQ.mpr hne;have h1:=ht (ns.length-1) (by omega);dsimp only
   rw[decide_eq_false h1];exact k
theorem zF(F:Fun K "_law_gcd" "_law_gcd" kW f fd)(T:Txt K mg):FnOk P w K mg base CX0 1 f fd ["_law_a","_law_b"] sp2:=by
 refine F.ok sc__law_gcd (λvs H Q E h=>?_) (λcdv A outer s H vs Q E hr h=>?_)
 ·obtain⟨a,b,rfl,_⟩:=h;rfl
 ·obtain⟨a,b,rfl,k⟩:=h
  refine⟨_,(af (aj (i:=0) sc__law_gcd.nd rfl (Or.inl rfl) (aJ gi (by rfl) T.abs_ PyProof.Rows.boot_abs (aa (pv 0) ad)))
   (af (aj (i:=1) sc__law_gcd.nd rfl (Or.inl rfl) (aJ gi (by rfl) T.abs_ PyProof.Rows.boot_abs (aa (pv 1) ad)))
   (af (fS PassesOwn.never (aC cW (pv 1) ac (aw _))
     (af (aj (i:=2) sc__law_gcd.nd rfl (Or.inl rfl) (ag cj (pv 0) (pv 1)))
       (af (aj (i:=0) sc__law_gcd.nd rfl (Or.inl rfl) (pv 1))
       (ai (aj (i:=1) sc__law_gcd.nd rfl (Or.inl rfl) (pv 2))))))
   (ai (au (pv 0)))))),?_⟩
  refine⟨_,rfl,_,rfl,?_⟩;refine⟨_,rfl,_,rfl,?_⟩;refine⟨λm σ' H'=>∃(x y:Int) (z:Option V),σ'=[some (.int x),some (.int y),z]/\H=H'/\0<=x/\0<=y/\y.natAbs=m/\Nat.gcd x.natAbs y.natAbs=Nat.gcd a.natAbs b.natAbs,⟨_,_,_,none,rfl,rfl,?_,?_,rfl,?_⟩,?_⟩
  ·rw[cZ];exact IB _
  ·rw[cZ];exact IB _
  ·rw[cZ,cZ,Hw,Hw]
  ·rintro m σ' H' ⟨x,y,z,rfl,rfl,hx,hy,rfl,hg⟩;refine⟨_,rfl,_,_,rfl,rfl,_,rfl,?_⟩;refine aG (λhn=>?_) (λh0=>?_)
   ·have hp:0<y:=hn;refine⟨λσ'' H''=>∃m',m'<y.natAbs/\∃(x' y':Int) (z:Option V),σ''=[some (.int x'),some (.int y'),z]/\H=H''/\0<=x'/\0<=y'/\y'.natAbs=m'/\Nat.gcd x'.natAbs y'.natAbs=Nat.gcd a.natAbs b.natAbs,λ_ _ h=>h,?_⟩;refine⟨_,rfl,_,rfl,_,_,rfl,rfl,hp,?_⟩;refine⟨_,rfl,?_⟩;refine⟨_,rfl,?_⟩;have h1:=Int.emod_nonneg x (Iy hp);have h2:=IZ x hp;exact⟨(x%y).natAbs,by omega,y,x%y,_,rfl,rfl,hy,h1,rfl,by rw[tN hx hp];exact hg⟩
   ·refine⟨_,rfl,?_⟩;have e:(y:Int)=0:=by have:¬(0:Int)<y:=h0;omega
    subst e
    have e2:(x:Int)=((Nat.gcd a.natAbs b.natAbs:Nat):Int):=by rw[<- hg];show x=((Nat.gcd x.natAbs 0:Nat):Int);rw[Nat.gcd_zero_right];omega
    rw[e2];exact k
theorem zu(F:Fun K "_law_shrunk" "_law_shrunk" iM f fd)(T:Txt K mg)(hNS:base.NoSeer)(hTr:P.given.tree=none)(E3:Cal P w K mg base 1 "_law_gcd" ["_law_a","_law_b"] sp2 Gw FI):FnOk P w K mg base CX0 33 f fd ["_law_kp"] eQ:=by
 obtain⟨Em,AN,Bu,DN⟩:=E3;refine F.ok sc__law_shrunk (λvs H Q E h=>?_) (λcdv A outer s H vs Q E hr h=>?_)
 ·obtain⟨a,ns,rfl,_⟩:=h;rfl
 ·obtain⟨a,ns,rfl,hA,ht,hn,k⟩:=h;have big:=sizeLine_eq;have hdp:(A.deeper (PyProof.Rows.envOfC (Str.ofString "_law_shrunk") (av iM) s.heap.objs.size f cdv)).depth+100<recursionLimit:=by have:=hr.dp;omega
  refine⟨_,(af (aj (i:=1) sc__law_shrunk.nd rfl (Or.inr rfl) ac)
   (af (bP PassesOwn.never rfl (cy (K:=K) rfl (pv 0)) (aR (i:=2) sc__law_shrunk.nd rfl (Or.inl rfl))
     (ai (aj (i:=1) sc__law_shrunk.nd rfl (Or.inr rfl) (aq Em (hr.mono) rfl AN Bu DN .nil al (aa (pv 1) (aa (pv 2) ad))))))
   (af (aP (aC bS (pv 1) ac (aw _))
     (ai (au (bz ad)))
     aO)
   (ai (au (dw (own:=["_law_one"]) (fr:=["_law_most"]) (js:=[1]) (by walk_at "comp_ok") rfl (cy (K:=K) rfl (pv 0)) (λ_ _ _ _=>(aR (i:=0) (show List.Nodup (["_law_one","_law_most"]:List Str)from by decide +kernel) rfl (Or.inl rfl))) (λ_ _ _ _=>(ag (rE hNS hTr hdp rfl rfl rfl rfl rfl) (pv 0) (pv 1))))))))),?_⟩
  refine ax ?_;refine⟨_,rfl,a,rfl,⟨_,SqL.of hA⟩,df (K:=K) (a:=a) (xs:=ns.map V.int) (λi σ' H'=>∃z:Option V,σ'=[some (.ref a),some (.int (ak (ns.take i):Nat)),z]/\H=H') ⟨none,rfl,rfl⟩ (λi σ' H' _ ⟨z,_,e⟩=>by rw[<- e];exact SqL.of hA) ?_ ?_⟩
  ·rintro i y σ' H' hi ⟨z,rfl,rfl⟩;obtain⟨n,e,rfl,_,et⟩:=dE hi;refine⟨_,rfl,_,rfl,_,_,rfl,?_⟩;refine⟨some (.int n),?_,rfl⟩;rw[et,tO,Hw];rfl
  ·rintro σ' H' ⟨z,rfl,rfl⟩;rw[GO,HB];dsimp only
   refine bI ⟨_,rfl,_,_,rfl,rfl,_,rfl,aG (λh0=>?_) (λh0=>?_)⟩
   ·have hnil:ns=[]:=Classical.byContradiction λhne=>by have g1:=mJ ht hne;have:((ak ns:Nat):Int)=0:=h0;omega
    subst hnil;exact⟨GR _,λp hp=>k p _ (Same.upd_new hp) hp (by rw[ar];rfl)⟩
   ·have hne:ns≠[]:=λz=>h0 (by rw[z];rfl)
    have g1:=mJ ht hne;refine aY ⟨_,rfl,a,rfl,⟨_,SqL.of hA⟩,jB (K:=K) (a:=a) (xs:=ns.map V.int) (λi ys σ' H'=>∃(z0:Option V),σ'=[z0,some (.int (ak ns:Nat))]/\ys=((ns.take i).map λx=>x/(ak ns:Int)).map V.int/\H=H') (by rw[GO];omega) ⟨none,rfl,rfl,rfl⟩ ?_ ?_ ?_⟩
    ·rintro i ys σ' H' _ ⟨z0,rfl,rfl,rfl⟩;exact⟨SqL.of hA,by rw[GO,GO,HL];exact Nat.min_le_left _ _⟩
    ·rintro i x ys σ' H' hi ⟨z0,rfl,rfl,rfl⟩;obtain⟨c,e,rfl,_,et⟩:=dE hi;refine⟨_,rfl,_,rfl,_,_,rfl,rfl,g1,_,rfl,?_,rfl⟩;rw[et];simp
    ·rintro ys σ' H' p ⟨z0,rfl,rfl,rfl⟩ hp;refine k p _ (Same.upd_new hp) hp ?_;rw[ar,GO,HB];rfl
theorem zy(F:Fun K "_law_plain" "_law_plain" kQ f fd)(T:Txt K mg)(ij:Cal P w K mg base 33 "_law_shrunk" ["_law_kp"] eQ ug uc):FnOk P w K mg base CX0 34 f fd ["_law_kp"] pI:=by
 obtain⟨ie,gO,gS,hG⟩:=ij;refine F.ok sc__law_plain (λvs H Q E h=>?_) (λcdv A outer s H vs Q E hr h=>?_)
 ·obtain⟨a,ns,rfl,_⟩:=h;rfl
 ·obtain⟨a,ns,rfl,hA,ht,hn,k⟩:=h;have big:=sizeLine_eq
  refine⟨_,(af (aj (i:=1) sc__law_plain.nd rfl (Or.inl rfl) (aq ie (hr.mono) rfl gO gS hG .nil al (aa (pv 0) ad)))
   (af (aP (PW.pt (c9 (aC cW (aJ (aV (K:=K) rfl) (by rfl) T.len_ PySem.boot_len (aa (pv 1) ad)) ac (aw _)) (du (aC cC (am (bj (K:=K) rfl) (pv 1) (ce b8 ac) (λ_ _=>rfl)) ac (aw _)))))
     (ai (au (dw (own:=["_law_one"]) (fr:=[]) (js:=[]) (by walk_at "comp_ok") rfl (cy (K:=K) rfl (pv 1)) (λ_ _ _ _=>(aR (i:=0) (show List.Nodup (["_law_one"]:List Str)from by decide +kernel) rfl (Or.inl rfl))) (λ_ _ _ _=>(ag aW ac (pv 0))))))
     aO)
   (ai (au (pv 1))))),?_⟩
  refine ax ⟨_,rfl,a,ns,rfl,hA,ht,hn,λp H1 s1 hp e1=>?_⟩;have hsl:(ah ns).length=ns.length:=GO _;refine cS (λσ' H'=>σ'=[some (.ref a),some (.ref p)]/\H1=H'/\ca (ah ns)=ah ns) ?_ ?_
  ·rintro σ' H' ⟨rfl,rfl,e3⟩;exact⟨_,rfl,k p H1 s1 hp (by rw[e1];show _=some (HO.lst ((ca (ah ns)).map V.int));rw[e3])⟩
  intro rest;refine dr ⟨_,rfl,p,_,rfl,.inl (SqL.of e1),_,_,rfl,rfl,_,rfl,aG (λh0=>?_) (λh0=>?_)⟩
  ·rw[GO]at h0;have hne:ah ns≠[]:=λz=>by rw[z]at h0;exact absurd h0 (by decide)
   obtain⟨r,x,er⟩:=(cF (ah ns)).resolve_left hne;refine⟨_,rfl,_,rfl,p,_,_,.int x,rfl,rfl,SqL.of e1,(by rw[er];exact DX r x),_,_,rfl,rfl,_,rfl,?_⟩;have elast:b5 (ah ns)=x:=by rw[er,dB]
   refine aG (λhx=>?_) (λhx=>?_)
   ·have hx':x<0:=hx;have epos:ca (ah ns)=(ah ns).map λx => -x:=by unfold ca;rw[elast,if_pos hx']
    refine aY ⟨_,rfl,p,rfl,⟨_,SqL.of e1⟩,jB (K:=K) (a:=p) (xs:=(ah ns).map V.int) (λi ys σ' H'=>∃(z0:Option V),σ'=[z0]/\ys=(((ah ns).take i).map λx => -x).map V.int/\H1=H') (by rw[GO,hsl];omega) ⟨none,rfl,rfl,rfl⟩ ?_ ?_ ?_⟩
    ·rintro i ys σ' H' _ ⟨z0,rfl,rfl,rfl⟩;exact⟨SqL.of e1,by rw[GO,GO,HL];exact Nat.min_le_left _ _⟩
    ·rintro i x ys σ' H' hi ⟨z0,rfl,rfl,rfl⟩;obtain⟨c,e,rfl,_,et⟩:=dE hi;refine⟨_,rfl,_,_,rfl,rfl,_,rfl,?_,rfl⟩;rw[et];simp
    ·rintro ys σ' H' p' ⟨z0,rfl,rfl,rfl⟩ hp';refine k p' _ (s1.then_new hp') (s1.free hp') ?_;rw[ar,GO,HB];show _=some (HO.lst ((ca (ah ns)).map V.int));rw[epos]
   ·exact rest _ _ ⟨rfl,rfl,by unfold ca;rw[elast,if_neg hx]⟩
  ·rw[GO]at h0;have he':ah ns=[]:=HA.mp (by omega);exact rest _ _ ⟨rfl,rfl,by rw[he'];rfl⟩
def Fac(m:Int)(l:List Int):Prop:=∃u e b:Int,l=[u,e,b] /\ -m<=u/\u<=m /\ -36<e/\e<36/\1<=b/\b<=3/\NS e
def jY:Sp:=λvs H Q _=>∃c m:Int,vs=[.int c,.int m]/\0<=m/\∀(p:Addr) (l:List Int),H p=none->Fac m l->Q (.ref p) (upd H p (.tup (l.map V.int)))
theorem cX{x m:Int}(h:0<m):0<=x%m/\x%m<m:=⟨Int.emod_nonneg _ (Iy h),IZ _ h⟩
theorem zH(F:Fun K "_law_factor_by" "_law_factor_by" kX f fd)(T:Txt K mg):FnOk P w K mg base CX0 1 f fd ["_law_cell","_law_most"] jY:=by
 refine F.ok sc__law_factor_by (λvs H Q E h=>?_) (λcdv A outer s H vs Q E hr h=>?_)
 ·obtain⟨c,m,rfl,_⟩:=h;rfl
 ·obtain⟨c,m,rfl,hm,k⟩:=h
  refine⟨_,(af (aj (i:=2) sc__law_factor_by.nd rfl (Or.inl rfl) (ag aW (ag cj (ag iW (pv 0) ac) (ag bh (ag fY ac (pv 1)) ac)) (pv 1)))
   (af (aj (i:=3) sc__law_factor_by.nd rfl (Or.inl rfl) (ag bh ac (ag cj (ag cj (ag fY (pv 0) ac) ac) ac)))
   (af (aj (i:=4) sc__law_factor_by.nd rfl (Or.inl rfl) (ag bh ac (ag cj (ag cj (ag fY (pv 0) ac) ac) ac)))
   (af (aj (i:=5) sc__law_factor_by.nd rfl (Or.inl rfl) (ag bh (ag bh (ag fY (pv 4) (pv 4)) ac) (ag cj (ag cj (ag fY (pv 0) ac) ac) (ag fY ac (pv 4)))))
   (af (aP (aC bS (ag cj (pv 0) ac) ac (aw _))
     (ai (au (cz (aa (pv 2) (aa (pv 5) (aa (pv 3) ad))))))
     aO)
   (af (aP (aC bS (ag cj (pv 0) ac) ac (aw _))
     (ai (au (cz (aa (pv 2) (aa (ag aW ac (pv 5)) (aa (pv 3) ad))))))
     aO)
   (ai (au (cz (aa (pv 2) (aa ac (aa (pv 3) ad)))))))))))),?_⟩
  refine ax ⟨_,rfl,_,_,rfl,rfl,⟨by decide,Bits.mono (j:=3) (by show(4:Int).natAbs<2^3;decide) (by decide)⟩,_,rfl,_,_,rfl,rfl,.inl ⟨by decide,by decide⟩,_,_,rfl,rfl,_,_,rfl,rfl,(by show(0:Int)<2*m+1;omega),_,rfl,_,_,rfl,rfl,?_⟩;obtain⟨u1,u2⟩:=cX (x:=c/4) (m:=2*m+1) (by omega);dsimp only
  generalize hu:c/4%(2*m+1)-m=u;have hu1 : -m<=u:=by omega
  have hu2:u<=m:=by omega
  refine ax ⟨_,rfl,_,_,rfl,rfl,.inr ⟨by decide,by decide⟩,_,_,rfl,rfl,(by show(0:Int)<10007;decide),_,_,rfl,rfl,(by show(0:Int)<3;decide),_,_,rfl,rfl,?_⟩;obtain⟨b1,b2⟩:=cX (x:=c*48271%10007) (m:=3) (by omega);dsimp only
  generalize hb:1+c*48271%10007%3=b;have hb1:1<=b:=by omega
  have hb2:b<=3:=by omega
  refine ax ⟨_,rfl,_,_,rfl,rfl,.inr ⟨by decide,by decide⟩,_,_,rfl,rfl,(by show(0:Int)<10009;decide),_,_,rfl,rfl,(by show(0:Int)<5;decide),_,_,rfl,rfl,?_⟩;obtain⟨n1,n2⟩:=cX (x:=c*69621%10009) (m:=5) (by omega);dsimp only
  generalize hn:1+c*69621%10009%5=n;have hn1:1<=n:=by omega
  have hn2:n<=5:=by omega
  refine ax ⟨_,rfl,_,rfl,_,_,rfl,rfl,.inl ⟨by show -(2^64)<n;omega,by show n<2^64;omega⟩,_,_,rfl,rfl,_,rfl,_,_,rfl,rfl,.inr ⟨by decide,by decide⟩,_,_,rfl,rfl,(by show(0:Int)<10037;decide),_,rfl,_,_,rfl,rfl,.inl ⟨by decide,by decide⟩,_,_,rfl,rfl,(by show(0:Int)<2*n;omega),_,_,rfl,rfl,?_⟩;obtain⟨e1,e2⟩:=cX (x:=c*16807%10037) (m:=2*n) (by omega);dsimp only
  generalize he:n*n+1+c*16807%10037%(2*n)=e;have hnn:0<=n*n:=HH (by omega) (by omega);have he0:0<e:=by omega
  have hns:n*n<e/\e<(n+1)*(n+1):=by
   have:(n+1)*(n+1)=n*n+2*n+1:=by rw[Int.add_mul,Int.mul_add];omega
   omega
  have he2:e<36:=by
   have h1:n=1\/n=2\/n=3\/n=4\/n=5:=by omega
   rcases h1 with rfl |rfl |rfl |rfl |rfl<;>omega
  refine bI ⟨_,rfl,_,_,rfl,rfl,(by show(0:Int)<4;decide),_,_,rfl,rfl,_,rfl,aG (λ_=>?_) (λ_=>?_)⟩
  ·exact⟨_,rfl,_,rfl,_,rfl,by show 3<=sizeLine;decide,λp hp=>k p [u,e,b] hp ⟨u,e,b,rfl,hu1,hu2,by omega,he2,hb1,hb2,.inr ⟨n,by omega,hns.1,hns.2⟩⟩⟩
  refine bI ⟨_,rfl,_,_,rfl,rfl,(by show(0:Int)<4;decide),_,_,rfl,rfl,_,rfl,aG (λ_=>?_) (λ_=>?_)⟩
  ·exact⟨_,rfl,_,rfl,_,_,rfl,rfl,_,rfl,by show 3<=sizeLine;decide,λp hp=>k p [u,0-e,b] hp ⟨u,0-e,b,rfl,hu1,hu2,by omega,by omega,hb1,hb2,.inl (by omega)⟩⟩
  exact⟨_,rfl,_,rfl,by show 3<=sizeLine;decide,λp hp=>k p [u,0,b] hp ⟨u,0,b,rfl,hu1,hu2,by omega,by omega,hb1,hb2,.inl (HV _)⟩⟩
def iz:Sp:=λvs H Q _=>∃(p:Addr) (l:List Int),vs=[.ref p]/\H p=some (.tup (l.map V.int))/\Fac 100000000 l/\mkL H Q (ay l)
theorem oP{u e b:Int}(hb:0<b):Tr (aD u e b)/\aD u e b≠[]:=by obtain⟨tr,l2⟩:=eI (u:=u) (e:=e) (b:=b) (by omega);exact⟨tr,λz=>by rw[z]at l2;simp at l2⟩
theorem qL{u e b:Int}(h1 : -100000000<=u)(h2:u<=100000000)(h3 : -36<e)(h4:e<36)(h5:1<=b)(h6:b<=3):AllB 56 (aD u e b):=by
 have q1:(u*u).natAbs<=100000000*100000000:=b7 (by omega) (by omega);have q2:(b*u).natAbs<=3*100000000:=b7 (by omega) (by omega);have q3:(b*b).natAbs<=3*3:=b7 (by omega) (by omega);have q4 : -2*b*u = -2*(b*u):=by grind
 unfold aD;split
 ·intro x hx;simp only[GX,List.not_mem_nil,or_false]at hx;rcases hx with rfl |rfl
  ·show(-u).natAbs<72057594037927936;omega
  ·show x.natAbs<72057594037927936;omega
 ·intro x hx;simp only[GX,List.not_mem_nil,or_false]at hx;rcases hx with rfl |rfl |rfl
  ·show(u*u-e).natAbs<72057594037927936;omega
  ·rw[q4];show(-2*(b*u)).natAbs<72057594037927936;omega
  ·show(b*b).natAbs<72057594037927936;omega
theorem zv(F:Fun K "_law_shape" "_law_shape" kN f fd)(T:Txt K mg)(EW:Cal P w K mg base 34 "_law_plain" ["_law_kp"] pI Gr FE):FnOk P w K mg base CX0 35 f fd ["_law_factor"] iz:=by
 obtain⟨vH,sE,tf,vk⟩:=EW;refine F.ok sc__law_shape (λvs H Q E h=>?_) (λcdv A outer s H vs Q E hr h=>?_)
 ·obtain⟨p,l,rfl,_⟩:=h;rfl
 ·obtain⟨p,l,rfl,hP,⟨u,e,b,rfl,h1,h2,h3,h4,h5,h6,h7⟩,k⟩:=h;have hb:=qL h1 h2 h3 h4 h5 h6;obtain⟨tr,hne⟩:=oP (u:=u) (e:=e) (b:=b) (by omega)
  replace k:mkL H Q (aH (aD u e b)):=k
  have bu:Bits 31 u:=by show u.natAbs<2147483648;omega
  have bb:Bits 2 b:=by show b.natAbs<4;omega
  refine⟨_,(af (aj (i:=1) sc__law_shape.nd rfl (Or.inl rfl) (am (aB (K:=K) rfl) (pv 0) ac (λ_ _=>rfl)))
   (af (aj (i:=2) sc__law_shape.nd rfl (Or.inl rfl) (am (aB (K:=K) rfl) (pv 0) ac (λ_ _=>rfl)))
   (af (aP (aC bS (am (aB (K:=K) rfl) (pv 0) ac (λ_ _=>rfl)) ac (aw _))
     (ai (au (aq vH (hr.mono) rfl sE tf vk .nil al (aa (bz (aa (ag aW ac (pv 1)) (aa (pv 2) ad))) ad))))
     aO)
   (ai (au (aq vH (hr.mono) rfl sE tf vk .nil al (aa (bz (aa (ag aW (ag aI (pv 1) (pv 1)) (am (aB (K:=K) rfl) (pv 0) ac (λ_ _=>rfl))) (aa (ag aI (ag aI (ce b8 ac) (pv 2)) (pv 1)) (aa (ag aI (pv 2) (pv 2)) ad)))) ad))))))),?_⟩
  refine ax ⟨_,rfl,p,_,_,_,rfl,rfl,SqT.of hP,rfl,?_⟩;refine ax ⟨_,rfl,p,_,_,_,rfl,rfl,SqT.of hP,rfl,?_⟩;refine bI ⟨_,rfl,p,_,_,_,rfl,rfl,SqT.of hP,rfl,_,_,rfl,rfl,_,rfl,aG (λh0=>?_) (λh0=>?_)⟩
  ·have h0':e=0:=h0;subst h0';have er:aD u 0 b=[0-u,b]:=by unfold aD;rw[if_pos rfl,Int.zero_sub]
   rw[er]at hb tr k;refine⟨_,rfl,_,_,rfl,rfl,_,rfl,by show 2<=sizeLine;decide,λq hq=>?_⟩;refine⟨q,[0-u,b],rfl,ar,tr,by show 2<=1000000;decide,λp' H' sm hp' e'=>k p' H' ((Same.upd_new hq).trans sm) ((Same.upd_new hq).free hp') e'⟩
  ·have h0':¬e=0:=h0;have er:aD u e b=[u*u-e,-2*b*u,b*b]:=by unfold aD;rw[if_neg h0']
   rw[er]at hb tr k;refine aY ⟨_,rfl,_,rfl,_,_,rfl,rfl,⟨bu.mono,bu.mono⟩,_,rfl,p,_,_,_,rfl,rfl,SqT.of hP,rfl,_,_,rfl,rfl,?_⟩;refine⟨_,rfl,_,rfl,_,_,rfl,rfl,⟨Bits.mono (j:=2) (by show(-2:Int).natAbs<2^2;decide) (by decide),bb.mono⟩,_,rfl,_,_,rfl,rfl,⟨Bits.mono (j:=4) (Bits.mul (j:=2) (k:=2) (by show(-2:Int).natAbs<2^2;decide) bb) (by decide),bu.mono⟩,?_⟩;refine⟨_,rfl,_,rfl,_,_,rfl,rfl,⟨bb.mono,bb.mono⟩,by show 3<=sizeLine;decide,λq hq=>?_⟩;refine⟨q,[u*u-e,-2*b*u,b*b],rfl,ar,tr,by show 3<=1000000;decide,λp' H' sm hp' e'=>k p' H' ((Same.upd_new hq).trans sm) ((Same.upd_new hq).free hp') e'⟩
theorem fL{l:List Int}(h:Fac 100000000 l):Tr (ay l)/\ay l≠[]/\AllB 56 (ay l)/\2<=(ay l).length/\(ay l).length<=3:=by
 obtain⟨u,e,b,rfl,h1,h2,h3,h4,h5,h6,h7⟩:=h;have hb:=qL h1 h2 h3 h4 h5 h6;obtain⟨tr,hne⟩:=oP (u:=u) (e:=e) (b:=b) (by omega);have hl:(aD u e b).length=2\/(aD u e b).length=3:=by unfold aD;split;exact .inl rfl;exact .inr rfl
 show Tr (aH (aD u e b))/\aH (aD u e b)≠[]/\AllB 56 (aH (aD u e b))/\2<=(aH (aD u e b)).length/\(aH (aD u e b)).length<=3;have pl:=RM.plain_len (aD u e b);refine⟨fG tr,λz=>by rw[z]at pl;simp at pl;omega,AllB.of_cf λn=>?_,by omega,by omega⟩;obtain⟨g,hg,eg⟩:=eX tr;have h7:=hb.cf n;rw[eg n]at h7;refine h7.of_le ?_;rw[Hj];exact IK _ (HW.mpr hg)
noncomputable def cI:List (List Int)->Nat
 | []=>0
 |s::ss=>(s.length-1)+cI ss
theorem uD(s:List Int):∀ss,cI (ss++[s])=cI ss+(s.length-1)
 | []=>by simp[cI]
 |x::ss=>by rw[List.cons_append,cI,cI,uD s ss];omega
def pS(K:PySem.W.Frag):Sp:=λvs H Q _=>∃(a:Addr) (ns:List Int) (mo:Int) (room:Nat),vs=[.ref a,.int mo,.int room]/\0<=mo/\mo<=100000000/\SqL K H a (ns.map V.int)/\ns.length<=100/\∀(p:Addr) (H':Hp) (qs:List Addr) (fs:List (List Int)),Same H H'->H p=none->H' p=some (.lst (qs.map V.ref))->TuH H' qs fs->(∀l∈fs,Fac mo l)->(fs.map ay).Nodup->cI (fs.map ay)<=room->Q (.ref p) H'
theorem zG(F:Fun K "_law_factors_by" "_law_factors_by" iP f fd)(T:Txt K mg)(oA:Cal P w K mg base 1 "_law_factor_by" ["_law_cell","_law_most"] jY CJ Ct)(ik:Cal P w K mg base 35 "_law_shape" ["_law_factor"] iz uh ud):FnOk P w K mg base CX0 36 f fd ["_law_drawn","_law_most","_law_room"] (pS K):=by
 obtain⟨oh,md,mC,nQ⟩:=oA;obtain⟨ig,gP,gT,hI⟩:=ik;refine F.ok sc__law_factors_by (λvs H Q E h=>?_) (λcdv A outer s H vs Q E hr h=>?_)
 ·obtain⟨a,ns,mo,room,rfl,_⟩:=h;rfl
 ·obtain⟨a,ns,mo,room,rfl,hmo0,hmo1,hA,hn,k⟩:=h;have big:=sizeLine_eq;have hu2:(A.deeper (PyProof.Rows.envOfC (Str.ofString "_law_factors_by") (av iP) s.heap.objs.size f cdv)).units+66<cLine:=by have:=hr.un;omega
  refine⟨_,(af (aj (i:=3) sc__law_factors_by.nd rfl (Or.inl rfl) (bz ad))
   (af (aj (i:=4) sc__law_factors_by.nd rfl (Or.inl rfl) (bz ad))
   (af (bP PassesOwn.never rfl (cy (K:=K) rfl (pv 0)) (aR (i:=5) sc__law_factors_by.nd rfl (Or.inl rfl))
     (af (aj (i:=6) sc__law_factors_by.nd rfl (Or.inl rfl) (aq oh (hr.mono) rfl md mC nQ .nil al (aa (pv 5) (aa (pv 1) ad))))
       (af (aj (i:=7) sc__law_factors_by.nd rfl (Or.inl rfl) (aq ig (hr.mono) rfl gP gT hI .nil al (aa (pv 6) ad)))
       (ai (aP (PW.pt (c9 (aC (yI (K:=K) rfl hu2) (pv 7) (pv 4) (by rfl)) (du (aC gJ (ag aW (aJ (aV (K:=K) rfl) (by rfl) T.len_ PySem.boot_len (aa (pv 7) ad)) ac) (pv 2) (aw _)))))
         (af (dH (e8 PySem.F.plainAttrs_list PySem.F.slot_list_append PySem.F.type_list_append fe (pv 3) (aa (pv 6) ad)))
           (af (dH (e8 PySem.F.plainAttrs_list PySem.F.slot_list_append PySem.F.type_list_append fe (pv 4) (aa (pv 7) ad)))
           (ai (aj (i:=2) sc__law_factors_by.nd rfl (Or.inl rfl) (ag bh (ag aW (pv 2) (aJ (aV (K:=K) rfl) (by rfl) T.len_ PySem.boot_len (aa (pv 7) ad))) ac)))))
         aO)))))
   (ai (au (pv 3)))))),?_⟩
  refine ax ⟨GR _,λpm hpm=>?_⟩;have s1:Same H (upd H pm (.lst [])):=Same.upd_new hpm;have q1:upd H pm (.lst []) pm=some (.lst []):=ar;generalize upd H pm (.lst [])=H1 at s1 q1 ⊢
  refine ax ⟨GR _,λpz hpz=>?_⟩;have npz:pm≠pz:=aN q1 hpz;have s2:Same H (upd H1 pz (.lst [])):=s1.then_new hpz;have q2:upd H1 pz (.lst []) pz=some (.lst []):=ar;have q3:upd H1 pz (.lst []) pm=some (.lst []):=by rw[upd_ne npz];exact q1
  have hz0:H pz=none:=s1.free hpz;generalize upd H1 pz (.lst [])=H2 at s2 q2 q3 ⊢
  refine⟨_,rfl,a,rfl,⟨_,s2.seq hA⟩,df (K:=K) (a:=a) (xs:=ns.map V.int) (λi σ' H'=>∃(z5 z6 z7:Option V) (qs rs:List Addr) (fs:List (List Int)) (left:Nat),σ'=[some (.ref a),some (.int mo),some (.int left),some (.ref pm),some (.ref pz),z5,z6,z7]/\Same H H'/\H' pm=some (.lst (qs.map V.ref))/\H' pz=some (.lst (rs.map V.ref))/\TuH H' qs fs/\RwH H' rs (fs.map ay)/\(∀p∈rs,p≠pm/\p≠pz)/\(∀l∈fs,Fac mo l)/\(fs.map ay).Nodup/\cI (fs.map ay)+left=room/\fs.length<=i) ⟨none,none,none,[],[],[],room,rfl,s2,q3,q2,TuH.nil,RwH.nil,(λ_ h=>nomatch h),(λ_ h=>nomatch h),List.nodup_nil,Nat.zero_add _,GP _⟩ ?_ ?_ ?_⟩
  ·rintro i σ' H' _ ⟨z5,z6,z7,qs,rs,fs,left,rfl,sm,_⟩;exact sm.seq hA
  ·rintro i x σ' H' hi ⟨z5,z6,z7,qs,rs,fs,left,rfl,sm,eqm,eqz,hT,hR,hno,hF,hnd,hdg,hle⟩
   have hin:i<100:=by have:=(List.getElem?_eq_some_iff.mp hi).1;rw[GO]at this;omega
   obtain⟨c,_,rfl,_,_⟩:=dE hi;refine ax ⟨_,rfl,_,rfl,c,mo,rfl,hmo0,λp l hp hl0=>?_⟩
   have hl:Fac 100000000 l:=by obtain⟨u,e,b,rfl,h1,h2,h3,h4,h5,h6,h7⟩:=id hl0;exact⟨u,e,b,rfl,by omega,by omega,h3,h4,h5,h6,h7⟩
   have s3:Same H' (upd H' p (.tup (l.map V.int))):=Same.upd_new hp;have e3:upd H' p (.tup (l.map V.int)) p=some (.tup (l.map V.int)):=ar;generalize upd H' p (.tup (l.map V.int))=H3 at s3 e3 ⊢
   refine ax ⟨_,rfl,p,l,rfl,e3,hl,λq H4 s4 hq e4=>?_⟩;have t4:=s3.trans s4;have eqm4:=t4 _ _ eqm;have eqz4:=t4 _ _ eqz;have hT4:=hT.same t4;have hR4:=hR.same t4;have nqm:q≠pm:=λz=>by rw[z,s3 _ _ eqm]at hq;cases hq
   have nqz:q≠pz:=λz=>by rw[z,s3 _ _ eqz]at hq;cases hq
   obtain⟨g1,g2,g3,g4,g5⟩:=fL hl;dsimp only
   refine fO (dr ⟨_,rfl,_,rfl,pz,q,rs,fs.map ay,ay l,rfl,rfl,e4,SqL.of eqz4,hR4.1,hR4.2,_,rfl,b9 (λhni=>?_) (λ_=>?_)⟩)
   ·refine⟨_,rfl,q,_,rfl,.inl (SqL.of e4),_,_,rfl,rfl,_,rfl,_,_,rfl,rfl,_,rfl,aG (λhlen=>?_) (λ_=>?_)⟩
    ·rw[GO]at hlen;have hlq:qs.length=fs.length:=hT.1;have hlr:rs.length=fs.length:=by have:=hR.1;rwa [GO]at this
     refine gC ⟨_,rfl,.inl ⟨rfl,_,SqL.of eqm4⟩,_,rfl,pm,_,_,rfl,rfl,eqm4,by rw[GO];omega,?_⟩;have eqz5:upd H4 pm (.lst (qs.map V.ref++[V.ref p])) pz=some (.lst (rs.map V.ref)):=by rw[upd_ne (Ne.symm npz)];exact eqz4
     refine gC ⟨_,rfl,.inl ⟨rfl,_,SqL.of eqz5⟩,_,rfl,pz,_,_,rfl,rfl,eqz5,by rw[GO];omega,?_⟩;rw[f9,f9];rw[f9]at eqz5;refine cq ⟨_,rfl,_,rfl,q,_,rfl,.inl (SqL.of (by rw[upd_ne nqz,upd_ne nqm];exact e4)),_,_,rfl,rfl,_,_,rfl,rfl,?_⟩;dsimp only
     rw[GO];have hfl:(left:Int)-(ay l).length+1=((left-((ay l).length-1):Nat):Int):=by omega
     rw[hfl];refine⟨_,_,_,qs++[p],rs++[q],fs++[l],left-((ay l).length-1),rfl,dM (dM (sm.trans t4) hpm) hz0,?_,ar,?_,?_,?_,?_,?_,?_,?_⟩
     ·rw[upd_ne npz,ar]
     ·exact((hT4.snoc (s4 _ _ e3)).upd_lst eqm4).upd_lst eqz5
     ·rw[show(fs++[l]).map ay=fs.map ay++[ay l]from by rw[G8];rfl];have hR5:=hR4.snoc e4
      have hno5:∀x∈rs++[q],x≠pm/\x≠pz:=λx hx=>by
       rcases HK.mp hx with h |h
       ·exact hno x h
       ·rw[G1.mp h];exact⟨nqm,nqz⟩
      exact(hR5.upd_no λx hx=>(hno5 x hx).1).upd_no λx hx=>(hno5 x hx).2
     ·intro x hx;rcases HK.mp hx with h |h
      ·exact hno x h
      ·rw[G1.mp h];exact⟨nqm,nqz⟩
     ·intro x hx;rcases HK.mp hx with h |h
      ·exact hF x h
      ·rw[G1.mp h];exact hl0
     ·rw[G8,HC,Iw];refine List.nodup_append.mpr ⟨hnd,by simp,λx hx y hy=>?_⟩;rw[G1.mp hy]
      exactλz=>hni (z ▸ hx)
     ·rw[G8,HC,Iw,uD];omega
     ·rw[GZ];show fs.length+1<=i+1;omega
    ·exact⟨_,_,_,qs,rs,fs,left,rfl,sm.trans t4,eqm4,eqz4,hT4,hR4,hno,hF,hnd,hdg,by omega⟩
   ·exact bG ⟨_,_,_,qs,rs,fs,left,rfl,sm.trans t4,eqm4,eqz4,hT4,hR4,hno,hF,hnd,hdg,by omega⟩
  ·rintro σ' H' ⟨z5,z6,z7,qs,rs,fs,left,rfl,sm,eqm,eqz,hT,hR,hno,hF,hnd,hdg,hle⟩;exact⟨_,rfl,k pm H' qs fs sm hpm eqm hT hF hnd (by omega)⟩
def pH:Sp:=λvs H Q _=>∃(a:Addr) (qs:List Addr) (fs:List (List Int)),vs=[.ref a]/\H a=some (.lst (qs.map V.ref))/\TuH H qs fs/\(∀l∈fs,Fac 100000000 l)/\fs.length<=8/\mkL H Q (bF [1] (fs.map ay))
theorem lA{fs:List (List Int)}(hF:∀l∈fs,Fac 100000000 l):∀n,n<=fs.length->n<=8->AllB (2+75*n) (bF [1] ((fs.take n).map ay))/\(bF [1] ((fs.take n).map ay)).length<=1+2*n
 |0,_,_=>⟨λx hx=>by
  rw[IU]at hx;have:x=1:=by simpa[bF]using hx
  rw[this];show(1:Int).natAbs<2^2;decide,by rw[IU];decide⟩
 |n+1,h,h'=>by
  obtain⟨i1,i2⟩:=lA hF n (by omega) (by omega);have e:fs.take (n+1)=fs.take n++[fs[n]]:=by rw[HM,List.getElem?_eq_getElem (by omega)];rfl
  obtain⟨g1,g2,g3,g4,g5⟩:=fL (hF fs[n] (Hu _));rw[e,G8,HC,Iw,rf];refine⟨si i1 g3 (by omega),?_⟩;unfold ae;split
  ·exact GR _
  ·rw[GO,Hm];omega
theorem zx(F:Fun K "_law_product" "_law_product" kP f fd)(T:Txt K mg)(il:Cal P w K mg base 1 "_law_mul" ["_law_kp","_law_kq"] fI ui ue)(ik:Cal P w K mg base 35 "_law_shape" ["_law_factor"] iz uh ud):FnOk P w K mg base CX0 36 f fd ["_law_factors"] pH:=by
 obtain⟨fC,ff,fi,fz⟩:=il;obtain⟨ig,gP,gT,hI⟩:=ik;refine F.ok sc__law_product (λvs H Q E h=>?_) (λcdv A outer s H vs Q E hr h=>?_)
 ·obtain⟨a,qs,fs,rfl,_⟩:=h;rfl
 ·obtain⟨a,qs,fs,rfl,hA,hT,hF,hn,k⟩:=h
  refine⟨_,(af (aj (i:=1) sc__law_product.nd rfl (Or.inl rfl) (bz (aa ac ad)))
   (af (bP PassesOwn.never rfl (cy (K:=K) rfl (pv 0)) (aR (i:=2) sc__law_product.nd rfl (Or.inl rfl))
     (ai (aj (i:=1) sc__law_product.nd rfl (Or.inl rfl) (aq fC (hr.mono) rfl ff fi fz .nil al (aa (pv 1) (aa (aq ig (hr.mono) rfl gP gT hI .nil al (aa (pv 2) ad)) ad))))))
   (ai (au (pv 1))))),?_⟩
  refine ax ⟨by show 1<=sizeLine;decide,λp0 hp0=>?_⟩;have s1:Same H (upd H p0 (.lst [V.int 1])):=Same.upd_new hp0;have q1:upd H p0 (.lst [V.int 1]) p0=some (.lst (([1]:List Int).map V.int)):=ar;generalize upd H p0 (.lst [V.int 1])=H1 at s1 q1 ⊢
  have hpl:(qs.map V.ref).length=fs.length:=by rw[GO,hT.1]
  refine⟨_,rfl,a,rfl,⟨_,SqL.of (s1 _ _ hA)⟩,df (K:=K) (a:=a) (xs:=qs.map V.ref) (λi σ' H'=>∃(z2:Option V) (p:Addr),σ'=[some (.ref a),some (.ref p),z2]/\Same H H'/\H p=none/\H' p=some (.lst ((bF [1] ((fs.take i).map ay)).map V.int))) ⟨none,p0,rfl,s1,hp0,q1⟩ ?_ ?_ ?_⟩
  ·rintro i σ' H' _ ⟨z2,p,rfl,sm,_⟩;exact SqL.of (sm _ _ hA)
  ·rintro i x σ' H' hi ⟨z2,p,rfl,sm,hp,ep⟩;obtain⟨q,l,rfl,eq,el,hq,hlt⟩:=(hT.same sm).of_get hi;have hl:=hF l (List.mem_of_getElem? el);obtain⟨g1,g2,g3,g4,g5⟩:=fL hl;obtain⟨i1,i2⟩:=lA hF i (by omega) (by omega);refine⟨_,rfl,_,rfl,q,l,rfl,hq,hl,λr H3 s3 hr3 e3=>?_⟩;refine⟨p,r,bF [1] ((fs.take i).map ay),ay l,rfl,s3 _ _ ep,e3,by omega,by omega,i1.mono (by omega),g3.mono,λr2 H4 s4 hr4 e4=>?_⟩;have t4:=sm.trans (s3.trans s4);refine⟨_,r2,rfl,t4,(sm.trans s3).free hr4,?_⟩;rw[e4,HM,el];show _=some (HO.lst ((bF [1] ((fs.take i++[l]).map ay)).map V.int));rw[G8,HC,Iw,rf]
  ·rintro σ' H' ⟨z2,p,rfl,sm,hp,ep⟩;rw[hpl,HB]at ep;exact⟨_,rfl,k p H' sm hp ep⟩
def SpB(l:List Int):Prop:=∃u e b s:Int,l=[u,e,b,s] /\ -100000000<=u/\u<=100000000/\0<=e/\e<36/\1<=b/\b<=3
def pj:Sp:=λvs H Q _=>∃sq due:Int,vs=[.int sq,.int due]/\Bits 400000 due/\Q (.int (aX sq due)) H
theorem zq(F:Fun K "_law_sure" "_law_sure" kK f fd)(T:Txt K mg):FnOk P w K mg base CX0 1 f fd ["_law_square","_law_due"] pj:=by
 refine F.ok xy (λvs H Q E h=>?_) (λcdv A outer s H vs Q E hr h=>?_)
 ·obtain⟨sq,due,rfl,_⟩:=h;rfl
 ·obtain⟨sq,due,rfl,hb,k⟩:=h
  refine⟨_,(af (aP (PW.pt (bO (aC cC (pv 1) ac (aw _)) (cr (aC cW (pv 0) (ag aI (pv 1) (pv 1)) (aw _)))))
   (ai (au ac))
   aO)
   (ai (au (ag aW ac (gI Du (by rfl) T.int_ PyProof.Rows.boot_int (aa (cV cC (pv 0) (ag aI (pv 1) (pv 1)) (aw _)) ad)))))),?_⟩
  refine cS (λσ' H'=>σ'=[some (.int sq),some (.int due)]/\H=H'/\¬(due<0\/due*due<sq)) ?_ ?_
  case refine_2 =>
   intro rest;refine bV ⟨_,rfl,_,_,rfl,rfl,_,rfl,aG (λh1=>?_) (λh1=>?_)⟩
   ·refine cR ?_;unfold aX at k
    rw[if_pos (.inl h1)]at k;exact k
   ·refine⟨_,rfl,_,rfl,_,rfl,_,_,rfl,rfl,⟨hb.mono,hb.mono⟩,_,_,rfl,rfl,_,rfl,aG (λh2=>?_) (λh2=>?_)⟩
    ·unfold aX at k
     rw[if_pos (.inr h2)]at k;exact k
    ·exact rest _ _ ⟨rfl,rfl,λz=>z.elim h1 h2⟩
  rintro σ' H' ⟨rfl,rfl,hn⟩;refine aY ⟨_,rfl,_,rfl,_,rfl,_,_,rfl,rfl,⟨hb.mono,hb.mono⟩,_,_,rfl,rfl,.inr ⟨_,rfl,_,_,rfl,rfl,?_⟩⟩;unfold aX at k
  rw[if_neg hn]at k;by_cases h3:sq<due*due
  ·rw[if_pos h3]at k;rw[decide_eq_true h3];exact k
  ·rw[if_neg h3]at k;rw[decide_eq_false h3];exact k
def pA:Sp:=λvs H Q _=>∃(p:Addr) (l:List Int) (t n:Int),vs=[.ref p,.int t,.int n]/\H p=some (.tup (l.map V.int))/\SpB l/\Bits 100000 t/\Bits 100000 n/\Q (.int (aU l t n)) H
theorem zt(F:Fun K "_law_side" "_law_side" kM f fd)(T:Txt K mg)(ER:Cal P w K mg base 1 "_law_sure" ["_law_square","_law_due"] pj Gm Fz):FnOk P w K mg base CX0 2 f fd ["_law_spot","_law_top","_law_bottom"] pA:=by
 obtain⟨vF,sC,sY,vi⟩:=ER;refine F.ok sc__law_side (λvs H Q E h=>?_) (λcdv A outer s H vs Q E hr h=>?_)
 ·obtain⟨p,l,t,n,rfl,_⟩:=h;rfl
 ·obtain⟨p,l,t,n,rfl,hP,⟨u,e,b,s,rfl,h1,h2,h3,h4,h5,h6⟩,bt,bn,k⟩:=h;have bu:Bits 28 u:=by show u.natAbs<268435456;omega
  have bb:Bits 6 b:=by show b.natAbs<64;omega
  have be:Bits 6 e:=by show e.natAbs<64;omega
  have bd:Bits 100030 (b*t-u*n):=Bits.sub (k:=100029) ((bb.mul bt).mono) ((bu.mul bn).mono)
  refine⟨_,(af (aj (i:=3) sc__law_side.nd rfl (Or.inl rfl) (ag aW (ag aI (am (aB (K:=K) rfl) (pv 0) ac (λ_ _=>rfl)) (pv 1)) (ag aI (am (aB (K:=K) rfl) (pv 0) ac (λ_ _=>rfl)) (pv 2))))
   (af (aj (i:=4) sc__law_side.nd rfl (Or.inl rfl) (ag aI (ag aI (am (aB (K:=K) rfl) (pv 0) ac (λ_ _=>rfl)) (pv 2)) (pv 2)))
   (af (aP (aC cW (am (aB (K:=K) rfl) (pv 0) ac (λ_ _=>rfl)) ac (aw _))
     (ai (au (aq vF (hr.mono) rfl sC sY vi .nil al (aa (pv 4) (aa (pv 3) ad)))))
     aO)
   (ai (au (ag aW ac (aq vF (hr.mono) rfl sC sY vi .nil al (aa (pv 4) (aa (ag aW ac (pv 3)) ad))))))))),?_⟩
  refine ax ⟨_,rfl,p,_,_,_,rfl,rfl,SqT.of hP,rfl,_,rfl,_,_,rfl,rfl,⟨bb.mono,bt.mono⟩,_,rfl,p,_,_,_,rfl,rfl,SqT.of hP,rfl,_,rfl,_,_,rfl,rfl,⟨bu.mono,bn.mono⟩,_,_,rfl,rfl,?_⟩;refine ax ⟨_,rfl,p,_,_,_,rfl,rfl,SqT.of hP,rfl,_,rfl,_,_,rfl,rfl,⟨be.mono,bn.mono⟩,_,rfl,_,_,rfl,rfl,⟨(be.mul bn).mono,bn.mono⟩,?_⟩;refine bI ⟨_,rfl,p,_,_,_,rfl,rfl,SqT.of hP,rfl,_,_,rfl,rfl,_,rfl,aG (λhs=>?_) (λhs=>?_)⟩
  ·refine⟨_,rfl,_,rfl,_,_,rfl,bd.mono,?_⟩;have hs':0<cf [u,e,b,s] 3:=hs;unfold aU at k
   rw[if_pos hs']at k;exact k
  ·have hs':¬0<cf [u,e,b,s] 3:=hs;refine aY ⟨_,rfl,_,rfl,_,_,rfl,rfl,_,_,rfl,?_,_,_,rfl,rfl,?_⟩
   ·have:=bd.neg;rw[<- Int.zero_sub]at this;exact this.mono
   unfold aU at k
   rw[if_neg hs']at k;exact k
theorem wD(f:List Int):(spF f).length<=2:=by unfold spF;split<;>split<;>simp
theorem gu:∀fs:List (List Int),(spots fs).length<=2*fs.length
 | []=>GP _
 |f::fs=>by
  have e1:spots (f::fs)=spF f++spots fs:=by unfold spots;rw[List.flatMap_cons]
  have h1:=wD f;have h2:=gu fs;rw[e1,GZ,Hl];omega
theorem wB{fs:List (List Int)}{i:Nat}{f:List Int}(h:fs[i]?=some f):spots (fs.take (i+1))=spots (fs.take i)++spF f:=by unfold spots;rw[HM,h,List.flatMap_append];show _++List.flatMap spF [f]=_;rw[List.flatMap_singleton]
def pG:Sp:=λvs H Q _=>∃(a:Addr) (qs:List Addr) (fs:List (List Int)),vs=[.ref a]/\H a=some (.lst (qs.map V.ref))/\TuH H qs fs/\(∀l∈fs,Fac 100000000 l)/\fs.length<=100/\∀(p:Addr) (H':Hp) (ws:List Addr),Same H H'->H p=none->H' p=some (.lst (ws.map V.ref))->TuH H' ws (spots fs)->Q (.ref p) H'
theorem zw(F:Fun K "_law_roots_of" "_law_roots_of" kO f fd)(T:Txt K mg):FnOk P w K mg base CX0 1 f fd ["_law_factors"] pG:=by
 refine F.ok sc__law_roots_of (λvs H Q E h=>?_) (λcdv A outer s H vs Q E hr h=>?_)
 ·obtain⟨a,qs,fs,rfl,_⟩:=h;rfl
 ·obtain⟨a,qs,fs,rfl,hA,hT,hF,hn,k⟩:=h;have big:=sizeLine_eq
  refine⟨_,(af (aj (i:=1) sc__law_roots_of.nd rfl (Or.inl rfl) (bz ad))
   (af (bP PassesOwn.never rfl (cy (K:=K) rfl (pv 0)) (aR (i:=2) sc__law_roots_of.nd rfl (Or.inl rfl))
     (af (aP (aC lE (am (aB (K:=K) rfl) (pv 2) ac (λ_ _=>rfl)) ac (aw _))
       (ai (dH (e8 PySem.F.plainAttrs_list PySem.F.slot_list_append PySem.F.type_list_append fe (pv 1) (aa (cz (aa (am (aB (K:=K) rfl) (pv 2) ac (λ_ _=>rfl)) (aa (am (aB (K:=K) rfl) (pv 2) ac (λ_ _=>rfl)) (aa (am (aB (K:=K) rfl) (pv 2) ac (λ_ _=>rfl)) (aa ac ad))))) ad))))
       aO)
       (ai (aP (aC cW (am (aB (K:=K) rfl) (pv 2) ac (λ_ _=>rfl)) ac (aw _))
         (ai (dH (e8 PySem.F.plainAttrs_list PySem.F.slot_list_append PySem.F.type_list_append fe (pv 1) (aa (cz (aa (am (aB (K:=K) rfl) (pv 2) ac (λ_ _=>rfl)) (aa (am (aB (K:=K) rfl) (pv 2) ac (λ_ _=>rfl)) (aa (am (aB (K:=K) rfl) (pv 2) ac (λ_ _=>rfl)) (aa (ce b8 ac) ad))))) ad))))
         aO))))
   (ai (au (pv 1))))),?_⟩
  refine ax ⟨GR _,λpm hpm=>?_⟩;have s1:Same H (upd H pm (.lst [])):=Same.upd_new hpm;have q1:upd H pm (.lst []) pm=some (.lst []):=ar;generalize upd H pm (.lst [])=H1 at s1 q1 ⊢
  have hpl:(qs.map V.ref).length=fs.length:=by rw[GO,hT.1]
  refine⟨_,rfl,a,rfl,⟨_,SqL.of (s1 _ _ hA)⟩,df (K:=K) (a:=a) (xs:=qs.map V.ref) (λi σ' H'=>∃(z2:Option V) (ws:List Addr),σ'=[some (.ref a),some (.ref pm),z2]/\Same H H'/\H' pm=some (.lst (ws.map V.ref))/\TuH H' ws (spots (fs.take i))) ⟨none,[],rfl,s1,q1,TuH.nil⟩ ?_ ?_ ?_⟩
  ·rintro i σ' H' _ ⟨z2,ws,rfl,sm,_⟩;exact SqL.of (sm _ _ hA)
  ·rintro i x σ' H' hi ⟨z2,ws,rfl,sm,em,hW⟩;obtain⟨q,l,rfl,eq,el,hq,hlt⟩:=(hT.same sm).of_get hi;have hmem:=List.mem_of_getElem? el;obtain⟨u,e,b,rfl,h1,h2,h3,h4,h5,h6,h7⟩:=hF l hmem;have hd:spF [u,e,b]=(if 0<=e then[[u,e,b,1]]else[])++(if 0<e then[[u,e,b,-1]]else[]):=rfl
   have hwl:ws.length<=200:=by rw[hW.1];have:=gu (fs.take i);rw[HL]at this;omega
   rw[wB el,hd];dsimp only
   refine cS (λσ' H'=>∃(ws:List Addr),σ'=[some (.ref a),some (.ref pm),some (.ref q)]/\Same H H'/\H' pm=some (.lst (ws.map V.ref))/\TuH H' ws (spots (fs.take i)++(if 0<=e then[[u,e,b,1]]else[]))/\ws.length<=201) ?_ ?_
   case refine_2 =>
    intro rest;refine⟨_,rfl,q,_,_,_,rfl,rfl,SqT.of hq,rfl,_,_,rfl,rfl,_,rfl,aG (λh0=>?_) (λh0=>?_)⟩
    ·have h0':0<=e:=h0;refine qI ⟨_,rfl,.inl ⟨rfl,_,SqL.of em⟩,_,rfl,q,_,_,_,rfl,rfl,SqT.of hq,rfl,_,rfl,q,_,_,_,rfl,rfl,SqT.of hq,rfl,_,rfl,q,_,_,_,rfl,rfl,SqT.of hq,rfl,by show 4<=sizeLine;decide,λp hp=>?_⟩;have s3:Same H' (upd H' p (.tup ([u,e,b,1].map V.int))):=Same.upd_new hp;have e3:upd H' p (.tup ([u,e,b,1].map V.int)) p=some (.tup ([u,e,b,1].map V.int)):=ar;have em3:=s3 _ _ em;refine⟨pm,_,_,rfl,rfl,em3,by rw[GO];omega,?_⟩;refine rest _ _ ⟨ws++[p],rfl,dM (sm.trans s3) hpm,by rw[ar,f9],?_,by rw[GZ];show ws.length+1<=_;omega⟩;rw[if_pos h0'];exact((hW.same s3).snoc e3).upd_lst em3
    ·have h0':¬0<=e:=h0;refine rest _ _ ⟨ws,rfl,sm,em,?_,by omega⟩;rw[if_neg h0',IH];exact hW
   clear em hW hwl ws sm hq;rintro σ' H3 ⟨ws,rfl,sm,em,hW,hwl⟩;obtain⟨q',l',ee,eq',el',hq,_⟩:=(hT.same sm).of_get hi;rw[eq]at eq';rw[el]at el';obtain rfl:=Option.some.inj eq';obtain rfl:=Option.some.inj el';refine fO ⟨_,rfl,q,_,_,_,rfl,rfl,SqT.of hq,rfl,_,_,rfl,rfl,_,rfl,aG (λh0=>?_) (λh0=>?_)⟩
   ·have h0':0<e:=h0;refine qI ⟨_,rfl,.inl ⟨rfl,_,SqL.of em⟩,_,rfl,q,_,_,_,rfl,rfl,SqT.of hq,rfl,_,rfl,q,_,_,_,rfl,rfl,SqT.of hq,rfl,_,rfl,q,_,_,_,rfl,rfl,SqT.of hq,rfl,_,rfl,by show 4<=sizeLine;decide,λp hp=>?_⟩;have s3:Same H3 (upd H3 p (.tup ([u,e,b,-1].map V.int))):=Same.upd_new hp;have e3:upd H3 p (.tup ([u,e,b,-1].map V.int)) p=some (.tup ([u,e,b,-1].map V.int)):=ar;have em3:=s3 _ _ em;refine⟨pm,_,_,rfl,rfl,em3,by rw[GO];omega,?_⟩;refine⟨_,ws++[p],rfl,dM (sm.trans s3) hpm,by rw[ar,f9],?_⟩;rw[if_pos h0',<- List.append_assoc];exact((hW.same s3).snoc e3).upd_lst em3
   ·have h0':¬0<e:=h0;refine⟨_,ws,rfl,sm,em,?_⟩;rw[if_neg h0',IH];exact hW
  ·rintro σ' H' ⟨z2,ws,rfl,sm,em,hW⟩;rw[hpl,HB]at hW;exact⟨_,rfl,k pm H' ws sm hpm em hW⟩
def jV:Sp:=λvs H Q _=>∃a b c m:Int,vs=[.int a,.int b,.int c,.int m]/\Bits 2000 a/\Bits 2000 b/\Bits 2000 c/\Bits 10 m/\Q (.int (nrm m a b c)) H
theorem zz(F:Fun K "_law_norm" "_law_norm" kR f fd)(T:Txt K mg):FnOk P w K mg base CX0 1 f fd ["_law_a","_law_b","_law_c","_law_m"] jV:=by
 refine F.ok sc__law_norm (λvs H Q E h=>?_) (λcdv A outer s H vs Q E hr h=>?_)
 ·obtain⟨a,b,c,m,rfl,_⟩:=h;rfl
 ·obtain⟨a,b,c,m,rfl,ba,bb,bc,bm,k⟩:=h;have e:a*a*a+m*b*b*b+m*m*c*c*c-3*m*a*b*c=nrm m a b c:=by unfold nrm;grind
  rw[<- e]at k;have b3:Bits 2 (3:Int):=by show(3:Int).natAbs<2^2;decide
  have M:∀{i:Nat} {x:Int},Bits i x->i<=100000->Bits 1000000 x:=λh hi=>h.mono (by omega)
  have q1:=ba.mul ba;have q2:=bm.mul bb;have q3:=q2.mul bb;have q4:=bm.mul bm;have q5:=q4.mul bc;have q6:=q5.mul bc;have q7:=b3.mul bm;have q8:=q7.mul ba;have q9:=q8.mul bb
  refine⟨_,(af (aj (i:=4) sc__law_norm.nd rfl (Or.inl rfl) (ag bh (ag aI (ag aI (pv 0) (pv 0)) (pv 0)) (ag aI (ag aI (ag aI (pv 3) (pv 1)) (pv 1)) (pv 1))))
   (af (aj (i:=4) sc__law_norm.nd rfl (Or.inl rfl) (ag bh (pv 4) (ag aI (ag aI (ag aI (ag aI (pv 3) (pv 3)) (pv 2)) (pv 2)) (pv 2))))
   (ai (au (ag aW (pv 4) (ag aI (ag aI (ag aI (ag aI ac (pv 3)) (pv 0)) (pv 1)) (pv 2))))))),?_⟩
  refine ax ⟨_,rfl,_,rfl,_,_,rfl,rfl,⟨M ba (by decide),M ba (by decide)⟩,_,rfl,_,_,rfl,rfl,⟨M q1 (by decide),M ba (by decide)⟩,_,rfl,_,rfl,_,_,rfl,rfl,⟨M bm (by decide),M bb (by decide)⟩,_,rfl,_,_,rfl,rfl,⟨M q2 (by decide),M bb (by decide)⟩,_,rfl,_,_,rfl,rfl,⟨M q3 (by decide),M bb (by decide)⟩,_,_,rfl,rfl,?_⟩;refine ax ⟨_,rfl,_,rfl,_,rfl,_,_,rfl,rfl,⟨M bm (by decide),M bm (by decide)⟩,_,rfl,_,_,rfl,rfl,⟨M q4 (by decide),M bc (by decide)⟩,_,rfl,_,_,rfl,rfl,⟨M q5 (by decide),M bc (by decide)⟩,_,rfl,_,_,rfl,rfl,⟨M q6 (by decide),M bc (by decide)⟩,_,_,rfl,rfl,?_⟩;exact aY ⟨_,rfl,_,rfl,_,_,rfl,rfl,⟨M b3 (by decide),M bm (by decide)⟩,_,rfl,_,_,rfl,rfl,⟨M q7 (by decide),M ba (by decide)⟩,_,rfl,_,_,rfl,rfl,⟨M q8 (by decide),M bb (by decide)⟩,_,rfl,_,_,rfl,rfl,⟨M q9 (by decide),M bc (by decide)⟩,_,_,rfl,rfl,k⟩
theorem bZ{x:Int}(h:x.natAbs<1024){k:Nat}(hk:10<=k):Bits k x:=Bits.mono (j:=10) h hk
def CT(H:Hp)(p:Addr)(a b c m:Int):Prop:=H p=some (.tup [.int a,.int b,.int c,.int m,.int 0])
def pT:Sp:=λvs H Q _=>∃(p:Addr) (a b c m:Int),vs=[.ref p]/\CT H p a b c m/\CubOk a b c m/\mkL H Q (aM m a b c)
theorem zI(F:Fun K "_law_cube_shape" "_law_cube_shape" kY f fd)(T:Txt K mg)(oy:Cal P w K mg base 1 "_law_norm" ["_law_a","_law_b","_law_c","_law_m"] jV CH Cr):FnOk P w K mg base CX0 2 f fd ["_law_cube"] pT:=by
 obtain⟨oe,lY,mz,nN⟩:=oy;refine F.ok sc__law_cube_shape (λvs H Q E h=>?_) (λcdv A outer s H vs Q E hr h=>?_)
 ·obtain⟨p,a,b,c,m,rfl,_⟩:=h;rfl
 ·obtain⟨p,a,b,c,m,rfl,hp,hC,k⟩:=h;have ba:∀{k:Nat},10<=k->Bits k a:=λh=>bZ (by have:=hC.a9;omega) h
  have bb:∀{k:Nat},10<=k->Bits k b:=λh=>bZ (by have:=hC.b3;omega) h
  have bc:∀{k:Nat},10<=k->Bits k c:=λh=>bZ (by have:=hC.c3;omega) h
  have bm:∀{k:Nat},10<=k->Bits k m:=λh=>bZ (by have:=hC.m2;have:=hC.m7;omega) h
  refine⟨_,(af (aj (i:=1) sc__law_cube_shape.nd rfl (Or.inl rfl) (am (aB (K:=K) rfl) (pv 0) ac (λ_ _=>rfl)))
   (af (aj (i:=2) sc__law_cube_shape.nd rfl (Or.inl rfl) (am (aB (K:=K) rfl) (pv 0) ac (λ_ _=>rfl)))
   (af (aj (i:=3) sc__law_cube_shape.nd rfl (Or.inl rfl) (am (aB (K:=K) rfl) (pv 0) ac (λ_ _=>rfl)))
   (af (aj (i:=4) sc__law_cube_shape.nd rfl (Or.inl rfl) (am (aB (K:=K) rfl) (pv 0) ac (λ_ _=>rfl)))
   (af (aP (PW.pt (c9 (aC bS (pv 2) ac (aw _)) (du (aC bS (pv 3) ac (aw _)))))
     (ai (au (bz (aa (ag aW ac (pv 1)) (aa ac ad)))))
     aO)
   (ai (au (bz (aa (ag aW ac (aq oe (hr.mono) rfl lY mz nN .nil al (aa (pv 1) (aa (pv 2) (aa (pv 3) (aa (pv 4) ad)))))) (aa (ag aW (ag aI (ag aI ac (pv 1)) (pv 1)) (ag aI (ag aI (ag aI ac (pv 4)) (pv 2)) (pv 3))) (aa (ag aI (ce b8 ac) (pv 1)) (aa ac ad)))))))))))),?_⟩
  refine ax ⟨_,rfl,p,_,_,_,rfl,rfl,SqT.of hp,rfl,?_⟩;refine ax ⟨_,rfl,p,_,_,_,rfl,rfl,SqT.of hp,rfl,?_⟩;refine ax ⟨_,rfl,p,_,_,_,rfl,rfl,SqT.of hp,rfl,?_⟩;refine ax ⟨_,rfl,p,_,_,_,rfl,rfl,SqT.of hp,rfl,?_⟩;show bU _ _ _ _ _;refine qH (λσ' H'=>σ'=[some (.ref p),some (.int a),some (.int b),some (.int c),some (.int m)]/\H=H') ⟨rfl,rfl⟩ ?_;rintro σ' H' ⟨rfl,rfl⟩;refine cS (λσ' H'=>σ'=[some (.ref p),some (.int a),some (.int b),some (.int c),some (.int m)]/\H=H') ?_ ?_
  case refine_2 =>intro rest;refine dr ⟨_,rfl,_,_,rfl,rfl,_,rfl,aG (λh1=>?_) (λ_=>bG (rest _ _ ⟨rfl,rfl⟩))⟩;exact⟨_,rfl,_,_,rfl,rfl,_,rfl,aG (λh2=>absurd ⟨h1,h2⟩ hC.bc) (λ_=>rest _ _ ⟨rfl,rfl⟩)⟩
  rintro σ' H' ⟨rfl,rfl⟩;have b3:∀{k:Nat},10<=k->Bits k (3:Int):=λh=>bZ (by decide) h
  refine aY ⟨_,rfl,_,rfl,_,rfl,_,rfl,a,b,c,m,rfl,ba (by decide),bb (by decide),bc (by decide),bm (by decide),_,_,rfl,rfl,?_⟩;refine⟨_,rfl,_,_,rfl,rfl,⟨b3 (by decide),ba (by decide)⟩,_,rfl,_,_,rfl,rfl,⟨Bits.mono (Bits.mul (b3 (k:=10) (by decide)) (ba (k:=10) (by decide))) (by decide),ba (by decide)⟩,_,rfl,_,_,rfl,rfl,⟨b3 (by decide),bm (by decide)⟩,_,rfl,_,_,rfl,rfl,⟨Bits.mono (Bits.mul (b3 (k:=10) (by decide)) (bm (k:=10) (by decide))) (by decide),bb (by decide)⟩,_,rfl,_,_,rfl,rfl,⟨Bits.mono (Bits.mul (Bits.mul (b3 (k:=10) (by decide)) (bm (k:=10) (by decide))) (bb (k:=10) (by decide))) (by decide),bc (by decide)⟩,_,_,rfl,rfl,?_⟩;refine⟨_,rfl,_,rfl,_,_,rfl,rfl,⟨bZ (by decide) (by decide),ba (by decide)⟩,by show 4<=sizeLine;decide,λq hq=>?_⟩;refine k q _ (Same.upd_new hq) hq ?_;rw[ar];have e1:0-nrm m a b c = -nrm m a b c:=Int.zero_sub _;have e2:3*a*a-3*m*b*c=3*(a*a)-3*m*(b*c):=by grind
  show some (HO.lst [V.int (0-nrm m a b c),V.int (3*a*a-3*m*b*c),V.int (-3*a),V.int 1])=_;rw[e1,e2];rfl
def pW:Sp:=λvs H Q _=>∃x y mm:Int,vs=[.int x,.int y,.int mm]/\∀(p:Addr) (a b c:Int) (H':Hp),Same H H'->H p=none->CT H' p a b c (2+mm%6)->CubOk a b c (2+mm%6)->Q (.ref p) H'
theorem zJ(F:Fun K "_law_cube_by" "_law_cube_by" kZ f fd)(T:Txt K mg)(EO:Cal P w K mg base 1 "_law_within" ["_law_cell","_law_most"] px Gj Fx):FnOk P w K mg base CX0 2 f fd ["_law_cell","_law_other","_law_m"] pW:=by
 obtain⟨oa,lX,my,nM⟩:=EO;refine F.ok sc__law_cube_by (λvs H Q E h=>?_) (λcdv A outer s H vs Q E hr h=>?_)
 ·obtain⟨x,y,mm,rfl,_⟩:=h;rfl
 ·obtain⟨x,y,mm,rfl,k⟩:=h;obtain⟨x1,x2⟩:=cX (x:=x) (m:=19) (by decide);obtain⟨y1,y2⟩:=cX (x:=y) (m:=7) (by decide);obtain⟨z1,z2⟩:=cX (x:=y/7) (m:=7) (by decide);obtain⟨m1,m2⟩:=cX (x:=mm) (m:=6) (by decide)
  refine⟨_,(af (aj (i:=3) sc__law_cube_by.nd rfl (Or.inl rfl) (aq oa (hr.mono) rfl lX my nM .nil al (aa (pv 0) (aa ac ad))))
   (af (aj (i:=4) sc__law_cube_by.nd rfl (Or.inl rfl) (aq oa (hr.mono) rfl lX my nM .nil al (aa (pv 1) (aa ac ad))))
   (af (aj (i:=5) sc__law_cube_by.nd rfl (Or.inl rfl) (aq oa (hr.mono) rfl lX my nM .nil al (aa (ag iW (pv 1) ac) (aa ac ad))))
   (af (aP (PW.pt (c9 (aC bS (pv 4) ac (aw _)) (du (aC bS (pv 5) ac (aw _)))))
     (ai (aj (i:=4) sc__law_cube_by.nd rfl (Or.inl rfl) ac))
     aO)
   (ai (au (cz (aa (pv 3) (aa (pv 4) (aa (pv 5) (aa (am (bj (K:=K) rfl) (bz (aa ac (aa ac (aa ac (aa ac (aa ac (aa ac ad))))))) (ag cj (pv 2) ac) (λ_ _=>rfl)) (aa ac ad)))))))))))),?_⟩
  refine ax ⟨_,rfl,x,9,rfl,by decide,bZ (by decide) (by decide),?_⟩;refine ax ⟨_,rfl,y,3,rfl,by decide,bZ (by decide) (by decide),?_⟩;refine ax ⟨_,rfl,_,_,rfl,rfl,⟨by show(0:Int)<7;decide,bZ (by decide) (by decide)⟩,y/7,3,rfl,by decide,bZ (by decide) (by decide),?_⟩;show bU _ _ _ _ _;refine qH (λσ' H'=>σ'=[some (.int x),some (.int y),some (.int mm),some (.int (x%19-9)),some (.int (y%7-3)),some (.int (y/7%7-3))]/\H=H') ⟨rfl,rfl⟩ ?_;rintro σ' H' ⟨rfl,rfl⟩;refine cS (λσ' H'=>∃b:Int,σ'=[some (.int x),some (.int y),some (.int mm),some (.int (x%19-9)),some (.int b),some (.int (y/7%7-3))]/\H=H' /\ -3<=b/\b<=3/\¬(b=0/\y/7%7-3=0)) ?_ ?_
  case refine_2 =>intro rest;refine dr ⟨_,rfl,_,_,rfl,rfl,_,rfl,aG (λh1=>?_) (λh1=>bG (rest _ _ ⟨_,rfl,rfl,by omega,by omega,λz=>h1 z.1⟩))⟩;refine⟨_,rfl,_,_,rfl,rfl,_,rfl,aG (λh2=>?_) (λh2=>rest _ _ ⟨_,rfl,rfl,by omega,by omega,λz=>h2 z.2⟩)⟩;exact rest _ _ ⟨1,rfl,rfl,by decide,by decide,λz=>absurd z.1 (by decide)⟩
  rintro σ' H' ⟨b,rfl,rfl,b1,b2,hbc⟩
  have hat:atI [V.int 2,V.int 3,V.int 4,V.int 5,V.int 6,V.int 7] (mm%6)=some (V.int (2+mm%6)):=by
   have:mm%6=0\/mm%6=1\/mm%6=2\/mm%6=3\/mm%6=4\/mm%6=5:=by omega
   rcases this with e |e |e |e |e |e<;>rw[e]<;>rfl
  refine aY ⟨_,rfl,_,rfl,_,rfl,by show 6<=sizeLine;decide,λq hq=>?_⟩;refine⟨_,rfl,_,_,rfl,rfl,(by show(0:Int)<6;decide),q,_,_,_,rfl,rfl,SqL.of ar,hat,by show 5<=sizeLine;decide,λp hp=>?_⟩;have s1:Same H (upd H q (.lst [V.int 2,V.int 3,V.int 4,V.int 5,V.int 6,V.int 7])):=Same.upd_new hq;exact k p _ b _ _ (s1.then_new hp) (s1.free hp) ar ⟨by omega,⟨b1,b2⟩,by omega,by omega,by omega,hbc⟩
structure CubB(a b c m:Int):Prop where
 a9 : -9<=a/\a<=9
 b3 : -3<=b/\b<=3
 c3 : -3<=c/\c<=3
 m2:2<=m
 m7:m<=7
theorem wC{l:List Int}(h:SpK l):(∃a b c m:Int,l=[a,b,c,m,0]/\CubB a b c m)\/SpB l:=by
 rcases h with⟨a,b,c,m,rfl,hC⟩ |⟨a,rfl,h1,h2⟩ |⟨u,e,b,s,rfl,h1,h2,he,he',hb,hb',_⟩
 ·exact .inl ⟨a,b,c,m,rfl,hC.a9,hC.b3,hC.c3,hC.m2,hC.m7⟩
 ·exact .inl ⟨a,0,0,2,rfl,⟨h1,h2⟩,by decide,by decide,by decide,by decide⟩
 ·exact .inr ⟨u,e,b,s,rfl,by omega,by omega,he,he',hb,hb'⟩
def jT:Sp:=λvs H Q _=>∃(p:Addr) (l:List Int) (t n:Int),vs=[.ref p,.int t,.int n]/\H p=some (.tup (l.map V.int))/\SpK l/\Bits 900 t/\Bits 900 n/\Q (.int (bT l t n)) H
theorem zo(F:Fun K "_law_way" "_law_way" kI f fd)(T:Txt K mg)(oy:Cal P w K mg base 1 "_law_norm" ["_law_a","_law_b","_law_c","_law_m"] jV CH Cr)(ET:Cal P w K mg base 2 "_law_side" ["_law_spot","_law_top","_law_bottom"] pA Go FB):FnOk P w K mg base CX0 3 f fd ["_law_spot","_law_top","_law_bottom"] jT:=by
 obtain⟨oe,lY,mz,nN⟩:=oy;obtain⟨Ej,AK,Br,DK⟩:=ET;refine F.ok sc__law_way (λvs H Q E h=>?_) (λcdv A outer s H vs Q E hr h=>?_)
 ·obtain⟨p,l,t,n,rfl,_⟩:=h;rfl
 ·obtain⟨p,l,t,n,rfl,hp,hl,bt,bn,k⟩:=h
  refine⟨_,(af (aP (aC bS (aJ (aV (K:=K) rfl) (by rfl) T.len_ PySem.boot_len (aa (pv 0) ad)) ac (aw _))
   (af (aj (i:=3) sc__law_way.nd rfl (Or.inl rfl) (ag aW (ag aI (am (aB (K:=K) rfl) (pv 0) ac (λ_ _=>rfl)) (pv 2)) (pv 1)))
     (af (aj (i:=4) sc__law_way.nd rfl (Or.inl rfl) (ag aI (am (aB (K:=K) rfl) (pv 0) ac (λ_ _=>rfl)) (pv 2)))
     (ai (au (aq oe (hr.mono) rfl lY mz nN .nil al (aa (pv 3) (aa (pv 4) (aa (ag aI (am (aB (K:=K) rfl) (pv 0) ac (λ_ _=>rfl)) (pv 2)) (aa (am (aB (K:=K) rfl) (pv 0) ac (λ_ _=>rfl)) ad)))))))))
   aO)
   (ai (au (aq Ej (hr.mono) rfl AK Br DK .nil al (aa (pv 0) (aa (pv 1) (aa (pv 2) ad))))))),?_⟩
  rcases wC hl with⟨a,b,c,m,rfl,hC⟩ |hB
  ·have ba:Bits 10 a:=bZ (by have:=hC.a9;omega) (by decide);have bb:Bits 10 b:=bZ (by have:=hC.b3;omega) (by decide);have bc:Bits 10 c:=bZ (by have:=hC.c3;omega) (by decide);have bm:Bits 10 m:=bZ (by have:=hC.m2;have:=hC.m7;omega) (by decide);refine bI ⟨_,rfl,p,_,rfl,.inr (SqT.of hp),_,_,rfl,rfl,_,rfl,aG (λ_=>?_) (λz=>absurd rfl z)⟩;refine ax ⟨_,rfl,p,_,_,_,rfl,rfl,SqT.of hp,rfl,_,rfl,_,_,rfl,rfl,⟨ba.mono,bn.mono⟩,_,rfl,_,_,rfl,rfl,?_⟩;refine ax ⟨_,rfl,p,_,_,_,rfl,rfl,SqT.of hp,rfl,_,rfl,_,_,rfl,rfl,⟨bb.mono,bn.mono⟩,?_⟩;refine aY ⟨_,rfl,_,rfl,_,rfl,p,_,_,_,rfl,rfl,SqT.of hp,rfl,_,rfl,_,_,rfl,rfl,⟨bc.mono,bn.mono⟩,_,rfl,p,_,_,_,rfl,rfl,SqT.of hp,rfl,_,_,_,_,rfl,?_,?_,?_,bm,k⟩
   ·exact(((ba.mul bn).mono (k:=910) (by decide)).sub (bt.mono)).mono
   ·exact(bb.mul bn).mono
   ·exact(bc.mul bn).mono
  ·obtain⟨u,e,b,s,rfl,_⟩:=id hB;refine bI ⟨_,rfl,p,_,rfl,.inr (SqT.of hp),_,_,rfl,rfl,_,rfl,aG (λz=>absurd z (by show ¬((4:Nat):Int)=5;decide)) (λ_=>?_)⟩;exact aY ⟨_,rfl,_,rfl,_,rfl,p,_,t,n,rfl,hp,hB,bt.mono,bn.mono,k⟩
def ST(H:Hp)(t:Addr)(s:Int×Int×Int):Prop:=H t=some (.tup [.int s.1,.int s.2.1,.int s.2.2])
theorem jX{l:List Int}{s:Int×Int×Int}{j:Nat}(S:SpG l s j)(hj:j<=300):Bits 310 s.1/\Bits 310 s.2.1/\Bits 310 s.2.2:=by
 have h1:s.2.2<=2^300:=by
  rw[S.n];have:(2:Nat)^j<=2^300:=IW (by decide) hj;have e:∀k:Nat,((2:Int)^k)=((2^k:Nat):Int):=λk=>by rw[Int.natCast_pow];rfl
  rw[e,e];exact Int.ofNat_le.mpr this
 have h2:=S.pos;have h3:=S.lo;have h4:=S.hi;have h5:=S.w;refine⟨?_,?_,?_⟩
 ·show s.1.natAbs<2^310;omega
 ·show s.2.1.natAbs<2^310;omega
 ·show s.2.2.natAbs<2^310;omega
def pY:Sp:=λvs H Q _=>∃(a p t:Addr) (ws:List Addr) (l:List Int) (ls:List (List Int)) (s:Int×Int×Int),vs=[.ref a,.ref p,.ref t]/\H a=some (.lst (ws.map V.ref))/\TuH H ws ls/\(∀x∈ls,SpK x)/\H p=some (.tup (l.map V.int))/\ST H t s/\Bits 310 s.1/\Bits 310 s.2.1/\Bits 310 s.2.2/\∀r:Bool,(r=true↔cQ ls l s)->Q (.bl r) H
theorem zN(F:Fun K "_law_alone" "_law_alone" iQ f fd)(T:Txt K mg)(ox:Cal P w K mg base 3 "_law_way" ["_law_spot","_law_top","_law_bottom"] jT CG Cq):FnOk P w K mg base CX0 4 f fd ["_law_spots","_law_spot","_law_span_here"] pY:=by
 obtain⟨jK,je,jj,jG⟩:=ox;refine F.ok sc__law_alone (λvs H Q E h=>?_) (λcdv A outer s H vs Q E hr h=>?_)
 ·obtain⟨a,p,t,ws,l,ls,s,rfl,_⟩:=h;rfl
 ·obtain⟨a,p,t,ws,l,ls,sp,rfl,hl,hT,hK,hp,ht,b1,b2,b3,k⟩:=h;have hu2:(A.deeper (PyProof.Rows.envOfC (Str.ofString "_law_alone") (av iQ) s.heap.objs.size f cdv)).units+66<cLine:=by have:=hr.un;omega
  have w1:Bits 900 sp.1:=b1.mono;have w2:Bits 900 sp.2.1:=b2.mono;have w3:Bits 900 sp.2.2:=b3.mono
  refine⟨_,(af (bP PassesOwn.never rfl (cy (K:=K) rfl (pv 0)) (aR (i:=3) sc__law_alone.nd rfl (Or.inl rfl))
   (af (aj (i:=4) sc__law_alone.nd rfl (Or.inl rfl) (aq jK (hr.mono) rfl je jj jG .nil al (aa (pv 3) (aa (am (aB (K:=K) rfl) (pv 2) ac (λ_ _=>rfl)) (aa (am (aB (K:=K) rfl) (pv 2) ac (λ_ _=>rfl)) ad)))))
     (af (aj (i:=5) sc__law_alone.nd rfl (Or.inl rfl) (aq jK (hr.mono) rfl je jj jG .nil al (aa (pv 3) (aa (am (aB (K:=K) rfl) (pv 2) ac (λ_ _=>rfl)) (aa (am (aB (K:=K) rfl) (pv 2) ac (λ_ _=>rfl)) ad)))))
     (ai (aP (PW.pt (c9 (aC (yK (K:=K) rfl hu2) (pv 3) (pv 1) (aw _)) (c9 (aC lE (pv 4) ac (aw _)) (du (aC gJ (pv 5) ac (aw _))))))
       (ai (au cn))
       aO)))))
   (ai (au cn))),?_⟩
  refine⟨_,rfl,a,rfl,⟨_,SqL.of hl⟩,df (K:=K) (a:=a) (xs:=ws.map V.ref) (λi σ' H'=>∃z3 z4 z5:Option V,σ'=[some (.ref a),some (.ref p),some (.ref t),z3,z4,z5]/\H=H'/\cQ (ls.take i) l sp) ⟨none,none,none,rfl,rfl,λx hx=>(nomatch hx)⟩ ?_ ?_ ?_⟩
  ·rintro i σ' H' _ ⟨z3,z4,z5,rfl,rfl,_⟩;exact SqL.of hl
  ·rintro i x σ' H' hi ⟨z3,z4,z5,rfl,rfl,hx⟩;obtain⟨q,y,rfl,eq,ey,hq,hlt⟩:=hT.of_get hi;have hy:=hK y (List.mem_of_getElem? ey);refine ax ⟨_,rfl,_,rfl,t,_,_,_,rfl,rfl,SqT.of ht,rfl,_,rfl,t,_,_,_,rfl,rfl,SqT.of ht,rfl,q,y,_,_,rfl,hq,hy,w1,w3,?_⟩;refine ax ⟨_,rfl,_,rfl,t,_,_,_,rfl,rfl,SqT.of ht,rfl,_,rfl,t,_,_,_,rfl,rfl,SqT.of ht,rfl,q,y,_,_,rfl,hq,hy,w2,w3,?_⟩
   have go:(y≠l->¬(0<=bT y sp.1 sp.2.2/\bT y sp.2.1 sp.2.2<=0))->cQ (ls.take (i+1)) l sp:=λhn x hm=>by
    rw[HM,ey]at hm;rcases HK.mp hm with h |h
    ·exact hx x h
    ·rw[G1.mp h];exact hn
   refine fO (dr ⟨_,rfl,_,rfl,q,p,_,_,rfl,rfl,SqT.of hq,SqT.of hp,_,rfl,b9 (λne=>?_) (λz=>bG ⟨_,_,_,rfl,rfl,go λy=>absurd z y⟩)⟩);refine dr ⟨_,rfl,_,_,rfl,rfl,_,rfl,aG (λh1=>?_) (λh1=>bG ⟨_,_,_,rfl,rfl,go λ_ z=>h1 z.1⟩)⟩;refine⟨_,rfl,_,_,rfl,rfl,_,rfl,aG (λh2=>?_) (λh2=>⟨_,_,_,rfl,rfl,go λ_ z=>h2 z.2⟩)⟩;exact aY (k false ⟨λz=>Bool.noConfusion z,λz=>absurd ⟨h1,h2⟩ (z y (List.mem_of_getElem? ey) ne)⟩)
  ·rintro σ' H' ⟨z3,z4,z5,rfl,rfl,hx⟩;rw[GO,hT.1,HB]at hx;exact k true ⟨λ_=>hx,λ_=>rfl⟩
def pQ:Sp:=λvs H Q _=>∃(t p:Addr) (l:List Int) (s:Int×Int×Int) (j:Nat),vs=[.ref t,.ref p]/\ST H t s/\H p=some (.tup (l.map V.int))/\SpK l/\SpG l s j/\j<=300/\∀(t':Addr) (H':Hp),Same H H'->H t'=none->ST H' t' (hfG l s)->Q (.ref t') H'
theorem zE(F:Fun K "_law_half" "_law_half" kU f fd)(T:Txt K mg)(ox:Cal P w K mg base 3 "_law_way" ["_law_spot","_law_top","_law_bottom"] jT CG Cq):FnOk P w K mg base CX0 4 f fd ["_law_span_here","_law_spot"] pQ:=by
 obtain⟨jK,je,jj,jG⟩:=ox;refine F.ok sc__law_half (λvs H Q E h=>?_) (λcdv A outer s H vs Q E hr h=>?_)
 ·obtain⟨t,p,l,s,j,rfl,_⟩:=h;rfl
 ·obtain⟨t,p,l,sp,j,rfl,ht,hp,hl,S,hj,k⟩:=h;obtain⟨b1,b2,b3⟩:=jX S hj;have b2':Bits 2 (2:Int):=by show(2:Int).natAbs<2^2;decide
  have M:∀{x:Int},Bits 310 x->Bits 1000000 x:=λh=>h.mono
  have M2:Bits 1000000 (2:Int):=b2'.mono
  refine⟨_,(af (aj (i:=2) sc__law_half.nd rfl (Or.inl rfl) (ag bh (am (aB (K:=K) rfl) (pv 0) ac (λ_ _=>rfl)) (am (aB (K:=K) rfl) (pv 0) ac (λ_ _=>rfl))))
   (af (aP (aC gJ (aq jK (hr.mono) rfl je jj jG .nil al (aa (pv 1) (aa (pv 2) (aa (ag aI ac (am (aB (K:=K) rfl) (pv 0) ac (λ_ _=>rfl))) ad)))) ac (aw _))
     (ai (au (cz (aa (ag aI ac (am (aB (K:=K) rfl) (pv 0) ac (λ_ _=>rfl))) (aa (pv 2) (aa (ag aI ac (am (aB (K:=K) rfl) (pv 0) ac (λ_ _=>rfl))) ad))))))
     aO)
   (ai (au (cz (aa (pv 2) (aa (ag aI ac (am (aB (K:=K) rfl) (pv 0) ac (λ_ _=>rfl))) (aa (ag aI ac (am (aB (K:=K) rfl) (pv 0) ac (λ_ _=>rfl))) ad)))))))),?_⟩
  refine ax ⟨_,rfl,t,_,_,_,rfl,rfl,SqT.of ht,rfl,_,rfl,t,_,_,_,rfl,rfl,SqT.of ht,rfl,_,_,rfl,rfl,?_⟩;refine bI ⟨_,rfl,_,rfl,_,rfl,t,_,_,_,rfl,rfl,SqT.of ht,rfl,_,_,rfl,rfl,⟨M2,M b3⟩,p,l,_,_,rfl,hp,hl,(b1.add b2).mono,(b2'.mul b3).mono,_,_,rfl,rfl,_,rfl,aG (λh1=>?_) (λh1=>?_)⟩
  ·refine aY ⟨_,rfl,t,_,_,_,rfl,rfl,SqT.of ht,rfl,_,_,rfl,rfl,⟨M2,M b1⟩,_,rfl,_,rfl,t,_,_,_,rfl,rfl,SqT.of ht,rfl,_,_,rfl,rfl,⟨M2,M b3⟩,by show 3<=sizeLine;decide,λt' ht'=>k t' _ (Same.upd_new ht') ht' ?_⟩;unfold ST hfG;rw[if_pos h1];exact ar
  ·refine aY ⟨_,rfl,_,rfl,t,_,_,_,rfl,rfl,SqT.of ht,rfl,_,_,rfl,rfl,⟨M2,M b2⟩,_,rfl,t,_,_,_,rfl,rfl,SqT.of ht,rfl,_,_,rfl,rfl,⟨M2,M b3⟩,by show 3<=sizeLine;decide,λt' ht'=>k t' _ (Same.upd_new ht') ht' ?_⟩;unfold ST hfG;rw[if_neg h1];exact ar
def pq:Sp:=λvs H Q _=>∃(a p:Addr) (more:Int) (ws:List Addr) (P l:List Int) (ls:List (List Int)),vs=[.ref a,.ref p,.int more]/\0<=more/\more<=20/\H a=some (.lst (ws.map V.ref))/\TuH H ws ls/\H p=some (.tup (l.map V.int))/\l∈ls/\Fel P ls/\∀(t:Addr) (H':Hp) (s:Int×Int×Int) (j:Nat),Same H H'->H t=none->ST H' t s->SpG l s j->cQ ls l s->j<=230->Q (.ref t) H'
theorem zr(F:Fun K "_law_span" "_law_span" kL f fd)(T:Txt K mg)(E9:Cal P w K mg base 4 "_law_alone" ["_law_spots","_law_spot","_law_span_here"] pY GD FP)(EZ:Cal P w K mg base 4 "_law_half" ["_law_span_here","_law_spot"] pQ Gv FH):FnOk P w K mg base CX0 5 f fd ["_law_spots","_law_spot","_law_more"] pq:=by
 obtain⟨Es,AT,BA,DS⟩:=E9;obtain⟨vJ,sG,tu,vn⟩:=EZ;refine F.ok sc__law_span (λvs H Q E h=>?_) (λcdv A outer s H vs Q E hr h=>?_)
 ·obtain⟨a,p,more,ws,P,l,ls,rfl,_⟩:=h;rfl
 ·obtain⟨a,p,more,ws,PP,l,ls,rfl,m0,m9,ha,hT,hp,hl,hF,k⟩:=h;have big:=sizeLine_eq;have hk:=hF.sp l hl
  refine⟨_,(af (aj (i:=3) sc__law_span.nd rfl (Or.inl rfl) (cz (aa (ce b8 ac) (aa ac (aa ac ad)))))
   (af (fS PassesOwn.never (cv (cu (aq Es (hr.mono) rfl AT BA DS .nil al (aa (pv 0) (aa (pv 1) (aa (pv 3) ad))))))
     (ai (aj (i:=3) sc__law_span.nd rfl (Or.inl rfl) (aq vJ (hr.mono) rfl sG tu vn .nil al (aa (pv 3) (aa (pv 1) ad))))))
   (af (bP PassesOwn.never rfl (fV rfl T.range_ (aa (pv 2) ad)) (aR (i:=4) sc__law_span.nd rfl (Or.inl rfl))
     (ai (aj (i:=3) sc__law_span.nd rfl (Or.inl rfl) (aq vJ (hr.mono) rfl sG tu vn .nil al (aa (pv 3) (aa (pv 1) ad))))))
   (ai (au (pv 3)))))),?_⟩
  refine ax ⟨_,rfl,by show 3<=sizeLine;decide,λt0 h0=>?_⟩;have s1:=Same.upd_new (o:=.tup [.int (-64),.int 64,.int 1]) h0;have e1:ST (upd H t0 (.tup [.int (-64),.int 64,.int 1])) t0 (itG l 0):=ar;show bU _ _ _ _ (upd H t0 (.tup [.int (-64),.int 64,.int 1]));generalize upd H t0 (.tup [.int (-64),.int 64,.int 1])=H1 at s1 e1 ⊢
  refine⟨λn σ' H'=>∃(t:Addr) (j:Nat),σ'=[some (.ref a),some (.ref p),some (.int more),some (.ref t),none]/\Same H H'/\H t=none/\ST H' t (itG l j)/\j<=207/\207-j=n,⟨207,t0,0,rfl,s1,h0,e1,by decide,rfl⟩,?_⟩;rintro n σ' H2 ⟨t,j,rfl,s2,ht,et,hj,rfl⟩;have S:=gb hk j;obtain⟨b1,b2,b3⟩:=jX S (by omega);refine cx ⟨_,rfl,_,rfl,_,rfl,a,p,t,ws,l,ls,_,rfl,s2 _ _ ha,hT.same s2,hF.sp,s2 _ _ hp,et,b1,b2,b3,λr hr'=>⟨_,rfl,?_⟩⟩;cases r with
  |false =>
   refine cR ?_;have hj':j<207:=Nat.lt_of_not_le λz=>Bool.noConfusion (hr'.mpr (hF.far hl S z))
   refine⟨λσ'' H''=>∃n',n'<207-j/\∃(t:Addr) (j:Nat),σ''=[some (.ref a),some (.ref p),some (.int more),some (.ref t),none]/\Same H H''/\H t=none/\ST H'' t (itG l j)/\j<=207/\207-j=n',λ_ _ h=>h,?_⟩;refine cq ⟨_,rfl,_,rfl,t,p,l,_,j,rfl,et,s2 _ _ hp,hk,S,by omega,λt' H' s' ht' et'=>?_⟩;exact⟨207-(j+1),by omega,t',j+1,rfl,s2.trans s',s2.free ht',et',by omega,rfl⟩
  |true =>
   refine bG ?_;have A0:cQ ls l (itG l j):=hr'.mp rfl;have em:((more.toNat:Nat):Int)=more:=Int.toNat_of_nonneg m0;refine⟨_,rfl,more.toNat,by rw[em],by omega,by omega,mL (lo:=0) (n:=more.toNat) (λi σ' H'=>∃(t:Addr) (z:Option V),σ'=[some (.ref a),some (.ref p),some (.int more),some (.ref t),z]/\Same H H'/\H t=none/\ST H' t (itG l (j+i))/\cQ ls l (itG l (j+i))) ⟨t,none,rfl,s2,ht,et,A0⟩ ?_ ?_⟩
   ·rintro i σ' H3 hi ⟨t,z,rfl,s3,ht,et,hA⟩;refine cq ⟨_,rfl,_,rfl,t,p,l,_,j+i,rfl,et,s3 _ _ hp,hk,gb hk _,by omega,λt' H' s' ht' et'=>?_⟩;exact⟨t',_,rfl,s3.trans s',s3.free ht',et',hF.half hl (gb hk _) hA⟩
   ·rintro σ' H3 ⟨t,z,rfl,s3,ht,et,hA⟩;exact⟨_,rfl,k t H3 _ _ s3 ht et (gb hk _) hA (by omega)⟩
theorem ux(t b:Int){l:List Int}{n:Nat}(h:n<l.length):lv t b (l.drop n)=cf l n*b^(l.length-(n+1))+t*lv t b (l.drop (n+1)):=by rw[Ja h];show l[n]*b^(l.drop (n+1)).length+t*lv t b (l.drop (n+1))=_;rw[ck h,Ik]
theorem AW{t b:Int}(bt:Bits 400 t)(bb:Bits 400 b)(b0:b≠0){l:List Int}(h:AllB 95000 l):Bits (95001+401*l.length) (lv t b l):=by have h1:=mI bt bb h;rw[mG]at h1;refine h1.of_le ?_;rw[Hj];exact IK _ (HW.mpr b0)
def pX:Sp:=λvs H Q _=>∃(a:Addr) (ns:List Int) (t b:Int),vs=[.ref a,.int t,.int b]/\H a=some (.lst (ns.map V.int))/\ns.length<=20/\AllB 95000 ns/\Bits 400 t/\Bits 400 b/\0<b/\Q (.int (lv t b ns)) H
theorem zM(F:Fun K "_law_at" "_law_at" ld f fd)(T:Txt K mg):FnOk P w K mg base CX0 1 f fd ["_law_kp","_law_top","_law_bottom"] pX:=by
 refine F.ok sc__law_at (λvs H Q E h=>?_) (λcdv A outer s H vs Q E hr h=>?_)
 ·obtain⟨a,ns,t,b,rfl,_⟩:=h;rfl
 ·obtain⟨a,ns,t,b,rfl,hA,hn,hb,bt,bb,b0,k⟩:=h
  refine⟨_,(af (aj (i:=3) sc__law_at.nd rfl (Or.inl rfl) ac)
   (af (aj (i:=4) sc__law_at.nd rfl (Or.inl rfl) ac)
   (af (bP PassesOwn.never rfl (rA rfl T.reversed_ (aa (pv 0) ad)) (aR (i:=5) sc__law_at.nd rfl (Or.inl rfl))
     (af (aj (i:=3) sc__law_at.nd rfl (Or.inl rfl) (ag bh (ag aI (pv 3) (pv 1)) (ag aI (pv 5) (pv 4))))
       (ai (aj (i:=4) sc__law_at.nd rfl (Or.inl rfl) (ag aI (pv 4) (pv 2))))))
   (ai (au (pv 3)))))),?_⟩
  have hl:(ns.map V.int).length=ns.length:=GO _;refine ax ?_;refine ax ?_;refine⟨_,rfl,a,_,rfl,SqL.of hA,tU (K:=K) (a:=a) (xs:=ns.map V.int) (λi σ' H'=>∃z:Option V,σ'=[some (.ref a),some (.int t),some (.int b),some (.int (lv t b (ns.drop (ns.length-i)))),some (.int (b^i)),z]/\H=H') ⟨none,?_,rfl⟩ ?_ ?_ ?_⟩
  ·rw[H0,List.drop_length,Int.pow_zero];rfl
  ·rintro i σ' H' _ ⟨z,rfl,rfl⟩;exact SqL.of hA
  ·rintro i x σ' H' hi hx ⟨z,rfl,rfl⟩;rw[hl]at hi hx;obtain⟨c,ec,rfl,hc,_⟩:=dE hx;have hi':i<ns.length:=hi;have e1:ns.length-(i+1)=ns.length-1-i:=by omega
   have hd:=ux t b (l:=ns) (n:=ns.length-1-i) (by omega);have e2:ns.length-1-i+1=ns.length-i:=by omega
   have e3:ns.length-(ns.length-i)=i:=by omega
   rw[e2,e3,nj ec]at hd;have bs:=AW bt bb (by omega) (l:=ns.drop (ns.length-i)) λx hx=>hb x (List.mem_of_mem_drop hx)
   rw[Ik]at bs;have bp:=eD bb i;refine ax ⟨_,rfl,_,rfl,_,_,rfl,rfl,⟨bs.mono (by omega),bt.mono⟩,_,rfl,_,rfl,_,_,rfl,rfl,⟨(hb c hc).mono,bp.mono (by omega)⟩,_,_,rfl,rfl,?_⟩;refine cq ⟨_,rfl,_,rfl,_,_,rfl,rfl,⟨bp.mono (by omega),bb.mono⟩,some (.int c),?_,rfl⟩;rw[e1,hd,Hq b i,Int.add_comm,Hv t];rfl
  ·rintro σ' H' ⟨z,rfl,rfl⟩;rw[hl,Nat.sub_self,IT];exact⟨_,rfl,k⟩
theorem wZ{t b:Int}(hb:0<b)(l:List Int):sg (hv t b l)=sg (lv t b l):=by rw[mG,eT,show sg b=1 from by unfold sg;rw[if_neg (by omega),if_pos hb],G9]
theorem chg_sg{here last:Int}:(sg here*sg last<0↔(last<0/\0<here)\/(0<last/\here<0)):=by rcases qu here with⟨a,e⟩ |⟨a,e⟩ |⟨a,e⟩<;>rcases qu last with⟨b,e'⟩ |⟨b,e'⟩ |⟨b,e'⟩<;>rw[e,e']<;>omega
def pN:Sp:=λvs H Q _=>∃(l:Addr) (ps:List Addr) (r:List (List Int)) (t b:Int),vs=[.ref l,.int t,.int b]/\H l=some (.lst (ps.map V.ref))/\RwH H ps r/\RwB r/\Bits 400 t/\Bits 400 b/\0<b/\Q (.int (chS (sgs t b r)).1) H
theorem zK(F:Fun K "_law_changes" "_law_changes" k8 f fd)(T:Txt K mg)(E8:Cal P w K mg base 1 "_law_at" ["_law_kp","_law_top","_law_bottom"] pX GC FO):FnOk P w K mg base CX0 2 f fd ["_law_row","_law_top","_law_bottom"] pN:=by
 obtain⟨Er,AS,Bz,DR⟩:=E8;refine F.ok sc__law_changes (λvs H Q E h=>?_) (λcdv A outer s H vs Q E hr h=>?_)
 ·obtain⟨l,ps,r,t,b,rfl,_⟩:=h;rfl
 ·obtain⟨l,ps,r,t,b,rfl,hL,hR,hB,bt,bb,b0,k⟩:=h
  refine⟨_,(af (aj (i:=3) sc__law_changes.nd rfl (Or.inl rfl) ac)
   (af (aj (i:=4) sc__law_changes.nd rfl (Or.inl rfl) ac)
   (af (bP PassesOwn.never rfl (cy (K:=K) rfl (pv 0)) (aR (i:=5) sc__law_changes.nd rfl (Or.inl rfl))
     (af (aj (i:=6) sc__law_changes.nd rfl (Or.inl rfl) (aq Er (hr.mono) rfl AS Bz DR .nil al (aa (pv 5) (aa (pv 1) (aa (pv 2) ad)))))
       (ai (aP (aC da (pv 6) ac (aw _))
         (af (aP (PW.pt (bO (PW.pt (c9 (aC cC (pv 4) ac (aw _)) (du (aC cW (pv 6) ac (aw _))))) (cr (PW.pt (c9 (aC cW (pv 4) ac (aw _)) (du (aC cC (pv 6) ac (aw _))))))))
           (ai (aj (i:=3) sc__law_changes.nd rfl (Or.inl rfl) (ag bh (pv 3) ac)))
           aO)
           (ai (aj (i:=4) sc__law_changes.nd rfl (Or.inl rfl) (pv 6))))
         aO))))
   (ai (au (pv 3)))))),?_⟩
  have hpl:(ps.map V.ref).length=r.length:=by rw[GO,hR.1]
  refine ax ?_;refine ax ?_;refine⟨_,rfl,l,rfl,⟨_,SqL.of hL⟩,df (K:=K) (a:=l) (xs:=ps.map V.ref) (λi σ' H'=>∃(last:Int) (z5 z6:Option V),σ'=[some (.ref l),some (.int t),some (.int b),some (.int (chS (sgs t b (r.take i))).1),some (.int last),z5,z6]/\H=H'/\sg last=(chS (sgs t b (r.take i))).2) ⟨0,none,none,rfl,rfl,rfl⟩ ?_ ?_ ?_⟩
  ·rintro i σ' H' _ ⟨last,z5,z6,rfl,rfl,_⟩;exact SqL.of hL
  ·rintro i x σ' H' hi ⟨last,z5,z6,rfl,rfl,hs⟩;obtain⟨p,xs,rfl,ep,ex,hp,hlt⟩:=hR.of_get hi;obtain⟨hx1,hx2⟩:=hB xs (List.mem_of_getElem? ex);show bU (eL _ (dY 6)) _ _ _ _;refine ax ⟨_,rfl,_,rfl,_,rfl,p,xs,t,b,rfl,hp,hx1,hx2,bt,bb,b0,?_⟩;rw[qq ex,m8,wZ b0];generalize lv t b xs=here;generalize chS (sgs t b (r.take i))=z at hs ⊢
   obtain⟨m,bf⟩:=z;dsimp only at hs ⊢
   subst hs;refine fO ⟨_,rfl,_,_,rfl,rfl,_,rfl,b9 (λh1=>?_) (λh1=>?_)⟩
   ·have h1':¬here=0:=h1;have h0:¬sg here=0:=λz=>h1' ((wV here).mp z)
    refine cS (λσ' H'=>σ'=[some (.ref l),some (.int t),some (.int b),some (.int (if sg here*sg last<0 then m+1 else m)),some (.int last),some (.ref p),some (.int here)]/\H=H') ?_ ?_
    case refine_2 =>
     intro rest;have no:¬((last<0/\0<here)\/(0<last/\here<0))->_:=λh=>rest [some (.ref l),some (.int t),some (.int b),some (.int m),some (.int last),some (.ref p),some (.int here)] H ⟨by rw[if_neg λz=>h (chg_sg.mp z)],rfl⟩
     refine bV (dr ⟨_,rfl,_,_,rfl,rfl,_,rfl,aG (λq1=>?_) (λq1=>bG ?_)⟩)
     ·have q1':last<0:=q1;refine⟨_,rfl,_,_,rfl,rfl,_,rfl,aG (λq2=>cR (cq ⟨_,rfl,_,_,rfl,rfl,rest _ _ ⟨by rw[if_pos (chg_sg.mpr (.inl ⟨q1,q2⟩))];rfl,rfl⟩⟩)) (λq2=>?_)⟩;have q2':¬0<here:=q2;refine dr ⟨_,rfl,_,_,rfl,rfl,_,rfl,aG (λq3=>absurd q3 (by show ¬0<last;omega)) (λq3=>bG (no (by omega)))⟩
     ·have q1':¬last<0:=q1;refine dr ⟨_,rfl,_,_,rfl,rfl,_,rfl,aG (λq3=>?_) (λq3=>bG (no ?_))⟩
      ·refine⟨_,rfl,_,_,rfl,rfl,_,rfl,aG (λq4=>cq ⟨_,rfl,_,_,rfl,rfl,rest _ _ ⟨by rw[if_pos (chg_sg.mpr (.inr ⟨q3,q4⟩))];rfl,rfl⟩⟩) (λq4=>no ?_)⟩;have q4':¬here<0:=q4;omega
      ·have q3':¬0<last:=q3;omega
    rintro σ' H' ⟨rfl,rfl⟩;refine cq ⟨_,rfl,here,some (.ref p),some (.int here),?_,rfl,?_⟩
    ·rfl
    ·show sg here=if sg here=0 then _ else sg here
     rw[if_neg h0]
   ·have h1':here=0:=h1;subst h1';refine⟨last,some (.ref p),some (.int 0),?_,rfl,?_⟩
    ·show _=[_,_,_,some (V.int (if sg 0*sg last<0 then m+1 else m)),_,_,_];rw[show sg 0=0 from rfl,Ho,if_neg (by decide)];rfl
    ·show sg last=if sg 0=0 then sg last else sg 0
     rw[show sg 0=0 from rfl,if_pos rfl]
  ·rintro σ' H' ⟨last,z5,z6,rfl,rfl,_⟩;rw[hpl,HB];exact⟨_,rfl,k⟩
structure RwS(xs:List Int):Prop where
 tr:Tr xs
 ne:xs≠[]
 b:AllB 91260 xs
 l:xs.length<=7
theorem sM{a b:List Int}(ha:RwS a)(hb:RwS b):LkB (ga a b):=by
 have n7:aQ a b<=7:=by unfold aQ;have:=ha.l;have:=GQ.mpr hb.ne;omega
 obtain⟨d1,d2⟩:=mT ha.b hb.b (aQ a b);have mm:91260+aQ a b*(91260+1)<=91260+7*91261:=by have:=HI (91260+1) n7;omega
 refine⟨?_,?_,?_,?_⟩
 ·have:=eD (gj (hb.b.cf (b.length-1))) (aQ a b);refine Bits.mono this ?_;have:=IF 91260 n7;omega
 ·show Bits 900000 ((ak (aA a b):Nat):Int);have hr:AllB (91260+aQ a b*(91260+1)) (aA a b):=AllB.trim d2;by_cases z:aA a b=[]
  ·rw[z];exact Bits.zero
  ·have t:Tr (aA a b):=cL _;have h1:=GQ.mpr z;have h2:cf (aA a b) ((aA a b).length-1)≠0:=t _ (by omega);refine((hr.cf ((aA a b).length-1)).of_le (?_:(((ak (aA a b):Nat):Int)).natAbs<=_)).mono (by omega);rw[Hw];exact Nat.le_of_dvd (HW.mpr h2) (dvd_cf.mp (Ia _) _)
 ·exact AllB.mono d1 (by omega)
 ·show(aT a b).length<=1000;rw[mS hb.ne];omega
def pL:Sp:=λvs H Q _=>∃(p pa pb pc:Addr) (a b:List Int),vs=[.ref p,.ref pa,.ref pb,.ref pc]/\LkA H p (ga a b)/\H pa=some (.lst (a.map V.int))/\H pb=some (.lst (b.map V.int))/\H pc=some (.lst ((nxt a b).map V.int))/\RwS a/\RwS b/\RwS (nxt a b)/\b.length<=a.length/\∀H',Same H H'->Q (.bl true) H'
theorem zB(F:Fun K "_law_link_holds" "_law_link_holds" iN f fd)(T:Txt K mg)(ow:Cal P w K mg base 1 "_law_whole" ["_law_found"] jS CF Cp)(oz:Cal P w K mg base 2 "_law_is_poly" ["_law_found"] jW CI Cs)(ij:Cal P w K mg base 33 "_law_shrunk" ["_law_kp"] eQ ug uc)(Fa:Cal P w K mg base 2 "_law_add" ["_law_kp","_law_kq"] p6 GE FQ)(il:Cal P w K mg base 1 "_law_mul" ["_law_kp","_law_kq"] fI ui ue):FnOk P w K mg base CX0 34 f fd ["_law_link","_law_first","_law_second","_law_third"] pL:=by
 obtain⟨jJ,jd,ji,jF⟩:=ow;obtain⟨og,lZ,mB,nO⟩:=oz;obtain⟨ie,gO,gS,hG⟩:=ij;obtain⟨Et,AU,BB,DT⟩:=Fa;obtain⟨fC,ff,fi,fz⟩:=il;refine F.ok sc__law_link_holds (λvs H Q E h=>?_) (λcdv A outer s H vs Q E hr h=>?_)
 ·obtain⟨p,pa,pb,pc,a,b,rfl,_⟩:=h;rfl
 ·obtain⟨p,pa,pb,pc,a,b,rfl,⟨qa,hp,hq⟩,ha,hb,hc,sa,sb,sc,lab,k⟩:=h;have hu:(A.deeper (PyProof.Rows.envOfC (Str.ofString "_law_link_holds") (av iN) s.heap.objs.size f cdv)).units+64<cLine:=by have:=hr.un;omega
  have big:=sizeLine_eq;have L:=sL sa.tr sb.tr sb.ne sc.ne;obtain⟨B1,B2,B3,B4⟩:=sM sa sb
  replace B1:Bits 900000 (aS a b):=B1
  replace B2:Bits 900000 (ak (aA a b):Int):=B2
  replace B3:AllB 900000 (aT a b):=B3
  replace B4:(aT a b).length<=1000:=B4
  replace hp:H p=some (.tup [.int (aS a b),.ref qa,.int (ak (aA a b):Int)]):=hp
  replace hq:H qa=some (.lst ((aT a b).map V.int)):=hq
  have l3:((nxt a b).map V.int).length=(nxt a b).length:=GO _;have l2:(b.map V.int).length=b.length:=GO _;have l1:(a.map V.int).length=a.length:=GO _
  refine⟨_,(af (aP (PW.pt (bO (cv (cu (aJ (eC (K:=K) rfl) (by rfl) T.isinstance_ PyProof.Rows.boot_isinstance (aa (pv 0) (aa (dL (v:=.ty "tuple") (by rfl) T.tuple_ PyProof.Rows.boot_tuple (by rfl)) ad))))) (bO (aC da (aJ (aV (K:=K) rfl) (by rfl) T.len_ PySem.boot_len (aa (pv 0) ad)) ac (aw _)) (bO (cv (cu (aq jJ (hr.mono) rfl jd ji jF .nil al (aa (am (aB (K:=K) rfl) (pv 0) ac (λ_ _=>rfl)) ad)))) (cr (cv (cu (aq jJ (hr.mono) rfl jd ji jF .nil al (aa (am (aB (K:=K) rfl) (pv 0) ac (λ_ _=>rfl)) ad)))))))))
   (ai (au cn))
   aO)
   (af (aP (PW.pt (bO (cv (cu (aq og (hr.mono) rfl lZ mB nO .nil al (aa (am (aB (K:=K) rfl) (pv 0) ac (λ_ _=>rfl)) ad)))) (bO (aC lE (aJ (aV (K:=K) rfl) (by rfl) T.len_ PySem.boot_len (aa (pv 3) ad)) (aJ (aV (K:=K) rfl) (by rfl) T.len_ PySem.boot_len (aa (pv 2) ad)) (aw _)) (cr (aC (fb (K:=K) rfl hu) (aq ie (hr.mono) rfl gO gS hG .nil al (aa (pv 3) ad)) (pv 3) (aw _))))))
     (ai (au cn))
     aO)
   (af (aj (i:=4) sc__law_link_holds.nd rfl (Or.inl rfl) ac)
   (af (bP PassesOwn.never rfl (fV rfl T.range_ (aa (ag bh (ag aW (aJ (aV (K:=K) rfl) (by rfl) T.len_ PySem.boot_len (aa (pv 1) ad)) (aJ (aV (K:=K) rfl) (by rfl) T.len_ PySem.boot_len (aa (pv 2) ad))) ac) ad)) (aR (i:=5) sc__law_link_holds.nd rfl (Or.inl rfl))
     (ai (aj (i:=4) sc__law_link_holds.nd rfl (Or.inl rfl) (ag aI (pv 4) (aJ gi (by rfl) T.abs_ PyProof.Rows.boot_abs (aa (am (bj (K:=K) rfl) (pv 2) (ce b8 ac) (λ_ _=>rfl)) ad))))))
   (af (aj (i:=6) sc__law_link_holds.nd rfl (Or.inl rfl) (aq Et (hr.mono) rfl AU BB DT .nil al (aa (aq fC (hr.mono) rfl ff fi fz .nil al (aa (am (aB (K:=K) rfl) (pv 0) ac (λ_ _=>rfl)) (aa (pv 2) ad))) (aa (aq fC (hr.mono) rfl ff fi fz .nil al (aa (bz (aa (ag aW ac (am (aB (K:=K) rfl) (pv 0) ac (λ_ _=>rfl))) ad)) (aa (pv 3) ad))) ad))))
   (ai (au (fX (cV bS (am (aB (K:=K) rfl) (pv 0) ac (λ_ _=>rfl)) (pv 4) (aw _)) (fX (cV cW (am (aB (K:=K) rfl) (pv 0) ac (λ_ _=>rfl)) ac (aw _)) (gH (cV (fc (K:=K) rfl hu) (aq fC (hr.mono) rfl ff fi fz .nil al (aa (bz (aa (pv 4) ad)) (aa (pv 1) ad))) (pv 6) (aw _)))))))))))),?_⟩
  refine bI (bV (cx (fR (dG ⟨_,rfl,dU (.tup hp) (k:=true) (by rfl) ⟨_,rfl,bG ?_⟩⟩))));refine bV ⟨_,rfl,p,_,rfl,.inr (SqT.of hp),_,_,rfl,rfl,_,rfl,b9 (λz=>absurd rfl z) (λ_=>?_)⟩;refine bV (cx ⟨_,rfl,p,_,_,_,rfl,rfl,SqT.of hp,rfl,_,rfl,⟨_,rfl,bG ?_⟩⟩);refine cx ⟨_,rfl,p,_,_,_,rfl,rfl,SqT.of hp,rfl,_,rfl,⟨_,rfl,bG ?_⟩⟩;refine bI (bV (cx ⟨_,rfl,p,_,_,_,rfl,rfl,SqT.of hp,rfl,qa,_,rfl,hq,L.tq,⟨_,rfl,bG ?_⟩⟩));refine bV ⟨_,rfl,pc,_,rfl,.inl (SqL.of hc),_,rfl,pb,_,rfl,.inl (SqL.of hb),_,_,rfl,rfl,_,rfl,aG (λz=>?_) (λ_=>?_)⟩
  ·have z':((b.map V.int).length:Int)<=(((nxt a b).map V.int).length:Int):=z;have:=L.ln;omega
  refine⟨_,rfl,pc,_,rfl,hc,sc.tr,by have:=sc.l;omega,λp1 H1 s1 hp1 e1=>?_⟩;rw[L.sh]at e1;refine⟨_,rfl,p1,pc,_,_,rfl,rfl,SqL.of e1,SqL.of (s1 _ _ hc),_,rfl,b9 (λz=>absurd rfl z) (λ_=>?_)⟩;refine ax ?_;have hlast:=ia sb.ne;have hdn:((a.map V.int).length:Int)-((b.map V.int).length:Int)+1=(aQ a b:Int):=by unfold aQ;omega
  have dn7:aQ a b<=7:=by unfold aQ;have:=sa.l;have:=GQ.mpr sb.ne;omega
  refine⟨_,rfl,pa,_,rfl,.inl (SqL.of (s1 _ _ ha)),_,rfl,pb,_,rfl,.inl (SqL.of (s1 _ _ hb)),_,_,rfl,rfl,_,_,rfl,rfl,(aQ a b:Int),congrArg (λz:Int=>[V.int z]) hdn,by omega,by omega,mL (lo:=0) (n:=aQ a b) (λi σ' H'=>∃z5:Option V,σ'=[some (.ref p),some (.ref pa),some (.ref pb),some (.ref pc),some (.int (((cf b (b.length-1)).natAbs:Int)^i)),z5,none]/\H1=H') ⟨none,rfl,rfl⟩ ?_ ?_⟩
  ·rintro i σ' H' hi ⟨z5,rfl,rfl⟩;have bp:=eD (gj (sb.b.cf (b.length-1))) i;have mi:91260*i+1<=1000000:=by have:=IF 91260 (show i<=7 by omega);omega
   refine cq ⟨_,rfl,_,rfl,_,rfl,pb,_,_,_,rfl,rfl,SqL.of (s1 _ _ hb),hlast,_,rfl,_,_,rfl,rfl,⟨bp.mono mi,?_⟩,?_⟩
   ·rw[cZ];exact(gj (sb.b.cf (b.length-1))).mono
   ·refine⟨some (.int (0+(i:Int))),?_,rfl⟩;rw[Hq,<- cZ];rfl
  rintro σ' H' ⟨z5,rfl,rfl⟩;have ef:((cf b (b.length-1)).natAbs:Int)^aQ a b=aS a b:=rfl;rw[ef];dsimp only
  have hp1':=s1 _ _ hp;refine ax ⟨_,rfl,p,_,_,_,rfl,rfl,SqT.of hp1',rfl,_,rfl,qa,pb,aT a b,b,rfl,s1 _ _ hq,s1 _ _ hb,by omega,by have:=sb.l;omega,B3.mono,sb.b.mono,λm1 H2 s2 hm1 em1=>?_⟩;have t2:=s1.trans s2;refine⟨_,rfl,p,_,_,_,rfl,rfl,SqT.of (t2 _ _ hp),rfl,_,_,rfl,rfl,by show 1<=sizeLine;decide,λv1 hv1=>?_⟩;have s3:=Same.upd_new (o:=.lst [.int (0-(ak (aA a b):Int))]) hv1;have e3:upd H2 v1 (.lst [.int (0-(ak (aA a b):Int))]) v1=some (.lst ([0-(ak (aA a b):Int)].map V.int)):=ar;have t3:=t2.trans s3;refine⟨_,rfl,v1,pc,[0-(ak (aA a b):Int)],nxt a b,rfl,e3,t3 _ _ hc,by show 1<=1000000;decide,by have:=sc.l;omega,λy hy=>?_,sc.b.mono,λm2 H4 s4 hm2 em2=>?_⟩
  ·rw[G1.mp hy,Int.zero_sub];exact B2.neg.mono
  have ml1:=i6 (aT a b) b;have ml2:=i6 [0-(ak (aA a b):Int)] (nxt a b);have rK:([0-(ak (aA a b):Int)]:List Int).length=1:=rfl;have sbl:=sb.l;have scl:=sc.l;refine⟨m1,m2,_,_,rfl,(s3.trans s4) _ _ em1,em2,by omega,by omega,λm3 H5 s5 hm3 em3=>?_⟩;rw[<- L.add sa.tr]at em3;have t5:=t3.trans (s4.trans s5);refine aY (fQ ⟨_,rfl,p,_,_,_,rfl,rfl,SqT.of (t5 _ _ hp),rfl,_,rfl,_,_,rfl,rfl,_,rfl,aG (λ_=>?_) (λz=>absurd rfl z)⟩);refine fQ ⟨_,rfl,p,_,_,_,rfl,rfl,SqT.of (t5 _ _ hp),rfl,_,_,rfl,rfl,_,rfl,aG (λ_=>?_) (λz=>absurd L.g z)⟩;refine⟨_,rfl,by show 1<=sizeLine;decide,λv2 hv2=>?_⟩;have s6:=Same.upd_new (o:=.lst [.int (aS a b)]) hv2;have e6:upd H5 v2 (.lst [.int (aS a b)]) v2=some (.lst ([aS a b].map V.int)):=ar;refine⟨_,rfl,v2,pa,[aS a b],a,rfl,e6,(t5.trans s6) _ _ ha,by show 1<=1000000;decide,by have:=sa.l;omega,λy hy=>by rw[G1.mp hy];exact B1.mono,sa.b.mono,λm4 H7 s7 hm4 em4=>?_⟩;refine⟨_,rfl,m4,m3,_,_,rfl,rfl,SqL.of em4,SqL.of ((s6.trans s7) _ _ em3),?_⟩;rw[decide_eq_true rfl];exact k H7 (t5.trans (s6.trans s7))
theorem Dp(l:List Int)(n k:Nat):cf (l.take n) k=if k<n then cf l k else 0:=by unfold cf;rw[List.getD_eq_getElem?_getD,List.getD_eq_getElem?_getD,List.getElem?_take];split<;>rfl
theorem wG(kps:List Int):b6 ((List.range kps.length).map λ(j:Nat)=>(j:Int)*cf kps j) (some 1) none=slopeL kps:=by
 refine cP ?_ λn hn=>?_
 ·unfold b6 slopeL;rw[HT.sIx_none,show(some (1:Int))=some ((1:Nat):Int)from rfl,HT.sIx_nat];simp;omega
 ·unfold b6 slopeL;rw[HT.sIx_none,show(some (1:Int))=some ((1:Nat):Int)from rfl,HT.sIx_nat]
  have hn':n<kps.length-1:=by
   unfold b6 at hn
   rw[HT.sIx_none,show(some (1:Int))=some ((1:Nat):Int)from rfl,HT.sIx_nat]at hn;simp at hn
   omega
  rw[eh,if_pos hn',Dp,GO,Hm];have hm:min 1 kps.length=1:=by omega
  rw[hm,if_pos (by omega)]
  have e3:cf (List.drop 1 ((List.range kps.length).map λ(j:Nat)=>(j:Int)*cf kps j)) n=cf ((List.range kps.length).map λ(j:Nat)=>(j:Int)*cf kps j) (n+1):=by unfold cf;simp[List.getD,List.getElem?_drop,Nat.add_comm]
  rw[e3,eh,if_pos (by omega)];show((n+1:Nat):Int)*_=_;rw[Int.natCast_add];rfl
structure PapR(kp:List Int)(r:List (List Int)):Prop where
 two:2<=r.length
 few:r.length<=100
 fst:r.getD 0 []=kp
 snd:r.getD 1 []=ah (slopeL kp)
 last:(r.getD (r.length-1) []).length=1
 step:∀k,k+2<r.length->r.getD (k+2) []=nxt (r.getD k []) (r.getD (k+1) [])
 rws:∀xs∈r,RwS xs
 tr:Tr kp
 b:AllB 1000 kp
 l:kp.length<=7
theorem PapR.at{kp:List Int}{r:List (List Int)}(R:PapR kp r){k:Nat}(h:k<r.length):RwS (r.getD k []):=by refine R.rws _ ?_;rw[List.getD_eq_getElem?_getD,List.getElem?_eq_getElem h];exact Hu _
theorem PapR.rwb{kp:List Int}{r:List (List Int)}(R:PapR kp r):RwB r:=λxs h=>⟨by have:=(R.rws xs h).l;omega,(R.rws xs h).b.mono⟩
theorem PapR.dec{kp:List Int}{r:List (List Int)}(R:PapR kp r):∀k,k+1<r.length->(r.getD (k+1) []).length<=(r.getD k []).length
 |0,_=>by rw[R.fst,R.snd];unfold ah;rw[GO,iE];omega
 |k+1,h=>by rw[R.step k h];exact HS (lF (R.at (by omega)).ne)
theorem PapR.lnk{kp:List Int}{r:List (List Int)}(R:PapR kp r){k:Nat}(h:k+2<r.length):LnkF (r.getD k []) (r.getD (k+1) []) :=
 sL (R.at (by omega)).tr (R.at (by omega)).tr (R.at (by omega)).ne (by rw[<- R.step k h];exact(R.at h).ne)
theorem me{r:List (List Int)}{k:Nat}{x:Lnk}(h:(cg r)[k]?=some x):k+2<r.length/\x=ga (r.getD k []) (r.getD (k+1) []):=by
 unfold cg at h
 have hk:k<r.length-2:=by have:=(List.getElem?_eq_some_iff.mp h).1;rw[GO,Hm]at this;exact this
 rw[List.getElem?_map,List.getElem?_range hk]at h;exact⟨by omega,(Option.some.inj h).symm⟩
theorem PapR.hot{kp:List Int}{r:List (List Int)}(R:PapR kp r):HotP kp r (cg r):=by
 refine⟨R.two,?_,R.fst,R.snd,R.last,λk x hx=>?_⟩
 ·unfold cg;rw[GO,Hm];have:=R.two;omega
 ·obtain⟨hk,rfl⟩:=me hx;have L:=R.lnk hk;refine⟨L.f,L.g,?_⟩;rw[R.step k hk];exact L.sub (R.at (by omega)).tr
theorem PapR.lkb{kp:List Int}{r:List (List Int)}(R:PapR kp r):∀x∈cg r,LkB x:=λx hx=>by obtain⟨k,hk,rfl⟩:=HZ hx;obtain⟨h,e⟩:=me (List.getElem?_eq_getElem hk);rw[e];exact sM (R.at (by omega)) (R.at (by omega))
theorem o6:∀{r:List (List Int)},SRow r->(r.getD (r.length-1) []).length=1
 |_,.last _=>rfl
 |_,.two _=>rfl
 |_,.cons (a:=a) (b:=b) (c:=c) (r:=r) _ _ _ h=>by
  have:=o6 h;have e:(a::b::c::r).length-1=(b::c::r).length-1+1:=by simp
  rw[e,List.getD_cons_succ];exact this
theorem yH{kp:List Int}{S:List (Rat->Int)}(hp:Pln kp)(C:Cts kp S)(hl:kp.length<=7)(h2:2<=kp.length)(hb:AllB 500 kp):PapR kp (aF 9 kp (ah (slopeL kp)))/\Run 9 (ah kp) (ah (slopeL kp))/\ah kp=kp:=by
 have e:=yq hp;obtain⟨R1,R2,R3⟩:=xI hp.tr (hb.mono) hl;have tS:=gq hp.tr;have copS:=C.cop.shr hp.tr hp.ne tS;have lS:(ah (slopeL kp)).length=kp.length-1:=by unfold ah;rw[GO,fh]
 have hs:ah (slopeL kp)≠[]:=λz=>by rw[z]at lS;simp at lS;omega
 rw[e]at R2 R3 copS;have st:=li 8 kp (ah (slopeL kp)) (by omega) hp.tr hp.ne (c7 tS) copS;obtain⟨ch,f⟩:=qD 9 kp (ah (slopeL kp)) R2;obtain⟨f0,f1,f2,_⟩:=f hp.ne;obtain⟨f3,f4⟩:=f2 hs;refine⟨⟨f4,by have:=qC 9 kp (ah (slopeL kp));omega,f0,f3,o6 st,ch.step,λxs hx=>?_,hp.tr,hb.mono,hl⟩,R1,e⟩;obtain⟨g1,g2,g3⟩:=R3 xs hx;exact⟨g1,ch.ne xs hx,g2,g3⟩
def pR:Sp:=λvs H Q _=>∃(t l lk pk ts:Addr) (ps ls:List Addr) (r:List (List Int)) (kp:List Int) (s:Int×Int×Int),vs=[.ref t,.ref pk,.ref ts]/\H t=some (.tup [.ref l,.ref lk])/\H l=some (.lst (ps.map V.ref))/\RwH H ps r/\H lk=some (.lst (ls.map V.ref))/\LkH H ls (cg r)/\H pk=some (.lst (kp.map V.int))/\ST H ts s/\PapR kp r/\Bits 400 s.1/\Bits 400 s.2.1/\Bits 400 s.2.2/\0<s.2.2/\(chS (sgs s.1 s.2.2 r)).1-(chS (sgs s.2.1 s.2.2 r)).1=1/\∀H',Same H H'->Q (.bl true) H'
theorem zD(F:Fun K "_law_holds" "_law_holds" iO f fd)(T:Txt K mg)(oz:Cal P w K mg base 2 "_law_is_poly" ["_law_found"] jW CI Cs)(ij:Cal P w K mg base 33 "_law_shrunk" ["_law_kp"] eQ ug uc)(EX:Cal P w K mg base 34 "_law_link_holds" ["_law_link","_law_first","_law_second","_law_third"] pL Gs FF)(E7:Cal P w K mg base 2 "_law_changes" ["_law_row","_law_top","_law_bottom"] pN GA FN):FnOk P w K mg base CX0 35 f fd ["_law_paper","_law_kp","_law_span_here"] pR:=by
 obtain⟨og,lZ,mB,nO⟩:=oz;obtain⟨ie,gO,gS,hG⟩:=ij;obtain⟨El,AM,Bt,DM⟩:=EX;obtain⟨vK,sI,tx,vo⟩:=E7;refine F.ok sc__law_holds (λvs H Q E h=>?_) (λcdv A outer s H vs Q E hr h=>?_)
 ·obtain⟨t,l,lk,pk,ts,ps,ls,r,kp,s,rfl,_⟩:=h;rfl
 ·obtain⟨t,l,lk,pk,ts,ps,ls,r,kp,sp,rfl,ht,hl,hR,hlk,hL,hk,hts,PR,b1,b2,b3,n0,h1,k⟩:=h;have hu:(A.deeper (PyProof.Rows.envOfC (Str.ofString "_law_holds") (av iO) s.heap.objs.size f cdv)).units+64<cLine:=by have:=hr.un;omega
  have big:=sizeLine_eq;have pl:(ps.map V.ref).length=r.length:=by rw[GO,hR.1]
  have xl:(cg r).length=r.length-2:=by unfold cg;rw[GO,Hm]
  have ql:(ls.map V.ref).length=r.length-2:=by rw[GO,hL.1,xl]
  have r2:=PR.two;have r100:=PR.few
  refine⟨_,(af (aP (PW.pt (bO (cv (cu (aJ (eC (K:=K) rfl) (by rfl) T.isinstance_ PyProof.Rows.boot_isinstance (aa (pv 0) (aa (dL (v:=.ty "tuple") (by rfl) T.tuple_ PyProof.Rows.boot_tuple (by rfl)) ad))))) (cr (aC da (aJ (aV (K:=K) rfl) (by rfl) T.len_ PySem.boot_len (aa (pv 0) ad)) ac (aw _)))))
   (ai (au cn))
   aO)
   (af (aj (i:=3) sc__law_holds.nd rfl (Or.inl rfl) (am (aB (K:=K) rfl) (pv 0) ac (λ_ _=>rfl)))
   (af (aj (i:=4) sc__law_holds.nd rfl (Or.inl rfl) (am (aB (K:=K) rfl) (pv 0) ac (λ_ _=>rfl)))
   (af (aP (PW.pt (bO (cv (cu (aJ (eC (K:=K) rfl) (by rfl) T.isinstance_ PyProof.Rows.boot_isinstance (aa (pv 3) (aa (dL (v:=.ty "list") (by rfl) T.list_ PyProof.Rows.boot_list (by rfl)) ad))))) (bO (cv (cu (aJ (eC (K:=K) rfl) (by rfl) T.isinstance_ PyProof.Rows.boot_isinstance (aa (pv 4) (aa (dL (v:=.ty "list") (by rfl) T.list_ PyProof.Rows.boot_list (by rfl)) ad))))) (bO (aC cC (aJ (aV (K:=K) rfl) (by rfl) T.len_ PySem.boot_len (aa (pv 3) ad)) ac (aw _)) (cr (aC da (aJ (aV (K:=K) rfl) (by rfl) T.len_ PySem.boot_len (aa (pv 4) ad)) (ag aW (aJ (aV (K:=K) rfl) (by rfl) T.len_ PySem.boot_len (aa (pv 3) ad)) ac) (aw _)))))))
     (ai (au cn))
     aO)
   (af (bP PassesOwn.never rfl (cy (K:=K) rfl (pv 3)) (aR (i:=5) sc__law_holds.nd rfl (Or.inl rfl))
     (ai (aP (PW.pt (bO (cv (cu (aq og (hr.mono) rfl lZ mB nO .nil al (aa (pv 5) ad)))) (cr (aC bS (aJ (aV (K:=K) rfl) (by rfl) T.len_ PySem.boot_len (aa (pv 5) ad)) ac (aw _)))))
       (ai (au cn))
       aO)))
   (af (aP (PW.pt (bO (aC (fb (K:=K) rfl hu) (am (bj (K:=K) rfl) (pv 3) ac (λ_ _=>rfl)) (pv 1) (aw _)) (bO (aC (fb (K:=K) rfl hu) (am (bj (K:=K) rfl) (pv 3) ac (λ_ _=>rfl)) (aq ie (hr.mono) rfl gO gS hG .nil al (aa (fW (fJ (K:=K) rfl) (dw (own:=["_law_k","_law_one"]) (fr:=[]) (js:=[]) (by walk_at "comp_ok") rfl (dI rfl T.enumerate_ (aa (pv 1) ad)) (λ_ _ _ _=>(rB (K:=K) (n:=2) rfl rfl (cm (aR (i:=0) (show List.Nodup (["_law_k","_law_one"]:List Str)from by decide +kernel) rfl (Or.inl rfl) (Or.inr rfl)) (cm (aR (i:=1) (show List.Nodup (["_law_k","_law_one"]:List Str)from by decide +kernel) rfl (Or.inl rfl) (Or.inr rfl)) dJ rfl) rfl) rfl rfl)) (λ_ _ _ _=>(ag aI (pv 0) (pv 1)))) (fT ac) fU) ad)) (aw _)) (cr (aC da (aJ (aV (K:=K) rfl) (by rfl) T.len_ PySem.boot_len (aa (am (bj (K:=K) rfl) (pv 3) (ce b8 ac) (λ_ _=>rfl)) ad)) ac (aw _))))))
     (ai (au cn))
     aO)
   (af (bP PassesOwn.never rfl (dI rfl T.enumerate_ (aa (pv 4) ad)) (eZ rfl (cm (aR (i:=6) sc__law_holds.nd rfl (Or.inl rfl)) (cm (aR (i:=7) sc__law_holds.nd rfl (Or.inl rfl)) dJ)))
     (ai (aP (cv (cu (aq El (hr.mono) rfl AM Bt DM .nil al (aa (pv 7) (aa (am (bj (K:=K) rfl) (pv 3) (pv 6) (λ_ _=>rfl)) (aa (am (bj (K:=K) rfl) (pv 3) (ag bh (pv 6) ac) (λ_ _=>rfl)) (aa (am (bj (K:=K) rfl) (pv 3) (ag bh (pv 6) ac) (λ_ _=>rfl)) ad)))))))
       (ai (au cn))
       aO)))
   (ai (au (cV bS (ag aW (aq vK (hr.mono) rfl sI tx vo .nil al (aa (pv 3) (aa (am (aB (K:=K) rfl) (pv 2) ac (λ_ _=>rfl)) (aa (am (aB (K:=K) rfl) (pv 2) ac (λ_ _=>rfl)) ad)))) (aq vK (hr.mono) rfl sI tx vo .nil al (aa (pv 3) (aa (am (aB (K:=K) rfl) (pv 2) ac (λ_ _=>rfl)) (aa (am (aB (K:=K) rfl) (pv 2) ac (λ_ _=>rfl)) ad))))) ac (aw _))))))))))),?_⟩
  refine bI (bV (cx (fR (dG ⟨_,rfl,dU (.tup ht) (k:=true) (by rfl) ⟨_,rfl,bG ?_⟩⟩))));refine⟨_,rfl,t,_,rfl,.inr (SqT.of ht),_,_,rfl,rfl,_,rfl,b9 (λz=>absurd rfl z) (λ_=>?_)⟩;refine ax ⟨_,rfl,t,_,_,_,rfl,rfl,SqT.of ht,rfl,?_⟩;refine ax ⟨_,rfl,t,_,_,_,rfl,rfl,SqT.of ht,rfl,?_⟩;refine bI (bV (cx (fR (dG ⟨_,rfl,dU (.lst hl) (k:=true) (by rfl) ⟨_,rfl,bG ?_⟩⟩))));refine bV (cx (fR (dG ⟨_,rfl,dU (.lst hlk) (k:=true) (by rfl) ⟨_,rfl,bG ?_⟩⟩)));refine bV ⟨_,rfl,l,_,rfl,.inl (SqL.of hl),_,_,rfl,rfl,_,rfl,aG (λz=>?_) (λ_=>?_)⟩
  ·have z':((ps.map V.ref).length:Int)<2:=z;omega
  refine⟨_,rfl,lk,_,rfl,.inl (SqL.of hlk),_,rfl,l,_,rfl,.inl (SqL.of hl),_,_,rfl,rfl,_,_,rfl,rfl,_,rfl,b9 (λz=>?_) (λ_=>?_)⟩
  ·have z':¬((ls.map V.ref).length:Int)=((ps.map V.ref).length:Int)-2:=z;omega
  refine⟨_,rfl,l,rfl,⟨_,SqL.of hl⟩,df (K:=K) (a:=l) (xs:=ps.map V.ref) (λi σ' H'=>∃z5:Option V,σ'=[some (.ref t),some (.ref pk),some (.ref ts),some (.ref l),some (.ref lk),z5,none,none]/\H=H') ⟨none,rfl,rfl⟩ ?_ ?_ ?_⟩
  ·rintro i σ' H' _ ⟨z5,rfl,rfl⟩;exact SqL.of hl
  ·rintro i x σ' H' hi ⟨z5,rfl,rfl⟩;obtain⟨p,xs,rfl,ep,ex,hp,hlt⟩:=hR.of_get hi;have hx:=PR.rws xs (List.mem_of_getElem? ex);refine fO (bV (cx ⟨_,rfl,p,xs,rfl,hp,hx.tr,⟨_,rfl,bG ?_⟩⟩));refine⟨_,rfl,p,_,rfl,.inl (SqL.of hp),_,_,rfl,rfl,_,rfl,aG (λz=>?_) (λ_=>?_)⟩
   ·have z':((xs.map V.int).length:Int)=0:=z;rw[GO]at z';exact absurd (HA.mp (by omega)) hx.ne
   ·exact⟨some (.ref p),rfl,rfl⟩
  rintro σ' H' ⟨z5,rfl,rfl⟩;obtain⟨p0,ea,h0⟩:=cK hR (show 0<r.length by omega) (rfl:(0:Int)=((0:Nat):Int));obtain⟨p1,eb,h1'⟩:=cK hR (show 1<r.length by omega) (rfl:(1:Int)=((1:Nat):Int));rw[PR.fst]at h0;rw[PR.snd]at h1';have hkl:(kp.map V.int).length=kp.length:=GO _;have kl:=PR.l;refine⟨_,rfl,l,_,_,_,rfl,rfl,SqL.of hl,ea,_,rfl,p0,pk,_,_,rfl,rfl,SqL.of h0,SqL.of hk,_,rfl,b9 (λz=>absurd rfl z) (λ_=>?_)⟩;refine bV ⟨_,rfl,l,_,_,_,rfl,rfl,SqL.of hl,eb,?_⟩;refine⟨_,rfl,pk,rfl,⟨_,SqL.of hk⟩,uL (K:=K) (a:=pk) (xs:=kp.map V.int) (λi ys σ' H'=>∃z y:Option V,σ'=[z,y]/\ys=((List.range i).map λ(j:Nat)=>(j:Int)*cf kp j).map V.int/\Same H H') (by rw[hkl];omega) ⟨none,none,rfl,rfl,λ_ _ e=>e⟩ ?_ ?_ ?_⟩
  ·rintro i ys σ' H' _ ⟨z,y,rfl,rfl,sm⟩;exact⟨SqL.of (sm _ _ hk),by simp⟩
  ·rintro i v ys σ' H' q hi ⟨z,y,rfl,rfl,sm⟩ hq;obtain⟨c,ec,rfl,hcm,_⟩:=dE hi;have hc:cf kp i=c:=nj ec;have hil:i<kp.length:=(List.getElem?_eq_some_iff.mp ec).1;refine⟨q,_,rfl,SqT.of ar,rfl,_,_,rfl,_,_,rfl,rfl,?_⟩;refine⟨_,rfl,_,rfl,_,_,rfl,rfl,⟨bZ (by omega) (by decide),(PR.b c hcm).mono⟩,_,_,rfl,?_,sm.then_new hq⟩;rw[List.range_succ,G8,G8,<- hc];rfl
  rintro ys σ' H1 q1 ⟨z,y,rfl,rfl,s1⟩ hq1;have t1:=s1.then_new (o:=.lst (((List.range (kp.map V.int).length).map λ(j:Nat)=>(j:Int)*cf kp j).map V.int)) hq1;refine⟨1,rfl,q1,_,rfl,SqL.of ar,λq2 hq2=>?_⟩;rw[jy,hkl,wG];rw[hkl]at t1 hq2;have t2:=t1.then_new (o:=.lst ((slopeL kp).map V.int)) hq2;have e2:upd (upd H1 q1 (.lst (((List.range kp.length).map λ(j:Nat)=>(j:Int)*cf kp j).map V.int))) q2 (.lst ((slopeL kp).map V.int)) q2=some (.lst ((slopeL kp).map V.int)):=ar;generalize upd (upd H1 q1 (.lst (((List.range kp.length).map λ(j:Nat)=>(j:Int)*cf kp j).map V.int))) q2 (.lst ((slopeL kp).map V.int))=H2 at t2 e2 ⊢
  refine⟨q2,_,rfl,e2,iu PR.tr,by rw[iE];omega,λq3 H3 s3 hq3 e3=>?_⟩;have t3:=t2.trans s3;refine⟨p1,q3,_,_,rfl,rfl,SqL.of (t3 _ _ h1'),SqL.of e3,_,rfl,b9 (λz=>absurd rfl z) (λ_=>?_)⟩;obtain⟨p9,ec,h9⟩:=vq (hR.same t3) (show 0<1 by decide) (show 1<=r.length by omega);refine⟨_,rfl,_,rfl,l,_,_,_,rfl,rfl,SqL.of (t3 _ _ hl),ec,p9,_,rfl,.inl (SqL.of h9),_,_,rfl,rfl,_,rfl,b9 (λz=>?_) (λ_=>?_)⟩
  ·have z':¬(((r.getD (r.length-1) []).map V.int).length:Int)=1:=z;rw[GO,PR.last]at z';exact absurd rfl z'
  refine⟨_,rfl,lk,rfl,⟨_,SqL.of (t3 _ _ hlk)⟩,ge (K:=K) (a:=lk) (xs:=ls.map V.ref) (λi σ' H'=>∃z6 z7:Option V,σ'=[some (.ref t),some (.ref pk),some (.ref ts),some (.ref l),some (.ref lk),z5,z6,z7]/\Same H H') ⟨none,none,rfl,t3⟩ ?_ ?_ ?_⟩
  ·rintro i σ' H' _ ⟨z6,z7,rfl,sm⟩;exact SqL.of (sm _ _ hlk)
  ·rintro i v σ' H' q hi ⟨z6,z7,rfl,sm⟩ hq;obtain⟨p,x,rfl,ep,ex,hkk,hlt⟩:=(hL.same sm).of_get hi;obtain⟨hk2,rfl⟩:=me ex;have s4:=Same.upd_new (o:=.tup [.int (i:Int),.ref p]) hq;have u4:=sm.trans s4;refine⟨q,_,rfl,SqT.of ar,rfl,?_⟩;refine⟨_,_,rfl,_,_,rfl,rfl,?_⟩;obtain⟨pa,ea,ha⟩:=cK (hR.same u4) (show i<r.length by omega) (rfl:((i:Nat):Int)=i);obtain⟨pb,eb,hb⟩:=cK (hR.same u4) (show i+1<r.length by omega) (show((i:Nat):Int)+1=((i+1:Nat):Int) by omega);obtain⟨pc,ec,hc⟩:=cK (hR.same u4) hk2 (show((i:Nat):Int)+2=((i+2:Nat):Int) by omega);rw[PR.step i hk2]at hc;have el:=u4 _ _ hl;refine fO (cx ⟨_,rfl,_,rfl,_,rfl,l,_,_,_,rfl,rfl,SqL.of el,ea,_,rfl,_,rfl,_,_,rfl,rfl,l,_,_,_,rfl,rfl,SqL.of el,eb,_,rfl,_,rfl,_,_,rfl,rfl,l,_,_,_,rfl,rfl,SqL.of el,ec,p,pa,pb,pc,_,_,rfl,hkk.same s4,ha,hb,hc,PR.at (by omega),PR.at (by omega),by rw[<- PR.step i hk2];exact PR.at hk2,PR.dec i (by omega),λH5 s5=>⟨_,rfl,bG ?_⟩⟩);exact⟨_,_,rfl,u4.trans s5⟩
  ·rintro σ' H4 ⟨z6,z7,rfl,sm⟩;have els:=sm _ _ hts;have ell:=sm _ _ hl;refine⟨_,rfl,_,rfl,ts,_,_,_,rfl,rfl,SqT.of els,rfl,_,rfl,ts,_,_,_,rfl,rfl,SqT.of els,rfl,l,ps,r,_,_,rfl,ell,hR.same sm,PR.rwb,b1,b3,n0,?_⟩;refine⟨_,rfl,_,rfl,ts,_,_,_,rfl,rfl,SqT.of els,rfl,_,rfl,ts,_,_,_,rfl,rfl,SqT.of els,rfl,l,ps,r,_,_,rfl,ell,hR.same sm,PR.rwb,b2,b3,n0,_,_,rfl,rfl,_,_,rfl,rfl,?_⟩;show Q (.bl (decide ((chS (sgs sp.1 sp.2.2 r)).1-(chS (sgs sp.2.1 sp.2.2 r)).1=1))) H4;rw[decide_eq_true h1];exact k H4 sm
theorem TuH.app{H:Hp}{ps qs:List Addr}{xs ys:List (List Int)}(h:TuH H ps xs)(h':TuH H qs ys):TuH H (ps++qs) (xs++ys):=by
 refine⟨by rw[GZ,GZ,h.1,h'.1],λi p zs e1 e2=>?_⟩;by_cases hi:i<ps.length
 ·rw[List.getElem?_append_left hi]at e1;rw[List.getElem?_append_left (by rw[<- h.1];exact hi)]at e2;exact h.2 i p zs e1 e2
 ·rw[List.getElem?_append_right (by omega)]at e1;rw[List.getElem?_append_right (by rw[<- h.1];omega),<- h.1]at e2;exact h'.2 _ p zs e1 e2
theorem qB{k:Nat}{t b:Int}(hb:b≠0)(h:Bits k t):Bits k (rt t b):=h.of_le (xE hb)
theorem qK{k:Nat}{t b:Int}(hb:b≠0)(h:Bits k b):Bits k (rb t b):=h.of_le (xR hb)
theorem uE:∀ss:List (List Int),(∀s∈ss,2<=s.length)->ss.length<=cI ss
 | [],_=>GP _
 |s::ss,h=>by
  have h1:=h s (GY ..);have h2:=uE ss λx hx=>h x (GU _ hx)
  rw[Hl,cI];omega
theorem rj:∀ss:List (List Int),(∀s∈ss,s≠[])->(prd ss).length=cI ss+1/\prd ss≠[]
 | [],_=>⟨rfl,by decide⟩
 |s::ss,h=>by
  have h1:=h s (GY ..);obtain⟨h2,h3⟩:=rj ss λx hx=>h x (GU _ hx)
  have e:(ae s (prd ss)).length=s.length+(prd ss).length-1:=bJ h1 h3;have h4:=GQ.mpr h1;show(ae s (prd ss)).length=(s.length-1)+cI ss+1/\ae s (prd ss)≠[];refine⟨by omega,λz=>?_⟩;rw[z]at e;have:0=s.length+(prd ss).length-1:=e;omega
theorem uJ{a b c m:Int}(h:CubOk a b c m):AllB 14 (aM m a b c):=by
 obtain⟨s1,s2,s3⟩:=h.small;have a9:=h.a9;have q1:(a*a).natAbs<=9*9:=bW (by omega) (by omega);have q2:(a*a*a).natAbs<=9*9*9:=bW q1 (by omega);have q3:(3*m*(b*c)*a).natAbs<=3*7*(3*3)*9:=bW s3 (by omega);have en:=lI m a b c;intro x hx;simp only[aM,GX,List.not_mem_nil,or_false]at hx;rcases hx with rfl |rfl |rfl |rfl
 ·rw[en];show(-(a*a*a+m*(b*b*b)+m*m*(c*c*c)-3*m*(b*c)*a)).natAbs<16384;omega
 ·show(3*(a*a)-3*m*(b*c)).natAbs<16384;omega
 ·show(-3*a).natAbs<16384;omega
 ·show(1:Int).natAbs<16384;decide
theorem jt{f:List Int}(h:Fac 11 f):Fac11 f:=h
theorem gU{f:List Int}(h:Fac 11 f):Fac 100000000 f:=by obtain⟨u,e,b,rfl,h1,h2,h3,h4,h5,h6,h7⟩:=h;exact⟨u,e,b,rfl,by omega,by omega,h3,h4,h5,h6,h7⟩
theorem pe{f l:List Int}(h:Fac 11 f)(hl:l∈spF f):SpK l/\cp l=sdR l:=by obtain⟨u,e,b,rfl,h1,h2,h3,h4,h5,h6,h7⟩:=h;obtain⟨_,s,rfl,he,hs⟩:=eO rfl h5 hl;exact⟨.inr (.inr ⟨u,e,b,s,rfl,h1,h2,he,h4,h5,h6,hs⟩),rfl⟩
theorem ph{fs:List (List Int)}(hF:∀f∈fs,Fac 11 f):(∀l∈spots fs,SpK l)/\(spots fs).map cp=(spots fs).map sdR:=by
 refine⟨λl hl=>?_,Ib λl hl=>?_⟩
 ·obtain⟨f,hf,hm⟩:=List.mem_flatMap.mp hl;exact(pe (hF f hf) hm).1
 ·obtain⟨f,hf,hm⟩:=List.mem_flatMap.mp hl;exact(pe (hF f hf) hm).2
structure PolK(KP:List Int)(ls:List (List Int)):Prop where
 fel:Fel KP ls
 pln:Pln KP
 two:2<=KP.length
 len:KP.length<=7
 b:AllB 500 KP
 ne:0<ls.length
 few:ls.length<=10
theorem yo{a b c m:Int}(hC:CubOk a b c m){fs:List (List Int)}(hF:∀f∈fs,Fac 11 f)(hn:(fs.map ay).Nodup)(hd:cI (fs.map ay)<=2):PolK (ae (aM m a b c) (prd (fs.map ay))) ([a,b,c,m,0]::spots fs)/\bF [1] (fs.map ay)=prd (fs.map ay)/\fs.length<=2/\AllB 160 (prd (fs.map ay))/\(prd (fs.map ay)).length<=3:=by
 have hFb:∀f∈fs,Fac 100000000 f:=λf h=>gU (hF f h)
 have hFG:∀f∈fs,FacG f:=λf h=>(jt (hF f h)).g
 have ne:∀s∈fs.map ay,s≠[]:=λs hs=>by obtain⟨f,hf,rfl⟩:=GT.mp hs;exact(fL (hFb f hf)).2.1
 have fl:fs.length<=2:=by
  have:=uE (fs.map ay) λx hx=>by obtain⟨y,hy,rfl⟩:=GT.mp hx;exact(fL (hFb y hy)).2.2.2.1
  rw[GO]at this;omega
 obtain⟨pl,pn⟩:=rj _ ne
 have ep:bF [1] (fs.map ay)=prd (fs.map ay):=ly λs hs=>by obtain⟨f,hf,rfl⟩:=GT.mp hs;exact fj (hFG f hf)
 obtain⟨i1,_⟩:=lA hFb fs.length (GP _) (by omega);rw[HB,ep]at i1;have i2:AllB 160 (prd (fs.map ay)):=i1.mono (by omega);have c4:(aM m a b c).length=4:=rfl;have ll:(ae (aM m a b c) (prd (fs.map ay))).length=(aM m a b c).length+(prd (fs.map ay)).length-1:=bJ (fv m a b c).ne pn;have ct:=CW hC (λf h=>jt (hF f h)) hn rfl (by omega);obtain⟨sp,em⟩:=ph hF;refine⟨⟨⟨?_,λl hl=>?_⟩,?_,by omega,by omega,?_,Nat.succ_pos _,?_⟩,ep,fl,i2,by omega⟩
 ·rw[HC,em];exact ct
 ·rcases GX.mp hl with rfl |hl
  ·exact .inl ⟨a,b,c,m,rfl,hC⟩
  ·exact sp l hl
 ·exact gG (aM m a b c::fs.map ay) λs hs=>by
   rcases GX.mp hs with rfl |hs
   ·exact fv m a b c
   ·obtain⟨f,hf,rfl⟩:=GT.mp hs;exact(fj (hFG f hf)).pln
 ·exact si ((uJ hC).mono (k:=14) (by decide)) i2 (by rw[c4];decide)
 ·have:=gu fs;rw[Hl];omega
theorem yk{l:List Int}(h:Fac 11 l)(he:0<=cf l 1):PolK (ay l) (spots [l]):=by
 obtain⟨g1,g2,g3,g4,g5⟩:=fL (gU h);have hFG:∀f∈[l],FacG f:=λf hf=>by rw[G1.mp hf];exact(jt h).g
 have ct:=CV (fs:=[l]) hFG (by simp) (P:=ay l) (by show ay l=ae (ay l) [1];rw[i8]) (by omega);obtain⟨sp,em⟩:=ph (fs:=[l]) λf hf=>by rw[G1.mp hf];exact h
 refine⟨⟨by rw[em];exact ct,sp⟩,(fj (jt h).g).pln,g4,by omega,g3.mono,?_,?_⟩
 ·have:spots [l]=spF l:=by unfold spots;rw[List.flatMap_cons,List.flatMap_nil,IH]
  rw[this];unfold spF;rw[if_pos he];simp
 ·have:=gu [l];have:([l]:List (List Int)).length=1:=rfl;omega
theorem qr{t n t' n':Int}(hn:0<n)(hn':0<n')(e:t*n'=t'*n)(r:List (List Int)):sgs t n r=sgs t' n' r:=by
 unfold sgs;refine Ib λf _=>?_
 rw[dq hn,dq hn'];have:((t:Rat)/(n:Rat))=((t':Rat)/(n':Rat)):=Rat.le_antisymm (HF.mp λw=>absurd ((cT hn' hn).mp w) (by omega)) (HF.mp λw=>absurd ((cT hn hn').mp w) (by omega));rw[this]
theorem qN{t b:Int}(hb:b≠0):rt t b*b=t*rb t b:=by
 have h1:=qA (t:=t) hb;have h2:=lu (t:=t) hb;generalize dv t b=d at h1 h2
 generalize rt t b=x at h1 ⊢
 generalize rb t b=y at h2 ⊢
 rw[<- h1,<- h2];grind
theorem rp{KP:List Int}{ls:List (List Int)}(K:PolK KP ls){l:List Int}(hl:l∈ls){s:Int×Int×Int}{j:Nat}(S:SpG l s j)(hA:cQ ls l s):PapR KP (aF 9 KP (ah (slopeL KP)))/\Run 9 (ah KP) (ah (slopeL KP))/\ah KP=KP/\(chS (sgs s.1 s.2.2 (aF 9 KP (ah (slopeL KP))))).1-(chS (sgs s.2.1 s.2.2 (aF 9 KP (ah (slopeL KP))))).1=1:=by
 obtain⟨R1,R2,R3⟩:=yH K.pln K.fel.ct K.len K.two K.b;have p:=S.pos;have hs:slopeL KP≠[]:=λz=>by have:=fh KP;rw[z]at this;have:0=KP.length-1:=this;have:=K.two;omega
 have c:=K.fel.ct.row hs (N:=8) (by have:=K.len;omega) (t:=s.1) (t':=s.2.1) p p (Is (by have:=S.w;omega) p);rw[R3,K.fel.one hl S hA]at c;refine⟨R1,R2,R3,?_⟩;rw[uS,uS];exact c
theorem yj{KP:List Int}{ls:List (List Int)}(K:PolK KP ls){l:List Int}(hl:l∈ls){s:Int×Int×Int}{j:Nat}(S:SpG l s j)(hA:cQ ls l s):vA KP (aF 9 KP (ah (slopeL KP))) (cg (aF 9 KP (ah (slopeL KP)))) (rt s.1 s.2.2) (rb s.1 s.2.2) (rt s.2.1 s.2.2) (rb s.2.1 s.2.2):=by
 obtain⟨R1,_,_,c⟩:=rp K hl S hA;have p:=S.pos;have ne:s.2.2≠0:=by omega
 have e1:=qN (t:=s.1) ne;have e2:=qN (t:=s.2.1) ne;have q1:=qJ (t:=s.1) ne;have q2:=qJ (t:=s.2.1) ne;refine⟨R1.hot,?_,?_⟩
 ·refine IC (a:=s.2.2) ?_ (GS p);have h1:rt s.1 s.2.2*rb s.2.1 s.2.2*s.2.2=s.1*(rb s.1 s.2.2*rb s.2.1 s.2.2):=by rw[show ∀x y z:Int,x*y*z=x*z*y fromλx y z=>by grind,e1];grind
  have h2:rt s.2.1 s.2.2*rb s.1 s.2.2*s.2.2=s.2.1*(rb s.1 s.2.2*rb s.2.1 s.2.2):=by rw[show ∀x y z:Int,x*y*z=x*z*y fromλx y z=>by grind,e2];grind
  rw[h1,h2];exact Is (by have:=S.w;omega) (G2 q1 q2)
 ·rw[qr q1 p e1,qr q2 p e2];exact c
theorem ze(F:Fun K "law" "law" iK f fd)(T:Txt K mg)(R:RCI K mg C)(RN:NCI K mg CN)(oB:Cal P w K mg base 1 "_law_cell_at" ["_law_script","_law_k"] (gw K) CK Cu)(E6:Cal P w K mg base 2 "_law_cube_by" ["_law_cell","_law_other","_law_m"] pW Gz FM)(E4:Cal P w K mg base 36 "_law_factors_by" ["_law_drawn","_law_most","_law_room"] (pS K) Gx FJ)(EU:Cal P w K mg base 1 "_law_roots_of" ["_law_factors"] pG Gp FC)(il:Cal P w K mg base 1 "_law_mul" ["_law_kp","_law_kq"] fI ui ue)(E5:Cal P w K mg base 2 "_law_cube_shape" ["_law_cube"] pT Gy FK)(EV:Cal P w K mg base 36 "_law_product" ["_law_factors"] pH Gq FD)(oA:Cal P w K mg base 1 "_law_factor_by" ["_law_cell","_law_most"] jY CJ Ct)(ik:Cal P w K mg base 35 "_law_shape" ["_law_factor"] iz uh ud)(ES:Cal P w K mg base 5 "_law_span" ["_law_spots","_law_spot","_law_more"] pq Gn FA)(Fd:KCal P w K mg base 1 CN "Number" ["self","row","low","high"] (iC CN) GH FT GJ [])(Fc:KCal P w K mg base 2 C "Ratio" ["self","top","bottom"] (iD C) GG FS GI [.int 1])(EC:Cal P w K mg base 36 "root_paper" ["one"] (pD CN) FZ Fm)(EY:Cal P w K mg base 35 "_law_holds" ["_law_paper","_law_kp","_law_span_here"] pR Gu FG)(EH:Cal P w K mg base 35 "just_one" ["polynomial","low","high","paper"] (pO C) Ge Fs):FnOk P w K mg base CX0 40 f fd ["_law_script"] (iB K):=by
 obtain⟨eG,dQ,dS,eE⟩:=oB;obtain⟨Ep,AR,By,DQ⟩:=E6;obtain⟨En,AO,Bv,DO⟩:=E4;obtain⟨vG,sD,sZ,vj⟩:=EU;obtain⟨fC,ff,fi,fz⟩:=il;obtain⟨Eo,AQ,Bw,DP⟩:=E5;obtain⟨Ek,AL,Bs,DL⟩:=EV;obtain⟨oh,md,mC,nQ⟩:=oA;obtain⟨ig,gP,gT,hI⟩:=ik;obtain⟨Ei,AJ,Bq,DJ⟩:=ES;obtain⟨Ev,D5,AV,DV,GN,GL⟩:=Fd;obtain⟨vL,vy,sJ,vp,GM,GK⟩:=Fc;obtain⟨vC,sw,sV,vf⟩:=EC;obtain⟨vI,sF,tj,vm⟩:=EY;obtain⟨Ee,AF,Bm,DF⟩:=EH;refine F.ok sc_law (λvs H Q E h=>?_) (λcdv A outer s H vs Q E hr h=>?_)
 ·obtain⟨a,ns,rfl,_⟩:=h;rfl
 ·obtain⟨sa,ns,rfl,hS,hlen,fin⟩:=h;have hu:(A.deeper (PyProof.Rows.envOfC (Str.ofString "law") (av iK) s.heap.objs.size f cdv)).units+64<cLine:=by have:=hr.un;omega
  have big:=sizeLine_eq
  refine⟨_,(af (aj (i:=1) sc_law.nd rfl (Or.inl rfl) (aq eG (hr.mono) rfl dQ dS eE .nil al (aa (pv 0) (aa ac ad))))
   (af (aj (i:=2) sc_law.nd rfl (Or.inl rfl) (aq Ep (hr.mono) rfl AR By DQ .nil al (aa (aq eG (hr.mono) rfl dQ dS eE .nil al (aa (pv 0) (aa ac ad))) (aa (aq eG (hr.mono) rfl dQ dS eE .nil al (aa (pv 0) (aa ac ad))) (aa (aq eG (hr.mono) rfl dQ dS eE .nil al (aa (pv 0) (aa ac ad))) ad)))))
   (af (aj (i:=3) sc_law.nd rfl (Or.inl rfl) (aq En (hr.mono) rfl AO Bv DO .nil al (aa (fW (fJ (K:=K) rfl) (pv 0) (fT ac) fU) (aa ac (aa ac ad)))))
   (af (aj (i:=4) sc_law.nd rfl (Or.inl rfl) (ag yP (bz (aa (pv 2) ad)) (aq vG (hr.mono) rfl sD sZ vj .nil al (aa (pv 3) ad))))
   (af (aj (i:=5) sc_law.nd rfl (Or.inl rfl) (aq fC (hr.mono) rfl ff fi fz .nil al (aa (aq Eo (hr.mono) rfl AQ Bw DP .nil al (aa (pv 2) ad)) (aa (aq Ek (hr.mono) rfl AL Bs DL .nil al (aa (pv 3) ad)) ad))))
   (af (aP (aC bS (ag cj (pv 1) ac) ac (aw _))
     (af (aj (i:=6) sc_law.nd rfl (Or.inl rfl) (aq oh (hr.mono) rfl md mC nQ .nil al (aa (aq eG (hr.mono) rfl dQ dS eE .nil al (aa (pv 0) (aa ac ad))) (aa ac ad))))
       (af (aP (aC cC (am (aB (K:=K) rfl) (pv 6) ac (λ_ _=>rfl)) ac (aw _))
         (ai (aj (i:=6) sc_law.nd rfl (Or.inl rfl) (cz (aa (am (aB (K:=K) rfl) (pv 6) ac (λ_ _=>rfl)) (aa ac (aa (am (aB (K:=K) rfl) (pv 6) ac (λ_ _=>rfl)) ad))))))
         aO)
       (af (aj (i:=4) sc_law.nd rfl (Or.inl rfl) (aq vG (hr.mono) rfl sD sZ vj .nil al (aa (bz (aa (pv 6) ad)) ad)))
       (ai (aj (i:=5) sc_law.nd rfl (Or.inl rfl) (aq ig (hr.mono) rfl gP gT hI .nil al (aa (pv 6) ad)))))))
     aO)
   (af (aj (i:=7) sc_law.nd rfl (Or.inl rfl) (am (bj (K:=K) rfl) (pv 4) ac (λ_ _=>rfl)))
   (af (aP (aC bS (ag cj (pv 1) ac) ac (aw _))
     (ai (aj (i:=7) sc_law.nd rfl (Or.inl rfl) (am (bj (K:=K) rfl) (pv 4) (ag cj (ag iW (pv 1) ac) (aJ (aV (K:=K) rfl) (by rfl) T.len_ PySem.boot_len (aa (pv 4) ad))) (λ_ _=>rfl))))
     aO)
   (af (aj (i:=8) sc_law.nd rfl (Or.inl rfl) (aq Ei (hr.mono) rfl AJ Bq DJ .nil al (aa (pv 4) (aa (pv 7) (aa (ag cj (ag iW (pv 1) ac) ac) ad)))))
   (af (aj (i:=9) sc_law.nd rfl (Or.inl rfl) (lD D5 Ev (hr.mono) rfl AV DV .nil al (aa (gI (jD (K:=K) rfl) (by rfl) T.list_ PyProof.Rows.boot_list (aa (pv 5) ad)) (aa (lD vy vL (hr.mono) rfl sJ vp .nil al (aa (am (aB (K:=K) rfl) (pv 8) ac (λ_ _=>rfl)) (aa (am (aB (K:=K) rfl) (pv 8) ac (λ_ _=>rfl)) ad))) (aa (lD vy vL (hr.mono) rfl sJ vp .nil al (aa (am (aB (K:=K) rfl) (pv 8) ac (λ_ _=>rfl)) (aa (am (aB (K:=K) rfl) (pv 8) ac (λ_ _=>rfl)) ad))) ad)))))
   (af (aj (i:=10) sc_law.nd rfl (Or.inl rfl) (aq vC (hr.mono) rfl sw sV vf .nil al (aa (pv 9) ad)))
   (af (aP (PW.pt (bO (cv (cu (aq vI (hr.mono) rfl sF tj vm .nil al (aa (pv 10) (aa (pv 5) (aa (pv 8) ad)))))) (cr (aC (fb (K:=K) rfl hu) (cU (K:=K) rfl (pv 9) rfl) (pv 5) (aw _)))))
     (ai (au cn))
     aO)
   (af (aj (i:=11) sc_law.nd rfl (Or.inl rfl) (aq Ee (hr.mono) rfl AF Bm DF .nil al (aa (gI (jD (K:=K) rfl) (by rfl) T.list_ PyProof.Rows.boot_list (aa (pv 5) ad)) (aa (cU (K:=K) rfl (pv 9) rfl) (aa (cU (K:=K) rfl (pv 9) rfl) (aa (pv 10) ad))))))
   (af (aP (PW.pt (bO (cv (cu (aJ (eC (K:=K) rfl) (by rfl) T.isinstance_ PyProof.Rows.boot_isinstance (aa (pv 11) (aa (dL (v:=.ty "bool") (by rfl) T.bool_ PyProof.Rows.boot_bool (by rfl)) ad))))) (cr (cv (cu (pv 11))))))
     (ai (au cn))
     aO)
   (af (dH (e8 PySem.F.plainAttrs_list PySem.F.slot_list_append PySem.F.type_list_append fe (am (bj (K:=K) rfl) (am (aB (K:=K) rfl) (pv 10) ac (λ_ _=>rfl)) ac (λ_ _=>rfl)) (aa ac ad)))
   (af (dH (yG PySem.F.plainAttrs_list PySem.F.slot_list_clear PySem.F.type_list_clear Ak (am (aB (K:=K) rfl) (pv 10) ac (λ_ _=>rfl))))
   (ai (au (fX (cV (fc (K:=K) rfl hu) (cU (K:=K) rfl (pv 9) rfl) (pv 5) (aw _)) (gH (aq vI (hr.mono) rfl sF tj vm .nil al (aa (aq vC (hr.mono) rfl sw sV vf .nil al (aa (pv 9) ad)) (aa (pv 5) (aa (pv 8) ad)))))))))))))))))))))))),?_⟩
  refine ax ⟨_,rfl,sa,ns,4,rfl,hS,?_⟩;refine ax ⟨_,rfl,sa,ns,0,rfl,hS,_,rfl,sa,ns,1,rfl,hS,_,rfl,sa,ns,2,rfl,hS,_,_,_,rfl,λp a b c H1 s1 hp hCT hC=>?_⟩;generalize 2+ns.getD 2 0%6=m at hCT hC
  generalize ns.getD 4 0=c0;show bU _ _ _ [some (.ref sa),some (.int c0),some (.ref p),none,none,none,none,none,none,none,none,none] H1;refine ax ⟨_,rfl,5,rfl,sa,_,rfl,s1.seq hS,λp5 hp5=>?_⟩;rw[jy];have t5:=s1.then_new (o:=.lst ((b6 ns (some 5) none).map V.int)) hp5;have v5:=Same.upd_new (o:=.lst ((b6 ns (some 5) none).map V.int)) hp5;have h55:upd H1 p5 (.lst ((b6 ns (some 5) none).map V.int)) p5=some (.lst ((b6 ns (some 5) none).map V.int)):=ar;generalize upd H1 p5 (.lst ((b6 ns (some 5) none).map V.int))=H5 at t5 v5 h55 ⊢
  have hcs:(b6 ns (some 5) none).length<=ns.length:=C0 ns _ _;generalize b6 ns (some 5) none=cs at h55 hcs ⊢
  refine⟨p5,cs,11,2,rfl,by decide,by decide,SqL.of h55,by omega,λpf H6 qs fs s6 hpf ef hT hF hnd hdg=>?_⟩;have t6:=t5.trans s6;have hCT6:=(v5.trans s6) _ _ hCT;obtain⟨PK0,ep,fl,pb,pl⟩:=yo hC hF hnd hdg;have fac:∀l∈fs,Fac 100000000 l:=λl h=>gU (hF l h)
  show bU _ _ _ [some (.ref sa),some (.int c0),some (.ref p),some (.ref pf),none,none,none,none,none,none,none,none] H6;refine ax ⟨_,rfl,by show 1<=sizeLine;decide,λv1 hv1=>?_⟩;have w1:=Same.upd_new (o:=.lst [.ref p]) hv1;have f1:upd H6 v1 (.lst [.ref p]) v1=some (.lst [.ref p]):=ar;refine⟨_,rfl,pf,qs,fs,rfl,w1 _ _ ef,hT.same w1,fac,by omega,λv2 Hb ws w2 hv2 f2 hW=>?_⟩;have sl:=gu fs;refine⟨v1,v2,_,_,rfl,rfl,w2 _ _ f1,f2,by rw[GO,hW.1];show 1+_<=_;omega,λpz hpz=>?_⟩;have w3:=Same.upd_new (o:=.lst ([.ref p]++ws.map V.ref)) hpz;have ez:upd Hb pz (.lst ([.ref p]++ws.map V.ref)) pz=some (.lst ((p::ws).map V.ref)):=ar;have x3:=w1.trans (w2.trans w3);have hW3:TuH (upd Hb pz (.lst ([.ref p]++ws.map V.ref))) ([p]++ws) ([[a,b,c,m,0]]++spots fs):=(TuH.nil.snoc (x3 _ _ hCT6)).app (hW.same w3);show bU _ _ _ [some (.ref sa),some (.int c0),some (.ref p),some (.ref pf),some (.ref pz),none,none,none,none,none,none,none] (upd Hb pz (.lst ([.ref p]++ws.map V.ref)));generalize upd Hb pz (.lst ([.ref p]++ws.map V.ref))=H7 at w3 ez x3 hW3 ⊢
  refine ax ⟨_,rfl,p,a,b,c,m,rfl,x3 _ _ hCT6,hC,λr1 H8 s8 hr1 e1=>?_⟩;refine⟨_,rfl,pf,qs,fs,rfl,(x3.trans s8) _ _ ef,hT.same (x3.trans s8),fac,by omega,λr2 H9 s9 hr2 e2=>?_⟩;rw[ep]at e2;refine⟨r1,r2,_,_,rfl,s9 _ _ e1,e2,by show 4<=1000000;decide,by omega,(uJ hC).mono,pb.mono,λpk Ha sk hpk ek=>?_⟩;have ua:=s8.trans (s9.trans sk);have ta:=t6.trans (x3.trans ua);have eza:=ua _ _ ez;have hWa:=hW3.same ua;obtain⟨d1,d2⟩:=cX (x:=c0) (m:=4) (by decide);show bU _ _ _ [some (.ref sa),some (.int c0),some (.ref p),some (.ref pf),some (.ref pz),some (.ref pk),none,none,none,none,none,none] Ha;refine cS (λσ' H'=>∃(pz pk:Addr) (z6:Option V) (ws:List Addr) (ls:List (List Int)) (KP:List Int),σ'=[some (.ref sa),some (.int c0),some (.ref p),some (.ref pf),some (.ref pz),some (.ref pk),z6,none,none,none,none,none]/\Same H H'/\H' pz=some (.lst (ws.map V.ref))/\TuH H' ws ls/\H' pk=some (.lst (KP.map V.int))/\PolK KP ls) ?_ ?_
  case refine_2 =>
   intro rest;refine⟨_,rfl,_,_,rfl,rfl,(by show(0:Int)<4;decide),_,_,rfl,rfl,_,rfl,aG (λ_=>?_) (λ_=>rest _ _ ⟨pz,pk,none,_,_,_,rfl,ta,eza,hWa,ek,PK0⟩)⟩;refine ax ⟨_,rfl,sa,ns,3,rfl,ta.seq hS,_,_,rfl,by decide,λpo l hpo hl=>?_⟩;have g1:=Same.upd_new (o:=.tup (l.map V.int)) hpo;have eo:upd Ha po (.tup (l.map V.int)) po=some (.tup (l.map V.int)):=ar;show bU _ _ _ [some (.ref sa),some (.int c0),some (.ref p),some (.ref pf),some (.ref pz),some (.ref pk),some (.ref po),none,none,none,none,none] (upd Ha po (.tup (l.map V.int)));generalize upd Ha po (.tup (l.map V.int))=Hc at g1 eo ⊢
   refine cS (λσ' H'=>∃(po:Addr) (l:List Int),σ'=[some (.ref sa),some (.int c0),some (.ref p),some (.ref pf),some (.ref pz),some (.ref pk),some (.ref po),none,none,none,none,none]/\Same H H'/\H' po=some (.tup (l.map V.int))/\Fac 11 l/\0<=cf l 1) ?_ ?_
   case refine_2 =>intro rest2;obtain⟨u,e,b',rfl,h1,h2,h3,h4,h5,h6,h7⟩:=id hl;refine⟨_,rfl,po,_,_,_,rfl,rfl,SqT.of eo,rfl,_,_,rfl,rfl,_,rfl,aG (λ_=>?_) (λz=>rest2 _ _ ⟨po,_,rfl,ta.trans g1,eo,hl,by show 0<=e;have z':¬e<0:=z;omega⟩)⟩;refine cq ⟨_,rfl,po,_,_,_,rfl,rfl,SqT.of eo,rfl,_,rfl,po,_,_,_,rfl,rfl,SqT.of eo,rfl,by show 3<=sizeLine;decide,λpo2 hpo2=>?_⟩;exact rest2 _ _ ⟨po2,[u,0,b'],rfl,(ta.trans g1).then_new hpo2,ar,⟨u,0,b',rfl,h1,h2,by decide,by decide,h5,h6,.inl (HV _)⟩,HV _⟩
   clear eo hl g1 hpo;rintro σ' Hd ⟨po,l,rfl,td,eo,hl,he⟩;refine ax ⟨_,rfl,by show 1<=sizeLine;decide,λv1 hv1=>?_⟩;have w1:=Same.upd_new (o:=.lst [.ref po]) hv1;have f1:upd Hd v1 (.lst [.ref po]) v1=some (.lst ([po].map V.ref)):=ar;refine⟨v1,[po],[l],rfl,f1,TuH.nil.snoc (w1 _ _ eo),λl' h'=>by rw[G1.mp h'];exact gU hl,by show 1<=100;decide,λpz He ws w2 hpz ez hW=>?_⟩;have te:=td.trans (w1.trans w2);refine cq ⟨_,rfl,po,l,rfl,(w1.trans w2) _ _ eo,gU hl,λpk Hf w3 hpk ek=>?_⟩;exact rest _ _ ⟨pz,pk,_,ws,_,_,rfl,te.trans w3,w3 _ _ ez,hW.same w3,ek,yk hl he⟩
  clear PK0 hWa eza ek ua ta hpk sk e2 e1 hr2 hr1 s9 s8 hW3 x3 ez w3 hpz sl hW f2 hv2 w2 f1 w1 hv1 pb pl ep fl hCT6 hCT;rintro σ' Hb' ⟨pz,pk,z6,ws,ls,KP,rfl,tb,ez,hW,ek,PK⟩;have wl:ws.length=ls.length:=hW.1;have l0:=PK.ne;have l10:=PK.few;have wml:(ws.map V.ref).length=ls.length:=by rw[GO,wl]
  have at_i:∀{i:Nat} {x:Int},x=(i:Int)->i<ls.length->∃(q:Addr) (l:List Int),atI (ws.map V.ref) x=some (.ref q)/\l∈ls/\Hb' q=some (.tup (l.map V.int)):=λ{i x} e hi=>by
   have hi':i<ws.length:=by omega
   refine⟨ws[i],ls[i],?_,Hu hi,hW.2 i _ _ (List.getElem?_eq_getElem hi') (List.getElem?_eq_getElem hi)⟩;rw[e];exact fA (by rw[List.getElem?_map,List.getElem?_eq_getElem hi'];rfl)
  obtain⟨q0,m0,ea0,hm0,hq0⟩:=at_i (i:=0) (rfl:(0:Int)=((0:Nat):Int)) l0;refine ax ⟨_,rfl,pz,_,_,_,rfl,rfl,SqL.of ez,ea0,?_⟩;show bU _ _ _ [some (.ref sa),some (.int c0),some (.ref p),some (.ref pf),some (.ref pz),some (.ref pk),z6,some (.ref q0),none,none,none,none] Hb';refine cS (λσ' H'=>∃(q:Addr) (l:List Int),σ'=[some (.ref sa),some (.int c0),some (.ref p),some (.ref pf),some (.ref pz),some (.ref pk),z6,some (.ref q),none,none,none,none]/\Hb'=H'/\l∈ls/\Hb' q=some (.tup (l.map V.int))) ?_ ?_
  case refine_2 =>
   intro rest;refine⟨_,rfl,_,_,rfl,rfl,(by show(0:Int)<4;decide),_,_,rfl,rfl,_,rfl,aG (λ_=>?_) (λ_=>rest _ _ ⟨q0,m0,rfl,rfl,hm0,hq0⟩)⟩
   obtain⟨i,hi,ei⟩:∃i:Nat,i<ls.length/\c0/84%((ws.map V.ref).length:Int)=(i:Int):=by
    rw[wml];have h1:(0:Int)<(ls.length:Int):=by omega
    obtain⟨e1,e2⟩:=cX (x:=c0/84) (m:=(ls.length:Int)) h1;exact⟨(c0/84%(ls.length:Int)).toNat,by omega,by rw[Int.toNat_of_nonneg e1]⟩
   obtain⟨q,l,ea,hl,hq⟩:=at_i ei hi;exact cq ⟨_,rfl,_,rfl,_,_,rfl,rfl,⟨by show(0:Int)<84;decide,bZ (by decide) (by decide)⟩,_,rfl,pz,_,rfl,.inl (SqL.of ez),_,_,rfl,rfl,(by show(0:Int)<((ws.map V.ref).length:Int);rw[wml];omega),pz,_,_,_,rfl,rfl,SqL.of ez,ea,rest _ _ ⟨q,l,rfl,rfl,hl,hq⟩⟩
  clear hq0 hm0 ea0 q0 m0;rintro σ' H' ⟨q,l,rfl,rfl,hl,hq⟩;obtain⟨e1,e2⟩:=cX (x:=c0/4) (m:=21) (by decide);refine ax ⟨_,rfl,_,rfl,_,rfl,_,_,rfl,rfl,⟨by show(0:Int)<4;decide,bZ (by decide) (by decide)⟩,_,_,rfl,rfl,(by show(0:Int)<21;decide),pz,q,_,ws,KP,l,ls,rfl,e1,by omega,ez,hW,hq,hl,PK.fel,λts Hc sp j sc hts ets S hA hj=>?_⟩;have tc:=tb.trans sc;have ekc:=sc _ _ ek;obtain⟨PR,hrun,eKP,hcnt⟩:=rp PK hl S hA;have hJ:=yj PK hl S hA;obtain⟨b1,b2,b3⟩:=jX S (by omega);have n0:=S.pos;have ne:sp.2.2≠0:=by omega
  generalize hrw:aF 9 KP (ah (slopeL KP))=r at PR hcnt hJ
  show bU _ _ _ [some (.ref sa),some (.int c0),some (.ref p),some (.ref pf),some (.ref pz),some (.ref pk),z6,some (.ref q),some (.ref ts),none,none,none] Hc;refine ax ⟨_,rfl,pk,_,rfl,.inl (SqL.of ekc),λrr hrr=>?_⟩;have u1:=Same.upd_new (o:=.lst (KP.map V.int)) hrr;have g1:upd Hc rr (.lst (KP.map V.int)) rr=some (.lst (KP.map V.int)):=ar;generalize upd Hc rr (.lst (KP.map V.int))=H1 at u1 g1 ⊢
  have ht1:=u1 _ _ ets;refine⟨_,rfl,ts,_,_,_,rfl,rfl,SqT.of ht1,rfl,_,rfl,ts,_,_,_,rfl,rfl,SqT.of ht1,rfl,su ne (b3.mono) λlo H2 u2 hlo rl=>?_⟩;have ht2:=u2 _ _ ht1;refine⟨_,rfl,ts,_,_,_,rfl,rfl,SqT.of ht2,rfl,_,rfl,ts,_,_,_,rfl,rfl,SqT.of ht2,rfl,su ne (b3.mono) λhi H3 u3 hhi rh=>?_⟩;refine Aw (u3 _ _ (u2 _ _ g1)) λo qn H4 u4 ho hNA hqn hqn0=>?_
  have v4:=u1.trans (u2.trans (u3.trans u4));have t4:=tc.trans v4;have ek4:=v4 _ _ ekc;have ets4:=v4 _ _ ets;have rl4:=rl.same (u3.trans u4);have rh4:=rh.same u4;obtain⟨dO,hO⟩:=id hNA;show bU _ _ _ [some (.ref sa),some (.int c0),some (.ref p),some (.ref pf),some (.ref pz),some (.ref pk),z6,some (.ref q),some (.ref ts),some (.ref o),none,none] H4;have smallR:∀xs∈r,xs≠[]/\AllB 95000 xs/\xs.length<=8:=λxs h=>⟨(PR.rws xs h).ne,(PR.rws xs h).b.mono,by have:=(PR.rws xs h).l;omega⟩
  have hrw':aF 9 (ah KP) (ah (slopeL KP))=r:=by rw[eKP];exact hrw
  have B1:Bits 400 sp.1:=b1.mono;have B2:Bits 400 sp.2.1:=b2.mono;have B3:Bits 400 sp.2.2:=b3.mono;have few:=PR.few;have kl:=PK.len;refine ax ⟨_,rfl,o,qn,lo,hi,KP,9,rfl,hNA,hqn,PK.pln.tr,PK.b.mono,by omega,by decide,hrun,by rw[hrw'];exact PR.two,by rw[hrw'];omega,by rw[hrw'];exact smallR,λtp l1 lk ps lks H5 s5 etp el1 hR elk hLk nl nk nps=>?_⟩;rw[hrw']at hR hLk;have t5:=t4.trans s5;refine bI (bV (cx ⟨_,rfl,_,rfl,_,rfl,tp,l1,lk,pk,ts,ps,lks,r,KP,sp,rfl,etp,el1,hR,elk,hLk,s5 _ _ ek4,s5 _ _ ets4,PR,B1,B2,B3,n0,hcnt,λH6 s6=>⟨_,rfl,bG ?_⟩⟩));have u6:=s5.trans s6;refine⟨_,rfl,o,CN,dO,_,_,rfl,u6 _ _ hO,RN.cl,RN.nP,mO _ _ _,_,rfl,qn,pk,_,_,rfl,rfl,SqL.of (u6 _ _ hqn),SqL.of (u6 _ _ ek4),_,rfl,b9 (λz=>absurd rfl z) (λ_=>?_)⟩;refine ax ⟨_,rfl,pk,_,rfl,.inl (SqL.of (u6 _ _ ek4)),λr7 hr7=>?_⟩;have s7:=Same.upd_new (o:=.lst (KP.map V.int)) hr7;have e7:upd H6 r7 (.lst (KP.map V.int)) r7=some (.lst (KP.map V.int)):=ar;generalize upd H6 r7 (.lst (KP.map V.int))=H7 at s7 e7 ⊢
  have u7:=u6.trans s7;have w7:=s6.trans s7;refine⟨_,rfl,o,CN,dO,_,_,rfl,u7 _ _ hO,RN.cl,RN.nL,Cf _ _ _,_,rfl,o,CN,dO,_,_,rfl,u7 _ _ hO,RN.cl,RN.nH,Cg _ _ _,_,rfl,?_⟩;refine⟨r7,lo,hi,tp,l1,lk,ps,lks,KP,r,cg r,_,_,_,_,rfl,w7 _ _ etp,rl4.same u7,rh4.same u7,qB ne B1,qK ne B3,qB ne B2,qK ne B3,e7,w7 _ _ el1,hR.same w7,PR.rwb,w7 _ _ elk,hLk.same w7,PR.lkb,PK.pln.tr,by omega,PK.b.mono,by omega,by unfold cg;rw[GO,Hm];omega,λbb H8 s8 hb8=>?_⟩;have hb:bb=true:=hb8.mpr hJ;subst hb;have w8:=w7.trans s8;have u8:=u7.trans s8;refine bI (bV (cx (fR (dG ⟨_,rfl,dU (.bl _) (k:=true) (by rfl) ⟨_,rfl,bG ?_⟩⟩))));refine cx ⟨_,rfl,_,rfl,bG ?_⟩;have etp8:=w8 _ _ etp;have el8:=w8 _ _ el1;obtain⟨p0,ea0,h0⟩:=cK (hR.same w8) (show 0<r.length by have:=PR.two;omega) (rfl:(0:Int)=((0:Nat):Int))
  have hp0m:p0∈ps:=by obtain⟨_,_,gx,_⟩:=nR ea0;obtain⟨y,hy,ey⟩:=GT.mp (List.mem_of_getElem? gx);cases ey;exact hy
  have np0:=nps p0 hp0m;refine gC ⟨_,rfl,tp,_,_,_,rfl,rfl,SqT.of etp8,rfl,l1,_,_,_,rfl,rfl,SqL.of el8,ea0,.inl ⟨rfl,_,SqL.of h0⟩,p0,_,_,rfl,rfl,h0,by rw[GO];have:=(PR.at (show 0<r.length by have:=PR.two;omega)).l;omega,?_⟩;have x9:=dM (o:=.lst ((r.getD 0 []).map V.int++[.int 1])) u8 np0;have etp9:upd H8 p0 (.lst ((r.getD 0 []).map V.int++[.int 1])) tp=some (.tup [.ref l1,.ref lk]):=by rw[upd_ne (λz=>by rw[z,h0]at etp8;cases etp8)];exact etp8
  have elk8:=w8 _ _ elk
  have elk9:∃vs,upd H8 p0 (.lst ((r.getD 0 []).map V.int++[.int 1])) lk=some (.lst vs):=by
   by_cases z:lk=p0
   ·rw[z,ar];exact⟨_,rfl⟩
   ·rw[upd_ne z];exact⟨_,elk8⟩
  show bU _ _ _ _ (upd H8 p0 (.lst ((r.getD 0 []).map V.int++[.int 1])));generalize upd H8 p0 (.lst ((r.getD 0 []).map V.int++[.int 1]))=H9 at x9 etp9 elk9 ⊢
  obtain⟨vs,elk9⟩:=elk9;refine gC ⟨_,rfl,tp,_,_,_,rfl,rfl,SqT.of etp9,rfl,.inl ⟨rfl,_,SqL.of elk9⟩,lk,_,rfl,rfl,elk9,?_⟩;have x10:=dM (o:=.lst []) x9 nk;show jO _ _ _ (upd H9 lk (.lst []));generalize upd H9 lk (.lst [])=Hz at x10 ⊢
  refine aY (fQ ⟨_,rfl,o,CN,dO,_,_,rfl,x10 _ _ hO,RN.cl,RN.nP,mO _ _ _,_,rfl,qn,pk,_,_,rfl,rfl,SqL.of (x10 _ _ hqn),SqL.of (x10 _ _ ek4),_,rfl,aG (λ_=>?_) (λz=>absurd rfl z)⟩);refine⟨_,rfl,o,qn,lo,hi,KP,9,rfl,hNA.same x10,x10 _ _ hqn,PK.pln.tr,PK.b.mono,by omega,by decide,hrun,by rw[hrw'];exact PR.two,by rw[hrw'];omega,by rw[hrw'];exact smallR,λtp2 l2 lk2 ps2 lks2 Hy s11 etp2 el2 hR2 elk2 hLk2 _ _ _=>?_⟩;rw[hrw']at hR2 hLk2;have x11:=x10.trans s11;exact⟨_,rfl,_,rfl,tp2,l2,lk2,pk,ts,ps2,lks2,r,KP,sp,rfl,etp2,el2,hR2,elk2,hLk2,x11 _ _ ek4,x11 _ _ ets4,PR,B1,B2,B3,n0,hcnt,λHx _=>fin Hx⟩
end
def FnL(K:PySem.W.Frag)(n:Str)(st:Stmt):Prop:=∃f fd,PySem.W.nsIn K mainGlobals n=some (some (.ref f))/\Fun K n n st f fd
def MtL(K:PySem.W.Frag)(C:Addr)(n q:Str)(st:Stmt):Prop:=∃f fd,PySem.W.findIn K (.ref C) n=some (some (.ref f))/\PySem.W.isFn K (.ref f)=true/\Fun K n q st f fd
structure ClL(K:PySem.W.Frag)(n:Str)(C:Addr):Prop where
 a:PySem.W.nsIn K mainGlobals n=some (some (.ref C))
 pg:PySem.W.plainGet K C Str.empty=true
 hd:PySem.W.hasDictIn K C=true
 po:PySem.W.plainOver K C=true
 sa:PySem.W.findIn K (.ref C) "__setattr__"=some (some (.builtin "object.__setattr__"))
 mkr:PySem.W.makesIn K C=true
 kc:PySem.W.keepIn K (.ref C)=true
 ha:PySem.W.findIn K (.ref C) "__class__"=some (some (.builtin "object.__class__"))
 hn:PySem.W.specialIn K (.builtin "object.__class__") "__get__"=some (some (.builtin "getset_descriptor.__get__"))
 ht:PySem.W.takesIn K (.builtin "object.__class__")=some true
 hm:PySem.W.mroIn K C (.type "object")=some true
section
variable {P:Program}{w:World}{K:PySem.W.Frag}{mg:Str->Option Value}{h base:Heap}{n q:Str}{st:Stmt}{f C:Addr}{oc kV dc pm cd ct:Value}{od an:Option Addr}{sl:Array (Option Value)}{fd:FuncData}{k:Nat}{ps:List Str}{sp:Sp}
theorem fnL(a:PySem.W.nsIn K mainGlobals n=some (some (.ref f)))(l:K.lookup f=some ⟨oc,od,.func (PySem.W.fnOf n n (cJ st) (cw st) (av st) .none kV dc pm an cd ct),sl⟩)(c:PySem.W.codeIn K cd n=true)(k:PySem.W.keepIn K (.ref f)=true):FnL K n st:=⟨_,_,a,tT l c k⟩
theorem mtL(a:PySem.W.findIn K (.ref C) n=some (some (.ref f)))(i:PySem.W.isFn K (.ref f)=true)(l:K.lookup f=some ⟨oc,od,.func (PySem.W.fnOf n q (cJ st) (cw st) (av st) .none kV dc pm an cd ct),sl⟩)(c:PySem.W.codeIn K cd q=true)(k:PySem.W.keepIn K (.ref f)=true):MtL K C n q st:=⟨_,_,a,i,tT l c k⟩
def Bx(P:Program)(w:World)(base:Heap):Prop:=P=P/\w=w/\base=base
def BdR(n q:Str)(st:Stmt)(ps:List Str):Prop:=∀(kV doc pm:Value) (an:Option Addr) (cdv ct:Value) (us:List Value),us.length=ps.length->bindArgs (PySem.W.fnOf n q (cJ st) (cw st) (av st) .none kV doc pm an cdv ct) ⟨us,[]⟩=pure (ps.zip us)
theorem cal(_:Bx P w base)(X:K.In h)(G:h.Ns mainGlobals mg)(a:PySem.W.nsIn K mainGlobals n=some (some (.ref f)))(F:Fun K n n st f fd)(o:FnOk P w K mg base CX0 k f fd ps sp)(b:BdR n n st ps):Cal P w K mg base k n ps sp f fd:=⟨o,PySem.W.mg_of X G a,F.kp,F.binds b⟩
theorem Aq(_:Bx P w base)(a:PySem.W.findIn K (.ref C) n=some (some (.ref f)))(i:PySem.W.isFn K (.ref f)=true)(F:Fun K n q st f fd)(o:FnOk P w K mg base CX0 k f fd ps sp)(b:BdR n q st ps):MCal P w K mg base k C n ps sp f fd:=⟨o,⟨a,i,F.kp⟩,F.binds b⟩
theorem us1{A:List Value->Prop}(h:∀a,A [a]):∀us:List Value,us.length=1->A us
 | [a],_=>h a
theorem us2{A:List Value->Prop}(h:∀a b,A [a,b]):∀us:List Value,us.length=2->A us
 | [a,b],_=>h a b
theorem us3{A:List Value->Prop}(h:∀a b c,A [a,b,c]):∀us:List Value,us.length=3->A us
 | [a,b,c],_=>h a b c
theorem us4{A:List Value->Prop}(h:∀a b c d,A [a,b,c,d]):∀us:List Value,us.length=4->A us
 | [a,b,c,d],_=>h a b c d
end
theorem all_mk{l:PySem.W.OpenLaw}{w:World}{K:PySem.W.Frag}{h:Heap}{mg:Str->Option Value}{fa CC1 CC2 f4 dt4:Addr}(X:K.In h)(G:h.Ns mainGlobals mg)(hfa:mg "law"=some (.ref fa))
 {od4 an4 odt4:Option Addr} {sl4 slt4:Array (Option Value)} {oc4 kV4 dc4 pm4 cd4 ct4 oct4:Value} {nt4:Nat} {tk4_0:Tok}
 (cc1:ClL K "Ratio" CC1)
 (n1_top:PySem.W.findIn K (.ref CC1) "top"=some none)
 (n1_bottom:PySem.W.findIn K (.ref CC1) "bottom"=some none)
 (cc2:ClL K "Number" CC2)
 (n2_poly:PySem.W.findIn K (.ref CC2) "poly"=some none)
 (n2_low:PySem.W.findIn K (.ref CC2) "low"=some none)
 (n2_high:PySem.W.findIn K (.ref CC2) "high"=some none)
 (a4:PySem.W.findIn K (.ref CC1) "__init__"=some (some (.ref f4))) (i4:PySem.W.isFn K (.ref f4)=true)
 (l4:K.lookup f4=some ⟨oc4,od4,.func (PySem.W.fnOf "__init__" "Ratio.__init__" (cJ fN) (cw fN) (av fN) (.ref dt4) kV4 dc4 pm4 an4 cd4 ct4),sl4⟩) (c4:PySem.W.codeIn K cd4 "Ratio.__init__"=true) (k4:PySem.W.keepIn K (.ref f4)=true)
 (t4:K.lookup dt4=some ⟨oct4,odt4,.seq #[.int 1 tk4_0] nt4,slt4⟩)
 (z0:PySem.W.nsIn K mainGlobals "abs"=some none)
 (z1:PySem.W.nsIn K mainGlobals "len"=some none)
 (z2:PySem.W.nsIn K mainGlobals "max"=some none)
 (z3:PySem.W.nsIn K mainGlobals "range"=some none)
 (z4:PySem.W.nsIn K mainGlobals "enumerate"=some none)
 (z5:PySem.W.nsIn K mainGlobals "reversed"=some none)
 (z6:PySem.W.nsIn K mainGlobals "list"=some none)
 (z7:PySem.W.nsIn K mainGlobals "all"=some none)
 (z8:PySem.W.nsIn K mainGlobals "isinstance"=some none)
 (z9:PySem.W.nsIn K mainGlobals "int"=some none)
 (z10:PySem.W.nsIn K mainGlobals "bool"=some none)
 (z11:PySem.W.nsIn K mainGlobals "tuple"=some none)
 (l1:FnL K "shared_by_two" km)
 (l2:FnL K "shared" kn)
 (l3:FnL K "whole_sign" kf)
 (l5:MtL K CC1 "against" "Ratio.against" lg)
 (l6:FnL K "poly" kv)
 (l7:FnL K "degree" kC)
 (l8:FnL K "coefficient" kE)
 (l9:FnL K "taken" kh)
 (l10:FnL K "multiplied" kx)
 (l11:FnL K "slope" ki)
 (l12:FnL K "shrunk" iI)
 (l13:FnL K "scaled" ko)
 (l14:FnL K "lowered" ky)
 (l15:FnL K "divided" kB)
 (l16:FnL K "row_from" kt)
 (l17:FnL K "row_of" kr)
 (l18:FnL K "value_parts" kg)
 (l19:FnL K "sign_at" kj)
 (l20:FnL K "changes" kF)
 (l21:FnL K "count" kD)
 (l22:MtL K CC2 "__init__" "Number.__init__" lh)
 (l23:FnL K "link_of" kz)
 (l24:FnL K "root_paper" ku)
 (l25:FnL K "link_holds" iJ)
 (l26:FnL K "holds_together" iL)
 (l27:FnL K "just_one" kA)
 (l28:FnL K "_law_cell_at" k9)
 (l29:FnL K "_law_whole" kH)
 (l30:FnL K "_law_within" kG)
 (l31:FnL K "_law_trim" kJ)
 (l32:FnL K "_law_mul" kS)
 (l33:FnL K "_law_add" lf)
 (l34:FnL K "_law_is_poly" kT)
 (l35:FnL K "_law_gcd" kW)
 (l36:FnL K "_law_shrunk" iM)
 (l37:FnL K "_law_plain" kQ)
 (l38:FnL K "_law_factor_by" kX)
 (l39:FnL K "_law_shape" kN)
 (l40:FnL K "_law_factors_by" iP)
 (l41:FnL K "_law_product" kP)
 (l42:FnL K "_law_sure" kK)
 (l43:FnL K "_law_side" kM)
 (l44:FnL K "_law_roots_of" kO)
 (l45:FnL K "_law_norm" kR)
 (l46:FnL K "_law_cube_shape" kY)
 (l47:FnL K "_law_cube_by" kZ)
 (l48:FnL K "_law_way" kI)
 (l49:FnL K "_law_alone" iQ)
 (l50:FnL K "_law_half" kU)
 (l51:FnL K "_law_span" kL)
 (l52:FnL K "_law_at" ld)
 (l53:FnL K "_law_changes" k8)
 (l54:FnL K "_law_link_holds" iN)
 (l55:FnL K "_law_holds" iO)
 (l56:FnL K "law" iK)
 (hTr:l.prog.given.tree=none)
 : ∃fd:FuncData,(∀(s:Shared) (v:Value),BindsTo s fd ⟨[v],[]⟩ [("_law_script",v)])/\∀base:Heap,K.In base->base.Ns mainGlobals mg->base.NoSeer->FnOk l.prog w K mg base CX0 40 fa fd ["_law_script"] (iB K):=by
 obtain⟨_,_,a1,F1⟩:=l1;obtain⟨_,_,a2,F2⟩:=l2;obtain⟨_,_,a3,F3⟩:=l3;obtain⟨_,_,a5,i5,F5⟩:=l5;obtain⟨_,_,a6,F6⟩:=l6;obtain⟨_,_,a7,F7⟩:=l7;obtain⟨_,_,a8,F8⟩:=l8;obtain⟨_,_,a9,F9⟩:=l9;obtain⟨_,_,a10,F10⟩:=l10;obtain⟨_,_,a11,F11⟩:=l11;obtain⟨_,_,a12,F12⟩:=l12;obtain⟨_,_,a13,F13⟩:=l13;obtain⟨_,_,a14,F14⟩:=l14;obtain⟨_,_,a15,F15⟩:=l15;obtain⟨_,_,a16,F16⟩:=l16;obtain⟨_,_,a17,F17⟩:=l17;obtain⟨_,_,a18,F18⟩:=l18;obtain⟨_,_,a19,F19⟩:=l19;obtain⟨_,_,a20,F20⟩:=l20;obtain⟨_,_,a21,F21⟩:=l21;obtain⟨_,_,a22,i22,F22⟩:=l22;obtain⟨_,_,a23,F23⟩:=l23;obtain⟨_,_,a24,F24⟩:=l24;obtain⟨_,_,a25,F25⟩:=l25;obtain⟨_,_,a26,F26⟩:=l26;obtain⟨_,_,a27,F27⟩:=l27;obtain⟨_,_,a28,F28⟩:=l28;obtain⟨_,_,a29,F29⟩:=l29;obtain⟨_,_,a30,F30⟩:=l30;obtain⟨_,_,a31,F31⟩:=l31;obtain⟨_,_,a32,F32⟩:=l32;obtain⟨_,_,a33,F33⟩:=l33;obtain⟨_,_,a34,F34⟩:=l34;obtain⟨_,_,a35,F35⟩:=l35;obtain⟨_,_,a36,F36⟩:=l36;obtain⟨_,_,a37,F37⟩:=l37;obtain⟨_,_,a38,F38⟩:=l38;obtain⟨_,_,a39,F39⟩:=l39;obtain⟨_,_,a40,F40⟩:=l40;obtain⟨_,_,a41,F41⟩:=l41;obtain⟨_,_,a42,F42⟩:=l42;obtain⟨_,_,a43,F43⟩:=l43;obtain⟨_,_,a44,F44⟩:=l44;obtain⟨_,_,a45,F45⟩:=l45;obtain⟨_,_,a46,F46⟩:=l46;obtain⟨_,_,a47,F47⟩:=l47;obtain⟨_,_,a48,F48⟩:=l48;obtain⟨_,_,a49,F49⟩:=l49;obtain⟨_,_,a50,F50⟩:=l50;obtain⟨_,_,a51,F51⟩:=l51;obtain⟨_,_,a52,F52⟩:=l52;obtain⟨_,_,a53,F53⟩:=l53;obtain⟨_,_,a54,F54⟩:=l54;obtain⟨_,_,a55,F55⟩:=l55;obtain⟨_,fdL,a56,F56⟩:=l56;cases hfa.symm.trans (PySem.W.mg_of X G a56);have T:Txt K mg:=⟨PySem.W.mg_none_of X G z0,PySem.W.mg_none_of X G z1,PySem.W.mg_none_of X G z2,PySem.W.mg_none_of X G z3,PySem.W.mg_none_of X G z4,PySem.W.mg_none_of X G z5,PySem.W.mg_none_of X G z6,PySem.W.mg_none_of X G z7,PySem.W.mg_none_of X G z8,PySem.W.mg_none_of X G z9,PySem.W.mg_none_of X G z10,PySem.W.mg_none_of X G z11⟩;have R1:RCI K mg CC1:=⟨⟨cc1.pg,cc1.hd,cc1.po,cc1.sa⟩,n1_top,n1_bottom,PySem.W.mg_of X G cc1.a,cc1.ha,cc1.hn,cc1.ht,cc1.hm⟩;have R2:NCI K mg CC2:=⟨⟨cc2.pg,cc2.hd,cc2.po,cc2.sa⟩,n2_poly,n2_low,n2_high,PySem.W.mg_of X G cc2.a,cc2.ha,cc2.hn,cc2.ht,cc2.hm⟩;have F4:=Cc (st:=fN) l4 c4 k4;have b4:=FunD.bindsD (ps:=["self","top","bottom"]) (ds:=[]) (tup:=[.int 1 tk4_0]) 3 F4 t4 rfl rfl λ_ _ _ _ _ _=>us3 λ_ _ _=>⟨_,rfl,rfl⟩
 have bD4:=FunD.bindsD (ps:=["self","top","bottom"]) (ds:=[.int 1 tk4_0]) (tup:=[.int 1 tk4_0]) 2 F4 t4 rfl rfl λ_ _ _ _ _ _=>us2 λ_ _=>⟨_,rfl,rfl⟩
 obtain⟨_,_,_,_,_,_,_,_,_,e,_,_⟩:=F56.ex;refine⟨fdL,λs v=>.of_eq (by rw[e];rfl),λbase KB GB hNS=>?_⟩;have Z:Bx l.prog w base:=⟨rfl,rfl,rfl⟩;have C1:=cal Z X G a1 F1 (yX F1 T) λ_ _ _ _ _ _=>us2 λ_ _=>rfl
 have C2:=cal Z X G a2 F2 (yY F2 T C1) λ_ _ _ _ _ _=>us1 λ_=>rfl
 have C3:=cal Z X G a3 F3 (yR F3 T) λ_ _ _ _ _ _=>us1 λ_=>rfl
 have K1:KCal l.prog w K mg base 2 CC1 "Ratio" ["self","top","bottom"] (iD CC1) _ _ _ [.int 1]:=⟨zQ F4 T R1 C1,⟨cc1.mkr,a4,i4,cc1.kc⟩,PySem.W.mg_of X G cc1.a,b4,bD4,.cons ⟨_,rfl⟩ .nil⟩;have C5:=Aq Z a5 i5 F5 (zP F5 T R1 C3) λ_ _ _ _ _ _=>us2 λ_ _=>rfl
 have C6:=cal Z X G a6 F6 (y9 F6 T) λ_ _ _ _ _ _=>us1 λ_=>rfl
 have C7:=cal Z X G a7 F7 (zi F7 T) λ_ _ _ _ _ _=>us1 λ_=>rfl
 have C8:=cal Z X G a8 F8 (zk F8 T) λ_ _ _ _ _ _=>us2 λ_ _=>rfl
 have C9:=cal Z X G a9 F9 (yT F9 T C6 C8) λ_ _ _ _ _ _=>us2 λ_ _=>rfl
 have C10:=cal Z X G a10 F10 (za F10 T) λ_ _ _ _ _ _=>us2 λ_ _=>rfl
 have C11:=cal Z X G a11 F11 (yU F11 T) λ_ _ _ _ _ _=>us1 λ_=>rfl
 have C12:=cal Z X G a12 F12 (yW F12 T hNS hTr C2) λ_ _ _ _ _ _=>us1 λ_=>rfl
 have C13:=cal Z X G a13 F13 (yZ F13 T) λ_ _ _ _ _ _=>us2 λ_ _=>rfl
 have C14:=cal Z X G a14 F14 (zb F14 T) λ_ _ _ _ _ _=>us4 λ_ _ _ _=>rfl
 have C15:=cal Z X G a15 F15 (zh F15 T C3 C7 C13 C14 C6) λ_ _ _ _ _ _=>us2 λ_ _=>rfl
 have C16:=cal Z X G a16 F16 (y7 F16 T C12 C15 C9) λ_ _ _ _ _ _=>us2 λ_ _=>rfl
 have C17:=cal Z X G a17 F17 (y6 F17 T C16 C11) λ_ _ _ _ _ _=>us1 λ_=>rfl
 have C18:=cal Z X G a18 F18 (yS F18 T) λ_ _ _ _ _ _=>us3 λ_ _ _=>rfl
 have C19:=cal Z X G a19 F19 (yV F19 T R1 C18 C3) λ_ _ _ _ _ _=>us2 λ_ _=>rfl
 have C20:=cal Z X G a20 F20 (zl F20 T R1 C19) λ_ _ _ _ _ _=>us2 λ_ _=>rfl
 have C21:=cal Z X G a21 F21 (zj F21 T R1 C20) λ_ _ _ _ _ _=>us3 λ_ _ _=>rfl
 have b22:Binds K _ ["self","row","low","high"] []:=F22.binds (λ_ _ _ _ _ _=>us4 λ_ _ _ _=>rfl);have K2:KCal l.prog w K mg base 1 CC2 "Number" ["self","row","low","high"] (iC CC2) _ _ _ []:=⟨zR F22 T R2,⟨cc2.mkr,a22,i22,cc2.kc⟩,PySem.W.mg_of X G cc2.a,b22,b22,.nil⟩;have C23:=cal Z X G a23 F23 (zc F23 T C15 C2) λ_ _ _ _ _ _=>us2 λ_ _=>rfl
 have C24:=cal Z X G a24 F24 (y8 F24 T R2 C17 C23) λ_ _ _ _ _ _=>us1 λ_=>rfl
 have C25:=cal Z X G a25 F25 (zd F25 T C10 C9) λ_ _ _ _ _ _=>us3 λ_ _ _=>rfl
 have C26:=cal Z X G a26 F26 (zg F26 T C12 C11 C7 C25) λ_ _ _ _ _ _=>us3 λ_ _ _=>rfl
 have C27:=cal Z X G a27 F27 (zf F27 T R1 C26 C5 C21) λ_ _ _ _ _ _=>us4 λ_ _ _ _=>rfl
 have C28:=cal Z X G a28 F28 (zL F28 T) λ_ _ _ _ _ _=>us2 λ_ _=>rfl
 have C29:=cal Z X G a29 F29 (zn F29 T) λ_ _ _ _ _ _=>us1 λ_=>rfl
 have C30:=cal Z X G a30 F30 (zm F30 T) λ_ _ _ _ _ _=>us2 λ_ _=>rfl
 have C31:=cal Z X G a31 F31 (zp F31 T) λ_ _ _ _ _ _=>us1 λ_=>rfl
 have C32:=cal Z X G a32 F32 (zA F32 T) λ_ _ _ _ _ _=>us2 λ_ _=>rfl
 have C33:=cal Z X G a33 F33 (zO F33 T C28 C31) λ_ _ _ _ _ _=>us2 λ_ _=>rfl
 have C34:=cal Z X G a34 F34 (zC F34 T C29) λ_ _ _ _ _ _=>us1 λ_=>rfl
 have C35:=cal Z X G a35 F35 (zF F35 T) λ_ _ _ _ _ _=>us2 λ_ _=>rfl
 have C36:=cal Z X G a36 F36 (zu F36 T hNS hTr C35) λ_ _ _ _ _ _=>us1 λ_=>rfl
 have C37:=cal Z X G a37 F37 (zy F37 T C36) λ_ _ _ _ _ _=>us1 λ_=>rfl
 have C38:=cal Z X G a38 F38 (zH F38 T) λ_ _ _ _ _ _=>us2 λ_ _=>rfl
 have C39:=cal Z X G a39 F39 (zv F39 T C37) λ_ _ _ _ _ _=>us1 λ_=>rfl
 have C40:=cal Z X G a40 F40 (zG F40 T C38 C39) λ_ _ _ _ _ _=>us3 λ_ _ _=>rfl
 have C41:=cal Z X G a41 F41 (zx F41 T C32 C39) λ_ _ _ _ _ _=>us1 λ_=>rfl
 have C42:=cal Z X G a42 F42 (zq F42 T) λ_ _ _ _ _ _=>us2 λ_ _=>rfl
 have C43:=cal Z X G a43 F43 (zt F43 T C42) λ_ _ _ _ _ _=>us3 λ_ _ _=>rfl
 have C44:=cal Z X G a44 F44 (zw F44 T) λ_ _ _ _ _ _=>us1 λ_=>rfl
 have C45:=cal Z X G a45 F45 (zz F45 T) λ_ _ _ _ _ _=>us4 λ_ _ _ _=>rfl
 have C46:=cal Z X G a46 F46 (zI F46 T C45) λ_ _ _ _ _ _=>us1 λ_=>rfl
 have C47:=cal Z X G a47 F47 (zJ F47 T C30) λ_ _ _ _ _ _=>us3 λ_ _ _=>rfl
 have C48:=cal Z X G a48 F48 (zo F48 T C45 C43) λ_ _ _ _ _ _=>us3 λ_ _ _=>rfl
 have C49:=cal Z X G a49 F49 (zN F49 T C48) λ_ _ _ _ _ _=>us3 λ_ _ _=>rfl
 have C50:=cal Z X G a50 F50 (zE F50 T C48) λ_ _ _ _ _ _=>us2 λ_ _=>rfl
 have C51:=cal Z X G a51 F51 (zr F51 T C49 C50) λ_ _ _ _ _ _=>us3 λ_ _ _=>rfl
 have C52:=cal Z X G a52 F52 (zM F52 T) λ_ _ _ _ _ _=>us3 λ_ _ _=>rfl
 have C53:=cal Z X G a53 F53 (zK F53 T C52) λ_ _ _ _ _ _=>us3 λ_ _ _=>rfl
 have C54:=cal Z X G a54 F54 (zB F54 T C29 C34 C36 C33 C32) λ_ _ _ _ _ _=>us4 λ_ _ _ _=>rfl
 have C55:=cal Z X G a55 F55 (zD F55 T C34 C36 C54 C53) λ_ _ _ _ _ _=>us3 λ_ _ _=>rfl
 exact ze F56 T R1 R2 C28 C47 C40 C44 C32 C46 C41 C38 C39 C51 K2 K1 C24 C55 C27
theorem walk{l:PySem.W.OpenLaw}{q:Program}{loose:List Str}{XP:(Str->Option Value)->Heap->Prop}{YP:World->Heap->Prop}{d:DefRec}{K:Params->PySem.W.Frag}(hi:PyProof.Rows.importsNone q=true)(hn:l.most=some 63)(hdf:d.params.defaults=[])
 (hY:∀(w:World) (h:Heap),YP w h->(K w.params).In h)
 (F:∀(w:World) (mg:Str->Option Value) (fa:Addr) (h:Heap),(K w.params).In h->h.Ns mainGlobals mg->mg d.name=some (.ref fa) ->
   ∃fd:FuncData,(∀(s:Shared) (u:Value),BindsTo s fd ⟨[u],[]⟩ [("_law_script",u)])/\∀base:Heap,(K w.params).In base->base.Ns mainGlobals mg->base.NoSeer->FnOk l.prog w (K w.params) mg base CX0 40 fa fd ["_law_script"] (iB (K w.params))) :
 PySem.W.WalkO q loose XP YP l.row.toRowW d [] (λf vs=>PySem.call f vs) :=
 L2.walk_ofS (n:=63) (k:=40) (x:="_law_script") (CX:=λ_=>CX0) (sp:=λw=>iB (K w.params)) hi hn (by decide) hdf ⟨rfl,by decide,by decide⟩ hY F (λ_ _ a ns hl _ hS=>⟨a,ns,rfl,hS,hl,λ_=>rfl⟩) λ_ _ _ _ _ z=>z
section
end
end R81
open PySem PySem.W PyProof.Rows
set_option maxRecDepth 100000 in
set_option maxHeartbeats 0 in
theorem PySem.Challenge.cw_rootspan_k81_root_papers_holds : PySem.Challenge.rw_rootspan_k81_root_papers.Holds := by
 w_on;o_law;k_head;(case hw=>w_witness2)
 k_fill
 refine R81.walk (l:=PySem.Challenge.rw_rootspan_k81_root_papers) (by decide +kernel) rfl rfl (λw h Y=>PySem.W.kIn_of Y) ?F
 case F =>
  intro w mg fa h KX G hmg
  refine' R81.all_mk KX G hmg ?cc1 ?n1_top ?n1_bottom ?cc2 ?n2_poly ?n2_low ?n2_high ?a4 ?i4 ?l4 ?c4 ?k4 ?t4 ?_ ?_ ?_ ?_ ?_ ?_ ?_ ?_ ?_ ?_ ?_ ?_ ?_ ?_ ?_ ?_ ?_ ?_ ?_ ?_ ?_ ?_ ?_ ?_ ?_ ?_ ?_ ?_ ?_ ?_ ?_ ?_ ?_ ?_ ?_ ?_ ?_ ?_ ?_ ?_ ?_ ?_ ?_ ?_ ?_ ?_ ?_ ?_ ?_ ?_ ?_ ?_ ?_ ?_ ?_ ?_ ?_ ?_ ?_ ?_ ?_ ?_ ?_ ?_ ?_ ?_ ?_ rfl
  (case cc1=>apply R81.ClL.mk<;>k_is)
  (case n1_top=>k_is)
  (case n1_bottom=>k_is)
  (case cc2=>apply R81.ClL.mk<;>k_is)
  (case n2_poly=>k_is)
  (case n2_low=>k_is)
  (case n2_high=>k_is)
  (case a4=>k_is)
  (case i4=>k_is)
  (case l4=>k_is)
  (case c4=>k_is)
  (case k4=>k_is)
  (case t4=>k_is)
  all_goals first | (apply R81.fnL<;>k_is) | (apply R81.mtL<;>k_is) |k_is
