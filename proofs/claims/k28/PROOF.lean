import PyProof.Rows.All
import Wide.All
import OpenK.AllK
import Wide.FinOn
import Lean
import PyProof.EqAt
import PyProof.EqKinds
import PyProof.TupleCall
import PySem.Challenge.RW_restfigures_k28_figures_refused
set_option Elab.async false
set_option compiler.extract_closed false
set_option linter.all false
set_option maxRecDepth 100000
open List renaming length_map → xa,getElem?_eq_getElem → xm,mem_singleton → xo,mem_of_getElem? → xq,mem_cons → xt,mem_append_right → xu,getElem?_eq_some_iff → xv,length_append → xw,mem_cons_of_mem → xx,getD_eq_getElem?_getD → xA,size_toArray → xC,mem_cons_self → xD,map_append → xE,range → xH,mem_map → xI,mem_append_left → xJ,getElem?_map → xK,mem_append → xM,take_length → xS,map_cons → xW,getElem?_eq_none → xX,not_mem_nil → xY,length_range → xZ,length_take → ye,mem_filterMap → yh,map_map → yj,take_add_one → yn,length_cons → yr,getElem?_append_left → yt,mem_range → yu,mem_filter → yv,lookup_cons → yw,getElem?_of_mem → yx,append_nil → yA,length_drop → yB,length_filter_le → yC,getElem?_range → yG,getElem?_set_self → yH,take_of_length_le → yK,nodup_cons → yP,range_succ → yQ,nodup_append → yR,getElem?_set_ne → yS,pairwise_append → yT,getElem?_take_of_lt → yU,pairwise_cons → yV,filter_append → yW,ext_getElem? → yZ,take_append_drop → y0,mem_iff_getElem? → y9,nodup_nil → ua,mem_of_mem_take → uc,getElem?_append_right → ue,mem_flatten → uh,filterMap_cons → ui,map_eq_nil_iff → ul,length_pos_of_mem → ux,length_replicate → uy,all_cons → uz,length_singleton → uA,getElem_mem → uD,all_eq_true → uF,mem_iff_getElem → uH,getElem?_replicate_of_lt → uM,length_pos_iff → uR,filter_sublist → uS,flatten_append → uT,getElem?_eq_none_iff → uZ,any_cons → u5,drop_eq_getElem_cons → u7,mem_of_mem_eraseIdx → va,drop_length → vb,cons_ne_nil → vc,filter_cons_of_pos → vh,filter_cons_of_neg → vi,pairwise_singleton → vk,of_mem_zip → vm,length_set → vp,forIn_cons → vt,drop_of_length_le → vv,length_nil → vw,eraseIdx_sublist → vD,drop_zero → vH,mem_of_mem_drop → vJ,length_reverse → vK,map_take → vM,filter_eq_self → vQ,mem_map_of_mem → vS,map_nil → vY,any_eq_false → v5,reverse_cons → v6,append_assoc → wa,flatten_cons → wb,length → wf,zipIdx_cons → wm,countP_cons → wo,ext_getElem → wq,map_reverse → wu,zipIdx_nil → wv,filter_nil → wy,replicate → wA,forIn_nil → wB,map_drop → wG,zipWith → wN
open Nat renaming le_refl → xr,lt_of_lt_of_le → xy,ne_of_lt → xz,zero_le → xV,le_trans → x6,lt_irrefl → yd,add_left_cancel → yf,lt_succ_of_lt → ym,ne_of_gt → yo,lt_add_of_pos_right → yp,lt_or_ge → yy,min_eq_right → yJ,not_lt_zero → yX,le_add_right → ug,min_eq_left → uq,lt_of_le_of_lt → ut,succ_ne_self → uC,mul_le_mul_right → uK,le_total → uP,toDigits → uQ,Coprime → uX,lt_trans → vj,log2_lt → vz,le_of_lt → vX,sub_zero → v3,le_succ → wj,mul_le_mul → wE,succ_mul → wO,dvd_one → wQ
open Int renaming mul_le_mul_of_nonneg_left → xG,toNat_natCast → xQ,emod_lt_of_pos → xU,emod_nonneg → yc,mul_le_mul_of_nonneg_right → yD,mul_comm → yO,emod_eq_of_lt → y8,fdiv_eq_ediv_of_nonneg → ud,mul_one → uo,mul_left_comm → uw,emod_emod_of_dvd → uJ,lt_or_le → uN,mul_emod → uO,natCast_nonneg → uW,add_mul_emod_self_left → uY,dvd_of_emod_eq_zero → ve,ofNat_lt → vg,emod_add_mul_ediv → vA,natAbs_dvd_natAbs → vB,mul_assoc → vL,toNat_of_nonneg → vR,dvd_refl → vZ,le_of_lt → v0,zero_add → v4,dvd_mul_right → v7,le_refl → wk,mul_sub → wn,natAbs_mul → wC,mul_nonneg → wD,gcd_comm → wJ,mul_zero → wK,pow_succ → wL,add_emod → wM,mul_pos → wR
open PySem.W renaming Frag → xb,nsIn → xh,kitOne → xi,keepIn → xj,codeIn → xk,fnOf → xn,findIn → xL,mg_none_of → xN,Looks → xO,excIn → x0,mg_of → x5,hideAll → x8,hideAll_none → x9,mroIn → yg,hideAll_get → yz,looks_findIn → yE,funFrames_hide → yI,exmOne → yL,of_hideAll → yM,looks_mroIn → uk,isFn → uv,clsIn → uG,notCls → uU,callWith_K → uV,methodObj → u4,hasDictIn → u8,cellsFrom_some → vn,OpenLaw → vq,ke_canLayAll0 → vC,InstAt → vI,ke_depthAll → vN,looks_clsIn → vO,isNs_of_in → vV,tail_of_in → vW,specialIn → v8,handedIn → we,any_some → wt,exm_one → ww,takesIn → wx,lookIn → wz,WalkO → wF
open PySem.F renaming plainAttrs_list → xR,slot_list_append → ya,type_list_append → yb,plainAttrs_str → yY,excBase_ValueError → uf,args_tuple_add_2 → u9,entry_tuple_add → vd,slot_tuple_add → vo,slot_str_zfill → vx,type_str_zfill → vy,slot_str_join → vE,type_str_join → vF
open PySem.Heap renaming get?_push_of_some → xg,lt_size → xp,get?_push_size → xF,get?_update_other → xT,size_push → yi,get?_update_self → yk,SameBut → yF,get?_some_iff → ur,IsTuple → uu,IsList → uE,get?_push_cases → uI,UpToSlots → vG,get?_update_ne → vP,FlyingW → wI,ExtBut → wP
open Array renaming length_toList → xP,getElem?_eq_some_iff → yN,getElem?_toList → uB,getElem?_eq_getElem → u6,append_assoc → vT,find?_toList → vU,toList → wH
open Bool renaming false_ne_true → xB,not_eq_true' → yl,and_eq_true → yq,eq_iff_iff → uL,eq_false_iff → v9
open Option renaming bind_eq_some_iff → vf,getD_none → wg
namespace L2
open PySem PySem.Spec PyProof.Rows
noncomputable abbrev Key:=Sum Int Str
noncomputable def zkn:Key→Value→Bool
 | .inl k,v=>Value.isInt k v
 | .inr x,v=>Value.isStrOf x v
noncomputable def zmN (w:World):Key→Int
 | .inl k=>hashInt k
 | .inr x=>hashStr w x
theorem j8:∀{k:Key} {v:Value},zkn k v=true→(∃i t,k=Sum.inl i∧v=Value.int i t)∨(∃x t,k=Sum.inr x∧v=Value.str x t)
 | .inl i,v,h=>by
  obtain⟨t,e⟩:=Value.isInt_shape (k:=i) (v:=v) h
  exact .inl ⟨i,t,rfl,e⟩
 | .inr x,v,h=>by
  obtain⟨t,e⟩:=Value.isStrOf_shape (x:=x) (v:=v) h
  exact .inr ⟨x,t,rfl,e⟩
theorem zlB (a b:Int):decide ((Sum.inl a:Key)=Sum.inl b)=(a==b):=by
 by_cases e:a=b
 ·subst e;simp
 ·have h:¬(Sum.inl a:Key)=Sum.inl b:=fun q=>e (Sum.inl.inj q)
  rw[decide_eq_false h]
  exact(beq_eq_false_iff_ne.mpr e).symm
theorem zl0 (a b:Str):decide ((Sum.inr a:Key)=Sum.inr b)=decide (a=b):=by
 by_cases e:a=b
 ·subst e;simp
 ·have h:¬(Sum.inr a:Key)=Sum.inr b:=fun q=>e (Sum.inr.inj q)
  rw[decide_eq_false h,decide_eq_false e]
theorem zlq (a:Int)(b:Str):decide ((Sum.inl a:Key)=Sum.inr b)=false:=decide_eq_false (fun q=>nomatch q)
theorem zlF (a:Str)(b:Int):decide ((Sum.inr a:Key)=Sum.inl b)=false:=decide_eq_false (fun q=>nomatch q)
noncomputable def zfO (prog:Program)(w:World):PySem.KeyKind prog w Key where
 is:=zkn
 hash:=zmN w
 inj:=fun v a b ha hb=>by
  rcases j8 ha with⟨i,t,rfl,rfl⟩|⟨x,t,rfl,rfl⟩
  ·rcases j8 hb with⟨j,u,rfl,e⟩|⟨y,u,rfl,e⟩
   ·injection e with e1 _;rw[e1]
   ·exact nomatch e
  ·rcases j8 hb with⟨j,u,rfl,e⟩|⟨y,u,rfl,e⟩
   ·exact nomatch e
   ·injection e with e1 _;rw[e1]
 byValue:=fun k v h=>by
  rcases j8 h with⟨i,t,rfl,rfl⟩|⟨x,t,rfl,rfl⟩<;>rfl
 pyHash:=fun hv h=>by
  rcases j8 hv with⟨i,t,rfl,rfl⟩|⟨x,t,rfl,rfl⟩
  ·exact wpAny_pyHash_int h
  ·exact wpAny_pyHash_str h
 eqBool:=fun hu hv h=>by
  rcases j8 hu with⟨i,t,rfl,rfl⟩|⟨x,t,rfl,rfl⟩
  ·rcases j8 hv with⟨j,u,rfl,rfl⟩|⟨y,u,rfl,rfl⟩
   ·rw[zlB]at h;exact wpAny_eqBool_int h
   ·rw[zlq]at h;exact SeqAt.EqAt.int_str i t y u _ _ _ _ h
  ·rcases j8 hv with⟨j,u,rfl,rfl⟩|⟨y,u,rfl,rfl⟩
   ·rw[zlF]at h;exact SeqAt.EqAt.str_int x t j u _ _ _ _ h
   ·rw[zl0]at h;exact wpAny_eqBool_str h
 «strs»:=fun k x t v h=>by
  rcases j8 h with⟨i,u,rfl,e⟩|⟨y,u,rfl,e⟩
  ·exact nomatch e
  ·injection e with e1 _
   subst e1
   cases v<;>rfl
inductive V where
 |non|bl (b:Bool)|int (i:Int)|str (x:Str)|byt (b:Array UInt8)|flt (b:UInt64)|ref (a:Addr)|ty (n:String)
 deriving DecidableEq
noncomputable def zU:V→Value→Prop
 | .non,u=>u=Value.none
 | .bl b,u=>u=Value.bool b
 | .int i,u=>∃t,u=Value.int i t
 | .str x,u=>∃t,u=Value.str x t
 | .byt b,u=>∃t,u=Value.bytes b t
 | .flt b,u=>∃t,u=Value.float b t
 | .ref a,u=>u=Value.ref a
 | .ty n,u=>u=Value.type n
noncomputable abbrev zH:List V→List Value→Prop:=Paired zU
theorem zH.length {xs:List V}{us:List Value}(r:zH xs us):xs.length=us.length:=Paired.length r
theorem zH.get:∀{xs:List V} {us:List Value} {i:Nat} {x:V},zH xs us→xs[i]? = some x→∃u,us[i]? = some u∧zU x u
 |_,_,_,_,.nil,e=>by simp at e
 |_,_,0,_,.cons r _,e=>by simp at e;subst e;exact⟨_,rfl,r⟩
 |_,_,i+1,x,.cons _ t,e=>by
  obtain⟨u,h1,h2⟩:=zH.get (i:=i) (x:=x) t (by simpa using e)
  exact⟨u,by simpa using h1,h2⟩
theorem zH.set {x:V}{u:Value}(r:zU x u):∀{xs:List V} {us:List Value} (i:Nat),zH xs us→zH (xs.set i x) (us.set i u)
 |_,_,_,.nil=>.nil
 |_,_,0,.cons _ t=>.cons r t
 |_,_,i+1,.cons q t=>.cons q (zH.set r i t)
theorem zH.append:∀{xs ys:List V} {us ws:List Value},zH xs us→zH ys ws→zH (xs++ys) (us++ws)
 |_,_,_,_,.nil,s=>s
 |_,_,_,_,.cons r t,s=>.cons r (zH.append t s)
theorem zH.take:∀{xs:List V} {us:List Value} (n:Nat),zH xs us→zH (xs.take n) (us.take n)
 |_,_,0,_=>.nil
 |_,_,_+1,.nil=>.nil
 |_,_,n+1,.cons r t=>.cons r (zH.take n t)
theorem zH.drop:∀{xs:List V} {us:List Value} (n:Nat),zH xs us→zH (xs.drop n) (us.drop n)
 |_,_,0,r=>r
 |_,_,_+1,.nil=>.nil
 |_,_,n+1,.cons _ t=>zH.drop n t
theorem zH.none_of:∀{xs:List V} {us:List Value} {i:Nat},zH xs us→xs[i]? = none→us[i]? = none:=fun {xs us i} r e=>by
 have h1:=r.length
 have h2:xs.length≤i:=uZ.mp e
 exact uZ.mpr (by omega)
noncomputable def zbG:Option V→Option Value→Prop
 |some v,some u=>zU v u
 |none,none=>True
 |_,_=>False
noncomputable def KV {κ:Type}:List (κ×V)→List (κ×Value)→Prop:=Paired fun(p:κ×V) (q:κ×Value)=>p.1=q.1∧zU p.2 q.2
noncomputable def kV:Key→V
 | .inl i=>.int i
 | .inr x=>.str x
inductive HO where
 |lst (xs:List V)
 |tup (xs:List V)
 |dK (kvs:List (Key×V))|dT (kvs:List (List Key×V))
 |set (S:Int→Bool) (n:Nat)
 |ins (C dx:Addr) (fs:List (Str×V))
 |own (x:Addr)
 |xd (fs:List (Str×V))
 |met (f x:Addr)
 |rng (lo hi:Int)
 |frz (o:Obj) (u:HO)
 |tbl (ps:Array Value)
 |ext (φ:Heap→Prop)
noncomputable abbrev Hp:=Addr→Option HO
noncomputable def upd (H:Hp)(a:Addr)(o:HO):Hp:=fun b=>if b=a then some o else H b
theorem zc {H:Hp}{a:Addr}{o:HO}:upd H a o a=some o:=by unfold upd;rw[if_pos rfl]
theorem zC {H:Hp}{a b:Addr}{o:HO}(h:b≠a):upd H a o b=H b:=by unfold upd;rw[if_neg h]
theorem jN {H:Hp}{a b:Addr}{o:HO}(h:H a=some o)(h':H b=none):a≠b:=by
 intro e;subst e;rw[h]at h';cases h'
section
variable (P:Program)(w:World)
noncomputable def jU (H:Hp)(h:Heap)(a:Addr):HO→Prop
 | .lst xs=>xs.length≤sizeLine∧∃(its:List Value) (n:Nat),zH xs its∧h.get? a=some {cls:=.type "list",data:=.seq its.toArray n}
 | .tup xs=>xs.length≤sizeLine∧∃its:List Value,zH xs its∧IsTup h a its.toArray
 | .dK kvs=>kvs.length≤sizeLine∧(a==sysModules)=false∧∃vs,KV kvs vs∧h.DictOf (zfO P w) a vs
 | .dT kvs=>kvs.length≤sizeLine∧(a==sysModules)=false∧∃xs:List (List Key×Addr×Value),
   Paired (fun(p:List Key×V) (q:List Key×Addr×Value)=>p.1=q.1∧H q.2.1=some (.tup (p.1.map kV))∧zU p.2 q.2.2) kvs xs ∧
   ∃o es ep,h.get? a=some o∧o.ExactDict∧o.data=.dict es ep∧es.toList=xs.map (entryOfKey (tupleKind (zfO P w)))∧(xs.map (·.1)).Nodup
 | .set S n=>h.SetOf (intKind P w) a S n
 | .ins C dx fs=>H dx=some (.own a)∧fs.length≤1000∧dx≠a∧h.get? a=some (PySem.W.instObj C dx) ∧
   ∃mA,h.Ns1 dx mA∧(∀f,zbG (fs.lookup f) (mA f))∧PySem.Within mA (fs.map (·.1))
 | .own _=>∃o,h.get? a=some o
 | .xd fs=>∃mA,h.Ns1 a mA∧∀f,zbG (fs.lookup f) (mA f)
 | .rng lo hi=>∃t u v,h.get? a=some {cls:=.type "range",data:=.fields #[.int lo t,.int hi u,.int 1 v]}
 | .frz o u=>h.get? a=some o∧jU H h a u
 | .tbl ps=>h.get? a=some {cls:=.none,data:=.fields ps}
 | .met f x=>h.get? a=some (u4 (.ref f) (.ref x))
 | .ext φ=>φ h∧(∃o,h.get? a=some o)∧∀h1 h2:Heap,φ h1→(∀o,h1.get? a=some o→h2.get? a=some o)→φ h2
noncomputable def HOk (H:Hp)(h:Heap):Prop:=∀a o,H a=some o→jU P w H h a o
end
section
variable {P:Program}{w:World}{H H':Hp}{h h':Heap}{a:Addr}{o:HO}
theorem jU.lt (x:jU P w H h a o):a<h.objs.size:=by
 cases o with
 |lst xs=>obtain⟨_,_,_,_,e⟩:=x;exact xp e
 |tup xs=>obtain⟨_,_,_,p⟩:=x;exact p.lt
 |dK kvs=>obtain⟨_,_,_,_,o,_,_,e,_⟩:=x;exact xp e
 |dT kvs=>obtain⟨_,_,_,_,o,_,_,e,_⟩:=x;exact xp e
 |set S n=>obtain⟨o,_,_,_,e,_⟩:=x;exact xp e
 |ins C dx fs=>obtain⟨_,_,_,e,_⟩:=x;exact xp e
 |own y=>obtain⟨_,e⟩:=x;exact xp e
 |xd fs=>obtain⟨_,⟨_,_,_,e,_⟩,_⟩:=x;exact xp e
 |rng lo hi=>obtain⟨_,_,_,e⟩:=x;exact xp e
 |frz ob u=>obtain⟨e,_⟩:=x;exact xp e
 |tbl ps=>exact xp (show h.get? a=some _ from x)
 |met f y=>exact xp (show h.get? a=some _ from x)
 |ext φ=>obtain⟨_,⟨_,e⟩,_⟩:=x;exact xp e
theorem Paired.mapP {α β:Type}{F G:α→β→Prop}:∀{l₁:List α} {l₂:List β},Paired F l₁ l₂→(∀a b,F a b→G a b)→Paired G l₁ l₂
 |_,_,.nil,_=>.nil
 |_,_,.cons r t,f=>.cons (f _ _ r) (Paired.mapP t f)
theorem jU.stay (x:jU P w H h a o)(k:∀b u,(b=a∨H b=some (.own a))→h.get? b=some u→h'.get? b=some u)
  (ho:∀b,H b=some (.own a)→H' b=some (.own a)) (ht:∀b xs,H b=some (.tup xs)→H' b=some (.tup xs)):jU P w H' h' a o:=by
 induction o with
 |lst xs=>obtain⟨z,its,n,r,e⟩:=x;exact⟨z,its,n,r,k _ _ (.inl rfl) e⟩
 |tup xs=>obtain⟨z,its,r,ob,e,c⟩:=x;exact⟨z,its,r,ob,k _ _ (.inl rfl) e,c⟩
 |dK kvs=>obtain⟨z,y,vs,r,ob,es,ep,e,c⟩:=x;exact⟨z,y,vs,r,ob,es,ep,k _ _ (.inl rfl) e,c⟩
 |dT kvs =>
  obtain⟨z,y,xs,r,ob,es,ep,e,c⟩:=x
  exact⟨z,y,xs,Paired.mapP r fun p q z=>⟨z.1,ht _ _ z.2.1,z.2.2⟩,ob,es,ep,k _ _ (.inl rfl) e,c⟩
 |set S n=>obtain⟨ob,es,ep,t,e,c⟩:=x;exact⟨ob,es,ep,t,k _ _ (.inl rfl) e,c⟩
 |ins C dx fs =>
  obtain⟨d,z,ne,e,mA,⟨od,es,ep,e2,c⟩,r⟩:=x
  exact⟨ho _ d,z,ne,k _ _ (.inl rfl) e,mA,⟨od,es,ep,k _ _ (.inr d) e2,c⟩,r⟩
 |own y=>obtain⟨ob,e⟩:=x;exact⟨ob,k _ _ (.inl rfl) e⟩
 |xd fs=>obtain⟨mA,⟨od,es,ep,e,c⟩,r⟩:=x;exact⟨mA,⟨od,es,ep,k _ _ (.inl rfl) e,c⟩,r⟩
 |rng lo hi=>obtain⟨t,u,v,e⟩:=x;exact⟨t,u,v,k _ _ (.inl rfl) e⟩
 |frz ob u ih=>obtain⟨e,q⟩:=x;exact⟨k _ _ (.inl rfl) e,ih q⟩
 |tbl ps =>
  have e:h.get? a=some {cls:=.none,data:=.fields ps}:=x
  show h'.get? a=some {cls:=.none,data:=.fields ps}
  exact k a _ (.inl rfl) e
 |met f y =>
  have e:h.get? a=some (u4 (.ref f) (.ref y)):=x
  show h'.get? a=some (u4 (.ref f) (.ref y))
  exact k a _ (.inl rfl) e
 |ext φ=>obtain⟨p,⟨o,e⟩,st⟩:=x;exact⟨st _ _ p fun o q=>k _ _ (.inl rfl) q,⟨o,k _ _ (.inl rfl) e⟩,st⟩
theorem HOk.lt (x:HOk P w H h)(e:H a=some o):a<h.objs.size:=(x a o e).lt
theorem HOk.fresh (x:HOk P w H h)(e:h.objs.size≤a):H a=none:=by
 cases q:H a with
 |none=>rfl
 |some u=>exact absurd (xy (x.lt q) e) (yd _)
theorem HOk.kept (x:HOk P w H h)(k:∀b u,h.get? b=some u→h'.get? b=some u):HOk P w H h':=fun a o e =>
 (x a o e).stay (fun b u _ q=>k b u q) (fun _ q=>q) fun _ _ q=>q
theorem HOk.laid (x:HOk P w H h)(k:∀b u,h.get? b=some u→h'.get? b=some u)(hp:h.objs.size≤a)(new:jU P w (upd H a o) h' a o):HOk P w (upd H a o) h':=fun b u e=>by
 have hn:=x.fresh hp
 by_cases hb:b=a
 ·subst hb;rw[zc]at e;cases e;exact new
 ·rw[zC hb]at e
  exact(x b u e).stay (fun c v _ q=>k c v q) (fun c q=>by rw[zC (jN q hn)];exact q) fun c xs q=>by rw[zC (jN q hn)];exact q
end
noncomputable def Rd (H:Hp)(a:Addr)(u:HO):Prop:=H a=some u∨∃o,H a=some (.frz o u)
theorem Rd.ok {P:Program}{w:World}{H:Hp}{h:Heap}{a:Addr}{u:HO}(r:Rd H a u)(x:HOk P w H h):jU P w H h a u:=by
 rcases r with r|⟨o,r⟩
 ·exact x a u r
 ·obtain⟨_,q⟩:=x a _ r
  exact q
noncomputable def Mut:Option HO→Prop
 |some (.lst _)=>True
 |some (.dK _)=>True
 |some (.dT _)=>True
 |some (.set _ _)=>True
 |some (.ins _ _ _)=>True
 |some (.ext _)=>True
 |_=>False
section
variable {P:Program}{w:World}{H:Hp}{h h':Heap}{x e:Addr}{o':HO}
theorem HOk.write (ok:HOk P w H h)(mu:Mut (H x))(he:e=x∨H e=some (.own x))(k:∀b u,b≠e→h.get? b=some u→h'.get? b=some u)(heo:∃u,h'.get? e=some u)
  (new:jU P w (upd H x o') h' x o'):HOk P w (upd H x o') h':=fun b u q=>by
 have nown:∀c y,H c=some (.own y)→c≠x:=fun c y r z=>by subst z;rw[r]at mu;exact mu
 have ntup:∀c xs,H c=some (.tup xs)→c≠x:=fun c xs r z=>by subst z;rw[r]at mu;exact mu
 by_cases hb:b=x
 ·subst hb;rw[zc]at q;cases q;exact new
 ·rw[zC hb]at q
  by_cases hbe:b=e
  ·have q':H b=some (.own x):=by
    rcases he with z|z
    ·exact absurd (hbe.trans z) hb
    ·rw[hbe];exact z
   rw[q]at q';cases q'
   obtain⟨v,hv⟩:=heo
   exact⟨v,by rw[hbe];exact hv⟩
  ·refine(ok b u q).stay (fun c v hc r=>k c v ?_ r) (fun c r=>by rw[zC (nown c b r)];exact r) fun c xs r=>by rw[zC (ntup c xs r)];exact r
   rcases hc with rfl|hc
   ·exact hbe
   ·rintro rfl
    rcases he with z|z
    ·exact nown c b hc z
    ·rw[hc]at z;cases z;exact hb rfl
end
structure Un (fs ex:List Addr)(H H':Hp)(h h':Heap):Prop where
 keep:∀b o,h.get? b=some o→H b=none→b∉fs→b∉ex→h'.get? b=some o
 slot:∀b o,h.get? b=some o→H b=none→b∈fs→b∉ex→∃sl,h'.get? b=some {o with slots:=sl}
 free:∀b o,h.get? b=some o→H b=none→b∉ex→H' b=none
 there:∀b o,h.get? b=some o→b∉ex→∃o',h'.get? b=some o'
 tups:∀b xs,H b=some (.tup xs)→H' b=some (.tup xs)
 frzs:∀b o u,H b=some (.frz o u)→H' b=some (.frz o u)
 tbls:∀b ps,H b=some (.tbl ps)→∃more,H' b=some (.tbl (ps++more))
section
variable {fs fs' ex ex':List Addr}{H H1 H2:Hp}{h h1 h2 h':Heap}{a x e:Addr}{o:HO}
theorem Un.any (u:Un fs ex H H1 h h1){b:Addr}{ob:Obj}(q:h.get? b=some ob)(n:H b=none)(hx:b∉ex):∃sl,h1.get? b=some {ob with slots:=sl}:=by
 by_cases hb:b∈fs
 ·exact u.slot b ob q n hb hx
 ·exact⟨ob.slots,u.keep b ob q n hb hx⟩
theorem Un.kept (k:∀b u,h.get? b=some u→h'.get? b=some u):Un fs ex H H h h' :=
 ⟨fun b ob q _ _ _=>k b ob q,fun b ob q _ _ _=>⟨ob.slots,k b ob q⟩,fun _ _ _ n _=>n,fun b ob q _=>⟨ob,k b ob q⟩,fun _ _ q=>q,fun _ _ _ q=>q,fun _ ps q=>⟨#[],by rw[q];simp⟩⟩
theorem Un.refl:Un fs ex H H h h:=Un.kept fun _ _ q=>q
theorem Un.laid (k:∀b u,h.get? b=some u→h'.get? b=some u)(hp:h.objs.size≤a)(hn:H a=none):Un fs ex H (upd H a o) h h' where
 keep:=fun b u q _ _ _=>k b u q
 slot:=fun b u q _ _ _=>⟨u.slots,k b u q⟩
 free:=fun b u q n _=>by rw[zC (xz (xy (xp q) hp))];exact n
 there:=fun b u q _=>⟨u,k b u q⟩
 tups:=fun b xs q=>by rw[zC (jN q hn)];exact q
 frzs:=fun b u xs q=>by rw[zC (jN q hn)];exact q
 tbls:=fun b ps q=>⟨#[],by rw[zC (jN q hn),q];simp⟩
theorem Un.write (mu:Mut (H x))(he:e=x∨H e=some (.own x))(k:∀b u,b≠e→h.get? b=some u→h'.get? b=some u)(heo:∃u,h'.get? e=some u):Un fs ex H (upd H x o) h h':=by
 have hx:∀b,H b=none→b≠x:=fun b n z=>by subst z;rw[n]at mu;exact mu
 have hb:∀b,H b=none→b≠e:=fun b n z=>by
  subst z
  rcases he with r|r
  ·exact hx b n r
  ·rw[n]at r;cases r
 have hm:∀b u,H b=some u→¬Mut (some u)→b≠x:=fun b u q nm z=>by subst z;rw[q]at mu;exact nm mu
 refine⟨fun b u q n _ _=>k b u (hb b n) q,fun b u q n _ _=>⟨u.slots,k b u (hb b n) q⟩,fun b u q n _=>by rw[zC (hx b n)];exact n,fun b u q _=>?_,
  fun b xs q=>by rw[zC (hm b _ q fun z=>z)];exact q,fun b u xs q=>by rw[zC (hm b _ q fun z=>z)];exact q,fun b ps q=>⟨#[],by rw[zC (hm b _ q fun z=>z),q];simp⟩⟩
 by_cases hbe:b=e
 ·subst hbe;exact heo
 ·exact⟨u,k b u hbe q⟩
end
noncomputable def trk (h:Heap)(H:Hp):List Addr:=(xH h.objs.size).filter fun a=>(H a).isSome
noncomputable def QU (h:Heap)(H:Hp):Heap:=x8 h (trk h H)
theorem zil (h:Heap)(H:Hp):(QU h H).objs.size=h.objs.size:=PySem.W.hideAll_size _ _
theorem ziT {h:Heap}{H:Hp}{b:Addr}{o:Obj}(e:h.get? b=some o)(n:H b=none):(QU h H).get? b=some o :=
 yz _ e fun hm=>by
  have q:(H b).isSome=true:=(yv.mp hm).2
  rw[n]at q;simp at q
theorem zkE {h:Heap}{H:Hp}{b:Addr}{o:Obj}(e:(QU h H).get? b=some o):h.get? b=some o∧H b=none:=by
 have e':h.get? b=some o:=yM (trk h H) e
 refine⟨e',?_⟩
 cases q:H b with
 |none=>rfl
 |some x =>
  have hm:b∈trk h H:=yv.mpr ⟨yu.mpr (xp e'),by simp[q]⟩
  have z:(QU h H).get? b=none:=x9 (trk h H) hm
  rw[z]at e;cases e
structure Mod (K:xb)(mg:Str→Option Value)(base:Heap):Prop where
 kin:K.In base
 glob:base.Ns mainGlobals mg
 blt:∃mb,base.Ns builtinsNs mb∧∀x:Str,x≠"__name__"→mb x=bootBuiltins x
 nolimit:base.NoLimit
set_option genInjectivity false in
structure Cx where
 prog:Program
 w:World
 K:xb
 mg:Str→Option Value
 base:Heap
 A:Around
 N:List Str
 s₀:Shared
 H₀:Hp
 env:Env
 outer:List Env
 stack:List Env
 ex:List Addr
 fn:Str→Bool
 calm:Bool
 pn:List (Addr×Obj)
 xe:Value→Shared→Prop
noncomputable def frs (l:List Env):List Addr:=l.filterMap (·.frame)
noncomputable abbrev Cx.fs (X:Cx):List Addr:=frs X.outer
noncomputable def Vis (sc:Scope)(x:Str):Prop:=sc.names.lookup x=some .local∨sc.names.lookup x=some .cell∨sc.names.lookup x=some .free
noncomputable def Loc (sc:Scope)(x:Str):Prop:=sc.names.lookup x=some .local∨sc.names.lookup x=some .cell
noncomputable def zm3 (env:Env)(h:Heap)(m:Str→Option Value)(x:Str)(u:Value):Prop :=
 (env.kindOf x=some .local∧m x=some u)∨((env.kindOf x=some .cell∨env.kindOf x=some .free)∧∃c,env.cells.lookup x=some c∧h.IsCell c (some u))
set_option genInjectivity false in
structure Cx.Ok (X:Cx):Prop where
 mod:Mod X.K X.mg X.base
 kind:X.env.scope.kind=.function
 glob:X.env.globals=mainGlobals
 blt:X.env.builtins=builtinsNs
 above:X.s₀.heap.objs.size≤X.env.locals
 inj:∀x y c,X.env.cells.lookup x=some c→X.env.cells.lookup y=some c→x=y
 has:∀x,(X.env.kindOf x=some .cell∨X.env.kindOf x=some .free)→∃c,X.env.cells.lookup x=some c
 cab:∀x c,X.fn x=true→X.env.cells.lookup x=some c→X.s₀.heap.objs.size≤c
 hd:X.calm=true→X.A.handled=none
 frames:X.A.frames=some X.stack
 stk:X.stack=X.outer∨(X.stack=X.env::X.outer∧X.env.frame=some X.env.locals)
 exf:∀b∈X.ex,b≠X.env.locals∧∀x c,X.env.cells.lookup x=some c→c≠b
 bs:∀b o,X.base.get? b=some o→X.s₀.heap.get? b=some o∧X.H₀ b=none
 bsz:X.base.objs.size≤X.s₀.heap.objs.size
 noex:∀b o,X.base.get? b=some o→b∉X.ex
 exfs:∀b∈X.ex,b∉X.fs
 funs:X.s₀.heap.FunFrames X.base X.outer
 frf:∀b∈X.fs,X.H₀ b=none
structure Inv (X:Cx)(pins:List (Addr×Obj))(σ:List (Option V))(H:Hp)(s:Shared):Prop where
 ok:X.Ok
 os:s.os=X.s₀.os
 bare:AllBare s.gens
 base:Un X.fs X.ex X.H₀ H X.s₀.heap s.heap
 loc:∃m,s.heap.Ns X.env.locals m∧∀(i:Nat) (x:Str) (v:V),X.N[i]? = some x→σ[i]? = some (some v)→Vis X.env.scope x→∃u,zU v u∧zm3 X.env s.heap m x u
 cell:∀x c,X.env.cells.lookup x=some c→∃v,s.heap.IsCell c v
 free:H X.env.locals=none
 freeC:∀x c,X.env.cells.lookup x=some c→H c=none
 pin:∀p∈X.pn++pins,s.heap.get? p.1=some p.2∧H p.1=none∧p.1≠X.env.locals∧p.1∉X.fs∧∀v,p.2.data≠.cell v
 hok:HOk X.prog X.w H s.heap
 len:σ.length=X.N.length
section
variable {X:Cx}{pins:List (Addr×Obj)}{σ:List (Option V)}{H H':Hp}{s:Shared}{h':Heap}
theorem Cx.Ok.nofr (ok:X.Ok){b:Addr}{o:Obj}(e:X.base.get? b=some o):b∉X.fs:=fun hb=>by
 have:=(ok.funs.mem hb).1
 rw[e]at this;cases this
theorem Inv.bs (I:Inv X pins σ H s):∀b o,X.base.get? b=some o→s.heap.get? b=some o∧H b=none:=fun b o e =>
 ⟨I.base.keep b o (I.ok.bs b o e).1 (I.ok.bs b o e).2 (I.ok.nofr e) (I.ok.noex b o e),I.base.free b o (I.ok.bs b o e).1 (I.ok.bs b o e).2 (I.ok.noex b o e)⟩
theorem Inv.bk (I:Inv X pins σ H s):∀b o,X.base.get? b=some o→s.heap.get? b=some o:=fun b o e=>(I.bs b o e).1
theorem Inv.mod (I:Inv X pins σ H s):Mod X.K X.mg X.base:=I.ok.mod
theorem Inv.kIn (I:Inv X pins σ H s):X.K.In s.heap:=I.ok.mod.kin.keeps I.bk
theorem Inv.fr (I:Inv X pins σ H s):∃m,Fr X.base X.env.locals s.heap m :=
 let ⟨m,hn,_⟩:=I.loc
 ⟨m,hn,I.bk,x6 I.ok.bsz I.ok.above⟩
theorem Inv.lt (I:Inv X pins σ H s):X.env.locals<s.heap.objs.size:=let ⟨_,hn,_⟩:=I.loc;hn.lt
theorem Inv.sz (I:Inv X pins σ H s):X.s₀.heap.objs.size≤s.heap.objs.size:=x6 I.ok.above (vX I.lt)
theorem Inv.nofs (I:Inv X pins σ H s){a:Addr}(h:s.heap.objs.size≤a):a∉X.fs:=fun hb=>by
 obtain⟨_,o,ho,_⟩:=I.ok.funs.mem hb
 exact absurd (xy (xp ho) (x6 I.sz h)) (yd _)
theorem Inv.cne (I:Inv X pins σ H s):∀x c,X.env.cells.lookup x=some c→c≠X.env.locals:=fun x c e z=>by
 obtain⟨v,o,ho,hd⟩:=I.cell x c e
 obtain⟨m,⟨o',es,ep,ho',hd',_⟩,_⟩:=I.loc
 rw[z,ho']at ho;cases ho;rw[hd']at hd;cases hd
theorem Inv.funs (I:Inv X pins σ H s):s.heap.FunFrames X.base X.outer:=by
 have all:∀(l:List Env),(∀b∈frs l,b∈X.fs)→X.s₀.heap.FunFrames X.base l→s.heap.FunFrames X.base l:=by
  intro l
  induction l with
  |nil=>intro _ _;trivial
  |cons env r ih =>
   intro hs hl
   obtain⟨hk,⟨L,o,hf,hn,ho,hd⟩,hr⟩:=hl
   have hL:L∈X.fs:=hs L (by unfold frs;rw[ui,hf];exact xD)
   obtain⟨sl,e⟩:=I.base.slot L o ho (I.ok.frf L hL) hL fun z=>I.ok.exfs L z hL
   exact⟨hk,⟨L,_,hf,hn,e,hd⟩,ih (fun b hb=>hs b (by unfold frs;rw[ui,hf];exact xx _ hb)) hr⟩
 exact all X.outer (fun _ hb=>hb) I.ok.funs
theorem Inv.stack (I:Inv X pins σ H s):s.heap.FunFrames X.base X.stack:=by
 rcases I.ok.stk with e|⟨e,hf⟩
 ·rw[e];exact I.funs
 ·rw[e]
  obtain⟨m,hn,_⟩:=I.loc
  refine .cons (by rw[I.ok.kind];decide) hf hn ?_ I.funs
  exact Heap.get?_none_of_le (x6 I.ok.bsz I.ok.above)
theorem Inv.stkSub (I:Inv X pins σ H s):∀b∈frs X.stack,b∈X.env.locals::X.fs:=fun b hb=>by
 rcases I.ok.stk with e|⟨e,hf⟩
 ·rw[e]at hb;exact xx _ hb
 ·rw[e]at hb
  unfold frs at hb
  rw[ui,hf]at hb
  exact hb
theorem Inv.stkFree (I:Inv X pins σ H s):∀b∈frs X.stack,H b=none:=fun b hb=>by
 rcases xt.mp (I.stkSub b hb)with e|hb
 ·rw[e];exact I.free
 ·obtain⟨_,o,ho,_⟩:=I.ok.funs.mem hb
  exact I.base.free b o ho (I.ok.frf b hb) fun z=>I.ok.exfs b z hb
theorem Inv.step {g':Array GenState}{t':Nat}{d':Drawn}{ch:List Addr}(I:Inv X pins σ H s)
  (hch:∀b∈ch,(b∈X.ex∨X.s₀.heap.objs.size≤b)∧b≠X.env.locals∧(∀x c,X.env.cells.lookup x=some c→c≠b)∧∀p∈X.pn++pins,p.1≠b)
  (keep:∀b o,b≠X.env.locals→b∉X.fs→b∉ch→s.heap.get? b=some o→H b=none→h'.get? b=some o)
  (slot:∀b o,b≠X.env.locals→b∈X.fs→b∉ch→s.heap.get? b=some o→H b=none→∃sl,h'.get? b=some {o with slots:=sl}) (free:∀b o,b∉ch→s.heap.get? b=some o→H b=none→H' b=none)
  (there:∀b o,b∉ch→s.heap.get? b=some o→∃o',h'.get? b=some o')
  (tups:∀b xs,H b=some (.tup xs)→H' b=some (.tup xs)) (frzs:∀b o u,H b=some (.frz o u)→H' b=some (.frz o u)) (tbls:∀b ps,H b=some (.tbl ps)→∃more,H' b=some (.tbl (ps++more)))
  (ns:∀m,s.heap.Ns X.env.locals m→h'.Ns X.env.locals m) (hok:HOk X.prog X.w H' h') (hg:AllBare g') :
  Inv X pins σ H' {s with heap:=h',gens:=g',drawn:=d',toks:=t'}:=by
 have neL:∀b o,X.s₀.heap.get? b=some o→b≠X.env.locals:=fun b o e=>xz (xy (xp e) I.ok.above)
 have neC:∀b o,X.s₀.heap.get? b=some o→b∉X.ex→b∉ch:=fun b o e hx hb=>by
  rcases(hch b hb).1 with z|z
  ·exact hx z
  ·exact absurd (xy (xp e) z) (yd _)
 have cellK:∀x c,X.env.cells.lookup x=some c→∀v,s.heap.IsCell c v→h'.IsCell c v:=fun x c e v ⟨o,ho,hd⟩=>by
  have nch:c∉ch:=fun z=>(hch c z).2.2.1 x c e rfl
  by_cases hc:c∈X.fs
  ·obtain⟨sl,q⟩:=slot c o (I.cne x c e) hc nch ho (I.freeC x c e)
   exact⟨_,q,hd⟩
  ·exact⟨o,keep c o (I.cne x c e) hc nch ho (I.freeC x c e),hd⟩
 refine⟨I.ok,I.os,hg,⟨fun b o e n hb hx=>?_,fun b o e n hb hx=>?_,fun b o e n hx=>?_,fun b o e hx=>?_,fun b xs e=>tups b xs (I.base.tups b xs e),fun b o xs e=>frzs b o xs (I.base.frzs b o xs e),fun b ps e=>?_⟩,?_,fun x c e=>?_,?_,fun x c e=>?_,fun p hp=>?_,hok,I.len⟩
 ·exact keep b o (neL b o e) hb (neC b o e hx) (I.base.keep b o e n hb hx) (I.base.free b o e n hx)
 ·obtain⟨sl,e1⟩:=I.base.slot b o e n hb hx
  obtain⟨sl',e2⟩:=slot b _ (neL b o e) hb (neC b o e hx) e1 (I.base.free b o e n hx)
  exact⟨sl',e2⟩
 ·obtain⟨o',e1⟩:=I.base.there b o e hx
  exact free b o' (neC b o e hx) e1 (I.base.free b o e n hx)
 ·obtain⟨o',e1⟩:=I.base.there b o e hx
  exact there b o' (neC b o e hx) e1
 ·obtain⟨m1,e1⟩:=I.base.tbls b ps e
  obtain⟨m2,e2⟩:=tbls b _ e1
  exact⟨m1++m2,by rw[e2,vT]⟩
 ·obtain⟨m,hn,hl⟩:=I.loc
  refine⟨m,ns m hn,fun i x v e1 e2 e3=>?_⟩
  obtain⟨u,r,l⟩:=hl i x v e1 e2 e3
  refine⟨u,r,?_⟩
  rcases l with l|⟨k,c,e,z⟩
  ·exact .inl l
  ·exact .inr ⟨k,c,e,cellK x c e _ z⟩
 ·obtain⟨v,z⟩:=I.cell x c e
  exact⟨v,cellK x c e v z⟩
 ·obtain⟨m,⟨o,_,_,ho,_⟩,_⟩:=I.loc
  exact free _ o (fun z=>(hch _ z).2.1 rfl) ho I.free
 ·obtain⟨v,o,ho,hd⟩:=I.cell x c e
  exact free c o (fun z=>(hch c z).2.2.1 x c e rfl) ho (I.freeC x c e)
 ·obtain⟨e,n,ne,nf,d⟩:=I.pin p hp
  have nch:p.1∉ch:=fun z=>(hch p.1 z).2.2.2 p hp rfl
  exact⟨keep p.1 p.2 ne nf nch e n,free p.1 p.2 nch e n,ne,nf,d⟩
theorem Inv.un {t':Nat}(I:Inv X pins σ H s)(u:Un X.fs [] H H' s.heap h')(hok:HOk X.prog X.w H' h'):Inv X pins σ H' {s with heap:=h',toks:=t'}:=by
 obtain⟨m,⟨o,es,ep,ho,r⟩,_⟩:=id I.loc
 obtain⟨sl,hL⟩:=u.any ho I.free (by simp)
 exact I.step (g':=s.gens) (d':=s.drawn) (ch:=[]) (fun _ z=>nomatch z) (fun b o _ hb _ e n=>u.keep b o e n hb (by simp)) (fun b o _ hb _ e n=>u.slot b o e n hb (by simp)) (fun b o _ e n=>u.free b o e n (by simp)) (fun b o _ e=>u.there b o e (by simp)) u.tups u.frzs u.tbls (fun m' hm=>by
  obtain⟨o',es',ep',ho',r'⟩:=hm
  rw[ho]at ho';cases ho'
  exact⟨_,es',ep',hL,r'⟩) hok I.bare
theorem Inv.call {g':Array GenState}{t':Nat}{d':Drawn}{ch:List Addr}(I:Inv X pins σ H s)(u:Un (frs X.stack) ch H H' s.heap h')(hok:HOk X.prog X.w H' h')(hg:AllBare g')
  (hch:∀b∈ch,(b∈X.ex∨X.s₀.heap.objs.size≤b)∧b≠X.env.locals∧(∀x c,X.env.cells.lookup x=some c→c≠b)∧∀p∈X.pn++pins,p.1≠b) :
  Inv X pins σ H' {s with heap:=h',gens:=g',drawn:=d',toks:=t'}:=by
 obtain⟨m,⟨o,es,ep,ho,r⟩,_⟩:=id I.loc
 obtain⟨sl,hL⟩:=u.any ho I.free fun z=>(hch _ z).2.1 rfl
 exact I.step (ch:=ch) hch (fun b o hL hb hc e n=>u.keep b o e n (fun z=>(xt.mp (I.stkSub b z)).elim hL hb) hc) (fun b o _ _ hc e n=>u.any e n hc) (fun b o hc e n=>u.free b o e n hc) (fun b o hc e=>u.there b o e hc) u.tups u.frzs u.tbls (fun m' hm=>by
  obtain⟨o',es',ep',ho',r'⟩:=hm
  rw[ho]at ho';cases ho'
  exact⟨_,es',ep',hL,r'⟩) hok hg
theorem Inv.turned {t':Nat}{it:Addr}(I:Inv X pins σ H s)(k:∀b o,b≠it→s.heap.get? b=some o→h'.get? b=some o)(hn:H it=none)(hL:it≠X.env.locals)
  (h1:it∈X.ex∨X.s₀.heap.objs.size≤it) (h2:∀x c,X.env.cells.lookup x=some c→c≠it) (h3:∀p∈X.pn++pins,p.1≠it):Inv X pins σ H {s with heap:=h',toks:=t'}:=by
 have nit:∀b u,H b=some u→b≠it:=fun b u e z=>by rw[z,hn]at e;cases e
 refine I.step (g':=s.gens) (d':=s.drawn) (ch:=[it]) (fun b hb=>?_) (fun b o _ _ hc e _=>k b o (fun z=>hc (by simp[z])) e) (fun b o _ _ hc e _=>⟨o.slots,k b o (fun z=>hc (by simp[z])) e⟩) (fun _ _ _ _ n=>n)
  (fun b o hc e=>⟨o,k b o (fun z=>hc (by simp[z])) e⟩) (fun _ _ e=>e) (fun _ _ _ e=>e) (fun b ps e=>⟨#[],by rw[e];simp⟩) (fun m hm=>?_) (fun b u e=>?_) I.bare
 ·have e:b=it:=by simpa using hb
  subst e
  exact⟨h1,hL,h2,h3⟩
 ·obtain⟨o,es,ep,ho,r⟩:=hm
  exact⟨o,es,ep,k _ o (Ne.symm hL) ho,r⟩
 ·refine(I.hok b u e).stay (fun c v hc q=>k c v ?_ q) (fun _ q=>q) fun _ _ q=>q
  rcases hc with z|z
  ·rw[z];exact nit b u e
  ·exact nit c _ z
theorem Inv.tok (I:Inv X pins σ H s)(t:Nat):Inv X pins σ H {s with toks:=t}:=I.un (h':=s.heap) (t':=t) Un.refl I.hok
theorem Inv.kept {t':Nat}(I:Inv X pins σ H s)(k:∀b u,s.heap.get? b=some u→h'.get? b=some u):Inv X pins σ H {s with heap:=h',toks:=t'}:=I.un (Un.kept k) (I.hok.kept k)
theorem Inv.laid {a:Addr}{o:HO}{t':Nat}(I:Inv X pins σ H s)(k:∀b u,s.heap.get? b=some u→h'.get? b=some u)(hp:s.heap.objs.size≤a)(new:jU X.prog X.w (upd H a o) h' a o) :
  Inv X pins σ (upd H a o) {s with heap:=h',toks:=t'}:=I.un (Un.laid k hp (I.hok.fresh hp)) (I.hok.laid k hp new)
theorem Inv.write {x e:Addr}{o:HO}{t':Nat}(I:Inv X pins σ H s)(mu:Mut (H x))(he:e=x∨H e=some (.own x))(k:∀b u,b≠e→s.heap.get? b=some u→h'.get? b=some u)(heo:∃u,h'.get? e=some u)
  (new:jU X.prog X.w (upd H x o) h' x o):Inv X pins σ (upd H x o) {s with heap:=h',toks:=t'}:=I.un (Un.write mu he k heo) (I.hok.write mu he k heo new)
theorem Inv.weak {σ':List (Option V)}(I:Inv X pins σ H s)(hl:σ'.length=σ.length)(w:∀(i:Nat) v,σ'[i]? = some (some v)→σ[i]? = some (some v)):Inv X pins σ' H s :=
 ⟨I.ok,I.os,I.bare,I.base,let ⟨m,hn,hl'⟩:=I.loc;⟨m,hn,fun i x v e1 e2 e3=>hl' i x v e1 (w i v e2) e3⟩,I.cell,I.free,I.freeC,I.pin,I.hok,hl.trans I.len⟩
theorem Inv.pins_of {pins':List (Addr×Obj)}(I:Inv X pins σ H s)(h:∀p∈pins',s.heap.get? p.1=some p.2∧H p.1=none∧p.1≠X.env.locals∧p.1∉X.fs∧∀v,p.2.data≠.cell v):Inv X pins' σ H s :=
 ⟨I.ok,I.os,I.bare,I.base,I.loc,I.cell,I.free,I.freeC,fun p hp=>(xM.mp hp).elim (fun z=>I.pin p (xJ _ z)) (h p),I.hok,I.len⟩
theorem zap {N:List Str}(hN:N.Nodup){i j:Nat}{x:Str}(a:N[i]? = some x)(b:N[j]? = some x):i=j:=by
 obtain⟨h1,e1⟩:=xv.mp a
 obtain⟨h2,e2⟩:=xv.mp b
 exact(List.getElem_inj hN).mp (e1.trans e2.symm)
theorem zck {M:Model}{A:Around}{E:Value→Shared→Prop}{i:Nat}{x:Str}{v:V}{u:Value}{Q:Unit→Shared→Prop}(I:Inv X pins σ H s)(hN:X.N.Nodup)(hi:X.N[i]? = some x)(hx:Loc X.env.scope x)(r:zU v u)
  (h:∀s',Inv X pins (σ.set i (some v)) H s'→(∃a,yF a s.heap s'.heap∧(a=X.env.locals∨X.env.cells.lookup x=some a))→Q () s') (hf:X.fn x=true∨X.env.scope.names.lookup x=some .local:=by first|exact .inl rfl|exact .inr rfl|assumption):wpAny M A (storeName X.env x u) Q E s:=by
 obtain⟨m,hn,hl⟩:=id I.loc
 have hcls:(X.env.scope.kind==.class||(X.env.scope.kind==.module&&X.env.locals != X.env.globals))=false:=by rw[I.ok.kind];rfl
 have hiσ:i<σ.length:=by rw[I.len];exact(xv.mp hi).1
 have cne:=I.cne
 have tracked:∀{a:Addr} {h':Heap},(∃o,s.heap.get? a=some o∧H a=none)→yF a s.heap h'→HOk X.prog X.w H h':=fun {a h'} ha hs b ob e=>by
  obtain⟨_,_,hfree⟩:=ha
  refine(I.hok b ob e).stay (fun c w' hc q=>(hs.2 c ?_).trans q) (fun _ q=>q) fun _ _ q=>q
  rintro rfl
  rcases hc with rfl|hc
  ·rw[hfree]at e;cases e
  ·rw[hfree]at hc;cases hc
 rcases hx with hk|hk
 ·refine wpAny_storeName_local hk hn (fun h' hn' hs=>?_) hcls
  obtain⟨oL,_,_,hoL,_⟩:=id hn
  refine h _ ⟨I.ok,I.os,I.bare,⟨fun b o e n hb hx=>?_,fun b o e n hb hx=>?_,I.base.free,fun b o e hx=>?_,I.base.tups,I.base.frzs,I.base.tbls⟩,⟨_,hn',fun j y v' e1 e2 e3=>?_⟩,fun y c e=>?_,I.free,I.freeC,fun p hp=>?_,tracked ⟨oL,hoL,I.free⟩ hs,by simpa using I.len⟩ ⟨_,hs,.inl rfl⟩
  ·exact(hs.2 b (xz (xy (xp e) I.ok.above))).trans (I.base.keep b o e n hb hx)
  ·obtain⟨sl,e1⟩:=I.base.slot b o e n hb hx
   exact⟨sl,(hs.2 b (xz (xy (xp e) I.ok.above))).trans e1⟩
  ·obtain⟨o',e1⟩:=I.base.there b o e hx
   exact⟨o',(hs.2 b (xz (xy (xp e) I.ok.above))).trans e1⟩
  ·by_cases hj:j=i
   ·subst hj
    rw[hi]at e1;cases e1
    rw[yH hiσ]at e2
    cases e2
    exact⟨u,r,.inl ⟨hk,by simp⟩⟩
   ·rw[yS (Ne.symm hj)]at e2
    obtain⟨u',r',q⟩:=hl j y v' e1 e2 e3
    refine⟨u',r',?_⟩
    rcases q with⟨k,e⟩|⟨k,c,e,z⟩
    ·refine .inl ⟨k,?_⟩
     have:y≠x:=fun e=>hj (zap hN e1 (e▸hi))
     simp[this,e]
    ·exact .inr ⟨k,c,e,z.sameBut hs (cne y c e)⟩
  ·obtain⟨w',z⟩:=I.cell y c e
   exact⟨w',z.sameBut hs (cne y c e)⟩
  ·obtain⟨e,n,ne,nf,d⟩:=I.pin p hp
   exact⟨(hs.2 p.1 ne).trans e,n,ne,nf,d⟩
 ·have hfn:X.fn x=true:=by
   rcases hf with z|z
   ·exact z
   ·rw[z]at hk;cases hk
  obtain⟨c,hc⟩:=I.ok.has x (.inl hk)
  obtain⟨w',z⟩:=I.cell x c hc
  refine wpAny_storeName_cell I.ok.kind hk hc z (fun h' hc' hs=>?_)
  obtain⟨oc,hoc,hocd⟩:=id z
  refine h {s with heap:=h'} ⟨I.ok,I.os,I.bare,⟨fun b o e n hb hx=>?_,fun b o e n hb hx=>?_,I.base.free,fun b o e hx=>?_,I.base.tups,I.base.frzs,I.base.tbls⟩,⟨m,hn.sameBut hs (Ne.symm (cne x c hc)),fun j y v' e1 e2 e3=>?_⟩,fun y c' e=>?_,I.free,I.freeC,fun p hp=>?_,tracked ⟨oc,hoc,I.freeC x c hc⟩ hs,by simpa using I.len⟩ ⟨c,hs,.inr hc⟩
  ·exact(hs.2 b (xz (xy (xp e) (I.ok.cab x c hfn hc)))).trans (I.base.keep b o e n hb hx)
  ·obtain⟨sl,e1⟩:=I.base.slot b o e n hb hx
   exact⟨sl,(hs.2 b (xz (xy (xp e) (I.ok.cab x c hfn hc)))).trans e1⟩
  ·obtain⟨o',e1⟩:=I.base.there b o e hx
   exact⟨o',(hs.2 b (xz (xy (xp e) (I.ok.cab x c hfn hc)))).trans e1⟩
  ·by_cases hj:j=i
   ·subst hj
    rw[hi]at e1;cases e1
    rw[yH hiσ]at e2
    cases e2
    exact⟨u,r,.inr ⟨.inl hk,c,hc,hc'⟩⟩
   ·rw[yS (Ne.symm hj)]at e2
    obtain⟨u',r',q⟩:=hl j y v' e1 e2 e3
    refine⟨u',r',?_⟩
    rcases q with q|⟨k,c',e,z'⟩
    ·exact .inl q
    ·refine .inr ⟨k,c',e,z'.sameBut hs ?_⟩
     rintro rfl
     exact hj (zap hN e1 (I.ok.inj _ _ _ e hc▸hi))
  ·by_cases hcc:c'=c
   ·subst hcc;exact⟨_,hc'⟩
   ·obtain⟨w2,z2⟩:=I.cell y c' e
    exact⟨w2,z2.sameBut hs hcc⟩
  ·obtain⟨e,n,ne,nf,d⟩:=I.pin p hp
   refine⟨(hs.2 p.1 ?_).trans e,n,ne,nf,d⟩
   intro q
   rw[q,hoc]at e
   have q':oc=p.2:=Option.some.inj e
   exact d w' (by rw[←q'];exact hocd)
theorem zaD {M:Model}{A:Around}{E:Value→Shared→Prop}{i:Nat}{x:Str}{v:V}{u:Value}{Q:Unit→Shared→Prop}(I:Inv X pins σ H s)(hN:X.N.Nodup)(hi:X.N[i]? = some x)(hx:Loc X.env.scope x)(r:zU v u)
  (h:∀s',Inv X pins (σ.set i (some v)) H s'→Q () s') (hf:X.fn x=true∨X.env.scope.names.lookup x=some .local:=by first|exact .inl rfl|exact .inr rfl|assumption):wpAny M A (storeName X.env x u) Q E s :=
 zck I hN hi hx r (fun s' I' _=>h s' I') hf
theorem Inv.call' {s':Shared}{ch:List Addr}(I:Inv X pins σ H s)(ho:s'.os=s.os)(u:Un (frs X.stack) ch H H' s.heap s'.heap)(hok:HOk X.prog X.w H' s'.heap)(hg:AllBare s'.gens)
  (hch:∀b∈ch,(b∈X.ex∨X.s₀.heap.objs.size≤b)∧b≠X.env.locals∧(∀x c,X.env.cells.lookup x=some c→c≠b)∧∀p∈X.pn++pins,p.1≠b):Inv X pins σ H' s':=by
 obtain⟨h',g',d',t',o'⟩:=s'
 have e:o'=s.os:=ho
 subst e
 exact I.call (g':=g') (t':=t') (d':=d') u hok hg hch
end
noncomputable abbrev XK:=Value→Option Addr→Hp→Prop
noncomputable abbrev St:=List (Option V)
noncomputable abbrev VK:=V→Hp→Prop
noncomputable abbrev TE:=St→Hp→VK→Prop
noncomputable abbrev TT:=St→Hp→(Bool→Hp→Prop)→Prop
noncomputable abbrev TA:=St→Hp→(List V→Hp→Prop)→Prop
structure qY where
 nx:St→Hp→Prop
 rt:VK
 bk:St→Hp→Prop:=fun _ _=>False
 ct:St→Hp→Prop:=fun _ _=>False
noncomputable abbrev TS:=qY→St→Hp→Prop
noncomputable def EP (X:Cx)(pins:List (Addr×Obj))(σ:St)(Q:VK)(u:Value)(s':Shared):Prop:=∃v H',Inv X pins σ H' s'∧zU v u∧Q v H'
noncomputable def TP (X:Cx)(pins:List (Addr×Obj))(σ:St)(Q:Bool→Hp→Prop)(b:Bool)(s':Shared):Prop:=∃H',Inv X pins σ H' s'∧Q b H'
noncomputable def AP (X:Cx)(pins:List (Addr×Obj))(σ:St)(Q:List V→Hp→Prop)(us:List Value)(s':Shared):Prop:=∃vs H',Inv X pins σ H' s'∧zH vs us∧Q vs H'
noncomputable def SP (X:Cx)(pins:List (Addr×Obj))(D:qY)(f:Flow)(s':Shared):Prop :=
 match f with
 | .next=>∃σ' H',Inv X pins σ' H' s'∧D.nx σ' H'
 | .brk=>∃σ' H',Inv X pins σ' H' s'∧D.bk σ' H'
 | .cont=>∃σ' H',Inv X pins σ' H' s'∧D.ct σ' H'
 | .ret u=>∃v σ' H',Inv X pins σ' H' s'∧zU v u∧D.rt v H'
noncomputable def PE (X:Cx)(e:Expr)(t:TE):Prop :=
 ∀(pins:List (Addr×Obj)) (s:Shared) (σ:St) (H:Hp) (Q:VK),Inv X pins σ H s→t σ H Q→wpAny (model X.prog X.w) X.A (eval e X.env) (EP X pins σ Q) X.xe s
noncomputable def PT (X:Cx)(e:Expr)(t:TT):Prop :=
 ∀(pins:List (Addr×Obj)) (s:Shared) (σ:St) (H:Hp) (Q:Bool→Hp→Prop),Inv X pins σ H s→t σ H Q→wpAny (model X.prog X.w) X.A (isTrue e X.env (eval e X.env)) (TP X pins σ Q) X.xe s
noncomputable def PW (X:Cx)(e:Expr)(t:TT):Prop :=
 ∀(whole:Sem Value) (pins:List (Addr×Obj)) (s:Shared) (σ:St) (H:Hp) (Q:Bool→Hp→Prop),Inv X pins σ H s→t σ H Q→wpAny (model X.prog X.w) X.A (isTrue e X.env whole) (TP X pins σ Q) X.xe s
theorem PW.pt {X:Cx}{e:Expr}{t:TT}(h:PW X e t):PT X e t:=h _
noncomputable def PA (X:Cx)(es:List Expr)(t:TA):Prop :=
 ∀(pos:Pos) (pins:List (Addr×Obj)) (s:Shared) (σ:St) (H:Hp) (Q:List V→Hp→Prop),Inv X pins σ H s→t σ H Q→wpAny (model X.prog X.w) X.A (spliced (backTo pos (starEach es X.env))) (AP X pins σ Q) X.xe s
noncomputable def PS (X:Cx)(st:Stmt)(t:TS):Prop :=
 ∀(pins:List (Addr×Obj)) (s:Shared) (σ:St) (H:Hp) (D:qY),Inv X pins σ H s→t D σ H→wpAny (model X.prog X.w) X.A (exec st X.env) (SP X pins D) X.xe s
noncomputable def PSs (X:Cx)(st:List Stmt)(t:TS):Prop :=
 ∀(pins:List (Addr×Obj)) (s:Shared) (σ:St) (H:Hp) (D:qY),Inv X pins σ H s→t D σ H→wpAny (model X.prog X.w) X.A (execs st X.env) (SP X pins D) X.xe s
theorem thn {α:Type}{t:Sem α}{Q Q':α→Shared→Prop}{M:Model}{A:Around}{E:Value→Shared→Prop}{s:Shared}(h:wpAny M A t Q E s)(hQ:∀a s,Q a s→Q' a s):wpAny M A t Q' E s:=wpAny_mono h hQ fun _ _ x=>x
section
variable {X:Cx}
inductive Qq (i:Nat)(σ:St)(H:Hp)(Q:VK):Prop
 |mk (v:V) (e:σ[i]? = some (some v)) (q:Q v H):Qq i σ H Q
noncomputable def tC (v:V):TE:=fun _ H Q=>Q v H
theorem zlR {i:Nat}{x:Str}{pos:Pos}(hN:X.N[i]? = some x)(hv:Vis X.env.scope x)(hd:(x==("__debug__":Str))=false:=by decide)(hcd:(x==("__classdict__":Str))=false:=by decide):PE X (.Name x pos) (Qq i):=by
 intro pins s σ H Q I h
 obtain⟨v,e,h⟩:=h
 obtain⟨m,hn,hl⟩:=I.loc
 obtain⟨u,r,l⟩:=hl i x v hN e hv
 have fin:EP X pins σ Q u s:=⟨v,H,I,r,h⟩
 rcases l with⟨hk,hm⟩|⟨hk,c,hc,hcell⟩
 ·exact wpAny_Name (wpAny_loadName_local I.ok.kind hk hn hm fin) hd
 ·rcases hk with hk|hk
  ·exact wpAny_Name (wpAny_loadName_cell I.ok.kind hk hc hcell fin) hd
  ·exact wpAny_Name (wpAny_loadName_free I.ok.kind hk hc hcell fin hcd) hd
theorem zg {i j pos}:PE X (.Constant (.int i) j pos) (tC (.int i)):=fun _ _ _ H _ I h=>wpAny_Constant_int ⟨.int i,H,I.tok _,⟨_,rfl⟩,h⟩
theorem Qk {b j pos}:PE X (.Constant (.bool b) j pos) (tC (.bl b)):=fun _ _ _ H _ I h=>Constant_bool ⟨.bl b,H,I,rfl,h⟩
theorem zed {j pos}:PE X (.Constant .none j pos) (tC .non):=fun _ _ _ H _ I h=>Constant_none ⟨.non,H,I,rfl,h⟩
theorem zO {x j pos}:PE X (.Constant (.str x) j pos) (tC (.str x)):=fun _ _ _ H _ I h=>Calls.Constant_str ⟨.str x,H,I.tok _,⟨_,rfl⟩,h⟩
noncomputable def Gl (X:Cx)(x:Str):Prop:=X.env.kindOf x=some .globalImplicit
theorem Zo {E:Value→Shared→Prop}{pins:List (Addr×Obj)}{s:Shared}{σ:St}{H:Hp}{x:Str}{u:Value}{pos:Pos}{Q:Value→Shared→Prop}(I:Inv X pins σ H s)(hg:Gl X x)(hm:X.mg x=some u)(h:Q u s)
  (hd:(x==("__debug__":Str))=false:=by decide):wpAny (model X.prog X.w) X.A (eval (.Name x pos) X.env) Q E s :=
 Calls.Name_function_global I.ok.kind hg (Calls.loadGlobal_global (by rw[I.ok.glob];exact I.mod.glob.keeps I.bk) hm h) hd
theorem JJ {E:Value→Shared→Prop}{pins:List (Addr×Obj)}{s:Shared}{σ:St}{H:Hp}{x:Str}{u:Value}{pos:Pos}{Q:Value→Shared→Prop}(I:Inv X pins σ H s)(hg:Gl X x)(hm:X.mg x=none)(hv:bootBuiltins x=some u)(h:Q u s)
  (hn:x≠"__name__":=by decide) (hd:(x==("__debug__":Str))=false:=by decide):wpAny (model X.prog X.w) X.A (eval (.Name x pos) X.env) Q E s:=by
 obtain⟨mb,h1,h2⟩:=I.mod.blt
 exact Calls.Name_function_global I.ok.kind hg (Calls.loadGlobal_builtin (by rw[I.ok.glob];exact I.mod.glob.keeps I.bk) hm (by rw[I.ok.blt];exact h1.keeps I.bk) ((h2 x hn).trans hv) h) hd
theorem qF {x:Str}{v:V}{u:Value}{pos:Pos}(hg:Gl X x)(hm:X.mg x=some u)(r:zU v u)(hd:(x==("__debug__":Str))=false:=by decide):PE X (.Name x pos) (tC v) :=
 fun _ _ _ H _ I h=>Zo I hg hm ⟨v,H,I,r,h⟩ hd
theorem zkN {x:Str}{v:V}{u:Value}{pos:Pos}(hg:Gl X x)(hm:X.mg x=none)(hv:bootBuiltins x=some u)(r:zU v u)(hn:x≠"__name__":=by decide)(hd:(x==("__debug__":Str))=false:=by decide):PE X (.Name x pos) (tC v) :=
 fun _ _ _ H _ I h=>JJ I hg hm hv ⟨v,H,I,r,h⟩ hn hd
variable {a b:Expr}{ta tb:TE}{pos:Pos}
inductive zjE (Q:Bool→Hp→Prop)(x:V)(H:Hp):Prop
 |mk (c:Bool) (e:x=.bl c) (q:Q c H):zjE Q x H
noncomputable def tB (t:TE):TT:=fun σ H Q=>t σ H (zjE Q)
theorem Z4 {e:Expr}{t:TE}(h:PE X e t)(he:∀whole,isTrue e X.env whole=(do let v ←whole;standAt e.pos;holding [v] (truthy v)):=by intro _;rfl):PT X e (tB t):=by
 intro pins s σ H Q I hw
 refine isTrue_plain (thn (h pins s σ H _ I hw) fun v s1 ⟨x,H1,I1,r1,q1⟩=>?_) (he _)
 obtain⟨d,rfl,q⟩:=q1
 cases r1
 exact wpAny_truthy_bool ⟨H1,I1,q⟩
variable {tA tB':TT}{rest:List Expr}
noncomputable def zmM (t u:TT):TT:=fun σ H Q=>t σ H fun c H1=>if c=true then u σ H1 Q else Q false H1
noncomputable def tOr (t u:TT):TT:=fun σ H Q=>t σ H fun c H1=>if c=true then Q true H1 else u σ H1 Q
noncomputable def zmE (t:TT):TT:=fun σ H Q=>t σ H fun c H1=>Q (!c) H1
theorem zlh (ha:PT X a tA):PW X (.BoolOp .And [a] pos) tA:=by
 intro wh pins s σ H Q I h
 refine isTrue_and (thn (ha pins s σ H Q I h) fun c s1 e=>?_)
 cases c with
 |true=>exact isTrue_and_nil e
 |false=>exact e
theorem Yt (ha:PT X a tA):PW X (.BoolOp .Or [a] pos) tA:=by
 intro wh pins s σ H Q I h
 refine isTrue_or (thn (ha pins s σ H Q I h) fun c s1 e=>?_)
 cases c with
 |false=>exact isTrue_or_nil e
 |true=>exact e
theorem zlo (ha:PT X a tA)(hb:PW X (.BoolOp .And (b::rest) pos) tB'):PW X (.BoolOp .And (a::b::rest) pos) (zmM tA tB'):=by
 intro wh pins s σ H Q I h
 refine isTrue_and (thn (ha pins s σ H _ I h) fun c s1 ⟨H1,I1,q1⟩=>?_)
 cases c with
 |true=>exact hb wh pins s1 σ H1 Q I1 q1
 |false=>exact⟨H1,I1,q1⟩
theorem YU (ha:PT X a tA)(hb:PW X (.BoolOp .Or (b::rest) pos) tB'):PW X (.BoolOp .Or (a::b::rest) pos) (tOr tA tB'):=by
 intro wh pins s σ H Q I h
 refine isTrue_or (thn (ha pins s σ H _ I h) fun c s1 ⟨H1,I1,q1⟩=>?_)
 cases c with
 |true=>exact⟨H1,I1,q1⟩
 |false=>exact hb wh pins s1 σ H1 Q I1 q1
theorem J4 (ha:PT X a tA):PT X (.UnaryOp .Not a pos) (zmE tA):=by
 intro pins s σ H Q I h
 exact isTrue_not (ha pins s σ H (fun c H1=>Q (!c) H1) I h)
noncomputable def zmg (ta tb:TE):TE:=fun σ H Q=>ta σ H fun x H1=>∃c,x=.bl c∧if c=true then tb σ H1 Q else Q (.bl false) H1
noncomputable def zmX (ta tb:TE):TE:=fun σ H Q=>ta σ H fun x H1=>∃c,x=.bl c∧if c=true then Q (.bl true) H1 else tb σ H1 Q
theorem zdK {op}{t:TE}(h:PE X a t):PE X (.BoolOp op [a] pos) t:=fun pins s σ H Q I hw=>BoolOp_one (h pins s σ H Q I hw)
theorem zlU (ha:PE X a ta)(hb:PE X (.BoolOp .And (b::rest) pos) tb):PE X (.BoolOp .And (a::b::rest) pos) (zmg ta tb):=by
 intro pins s σ H Q I h
 refine BoolOp_and (thn (ha pins s σ H _ I h) fun v s1 ⟨x,H1,I1,r1,q1⟩=>?_)
 obtain⟨c,rfl,q1⟩:=q1
 cases r1
 refine wpAny_truthy_bool ?_
 cases c with
 |true=>exact hb pins s1 σ H1 Q I1 q1
 |false=>exact⟨.bl false,H1,I1,rfl,q1⟩
theorem zgG (ha:PE X a ta)(hb:PE X (.BoolOp .Or (b::rest) pos) tb):PE X (.BoolOp .Or (a::b::rest) pos) (zmX ta tb):=by
 intro pins s σ H Q I h
 refine BoolOp_or (thn (ha pins s σ H _ I h) fun v s1 ⟨x,H1,I1,r1,q1⟩=>?_)
 obtain⟨c,rfl,q1⟩:=q1
 cases r1
 refine wpAny_truthy_bool ?_
 cases c with
 |false=>exact hb pins s1 σ H1 Q I1 q1
 |true=>exact⟨.bl true,H1,I1,rfl,q1⟩
end
noncomputable def SqL (K:xb)(H:Hp)(a:Addr)(xs:List V):Prop :=
 Rd H a (.lst xs) ∨
  ∃(o:Obj) (its:Array Value) (n:Nat),K.lookup a=some o∧o.cls=.type "list"∧o.dict=none∧o.data=.seq its n∧its.size≤sizeLine∧zH xs its.toList
noncomputable def SqT (K:xb)(H:Hp)(a:Addr)(xs:List V):Prop :=
 Rd H a (.tup xs) ∨
  ∃(o:Obj) (its:Array Value) (n:Nat),K.lookup a=some o∧o.cls=.type "tuple"∧o.data=.seq its n∧its.size≤sizeLine∧zH xs its.toList
noncomputable def zmT:Value→Option V
 | .none=>some .non
 | .bool b=>some (.bl b)
 | .int i _=>some (.int i)
 | .str x _=>some (.str x)
 | .bytes b _=>some (.byt b)
 | .float b _=>some (.flt b)
 | .ref a=>some (.ref a)
 | .type n=>some (.ty n)
 |_=>none
theorem zU.abs {x:V}{u:Value}(r:zU x u):zmT u=some x:=by
 cases x with
 |non=>cases r;rfl
 |bl _=>cases r;rfl
 |int _=>obtain⟨t,rfl⟩:=r;rfl
 |str _=>obtain⟨t,rfl⟩:=r;rfl
 |byt _=>obtain⟨t,rfl⟩:=r;rfl
 |flt _=>obtain⟨t,rfl⟩:=r;rfl
 |ref _=>cases r;rfl
 |ty _=>cases r;rfl
theorem zU.inj {x y:V}{u:Value}(r:zU x u)(q:zU y u):x=y:=Option.some.inj (r.abs.symm.trans q.abs)
theorem zH.inj {xs ys:List V}{us:List Value}(h:zH xs us)(h':zH ys us):xs=ys:=by
 induction h generalizing ys with
 |nil=>cases h';rfl
 |cons r t ih=>cases h' with|cons r' t'=>rw[r.inj r',ih t']
section
variable {X:Cx}{pins:List (Addr×Obj)}{σ:St}{H:Hp}{s:Shared}{a:Addr}{xs ys:List V}
theorem SqL.of {K:xb}(h:H a=some (.lst xs)):SqL K H a xs:=.inl (.inl h)
theorem SqT.of {K:xb}(h:H a=some (.tup xs)):SqT K H a xs:=.inl (.inl h)
theorem Inv.list (I:Inv X pins σ H s)(h:SqL X.K H a xs):∃its:List Value,zH xs its∧PlainL s.heap a its.toArray∧xs.length≤sizeLine:=by
 rcases h with h|⟨o,its,n,hk,hc,hd,hs,hz,r⟩
 ·obtain⟨z,its,n,r,e⟩:=h.ok I.hok
  exact⟨its,r,⟨_,n,e,rfl,rfl,rfl⟩,z⟩
 ·refine⟨its.toList,r,⟨o,n,I.kIn a o hk,hc,hd,by simpa using hs⟩,?_⟩
  have e:=r.length
  simp only[xP]at e
  omega
theorem Inv.tuple (I:Inv X pins σ H s)(h:SqT X.K H a xs):∃its:List Value,zH xs its∧IsTup s.heap a its.toArray∧xs.length≤sizeLine:=by
 rcases h with h|⟨o,its,n,hk,hc,hs,hz,r⟩
 ·obtain⟨z,its,r,p⟩:=h.ok I.hok
  exact⟨its,r,p,z⟩
 ·refine⟨its.toList,r,⟨o,I.kIn a o hk,hc,n,by simpa using hs⟩,?_⟩
  have e:=r.length
  simp only[xP]at e
  omega
theorem Inv.list_inj (I:Inv X pins σ H s)(h:SqL X.K H a xs)(h':SqL X.K H a ys):xs=ys:=by
 obtain⟨its,r,⟨o,n,e,_,_,d⟩,_⟩:=I.list h
 obtain⟨its',r',⟨o',n',e',_,_,d'⟩,_⟩:=I.list h'
 rw[e]at e';cases e'
 rw[d]at d'
 injection d' with d1 _
 have:its=its':=by simpa using congrArg wH d1
 subst this
 exact r.inj r'
theorem Inv.tuple_inj (I:Inv X pins σ H s)(h:SqT X.K H a xs)(h':SqT X.K H a ys):xs=ys:=by
 obtain⟨its,r,⟨o,e,_,n,d⟩,_⟩:=I.tuple h
 obtain⟨its',r',⟨o',e',_,n',d'⟩,_⟩:=I.tuple h'
 rw[e]at e';cases e'
 rw[d]at d'
 injection d' with d1 _
 have:its=its':=by simpa using congrArg wH d1
 subst this
 exact r.inj r'
end
noncomputable abbrev Cx.wish (X:Cx)(E:Value→Shared→Prop):Cx:={X with xe:=E}
noncomputable abbrev Cx.nox (X:Cx):Cx:=X.wish fun _ _=>False
theorem Cx.Ok.wish {X:Cx}(ok:X.Ok)(E:Value→Shared→Prop):(X.wish E).Ok :=
 ⟨ok.mod,ok.kind,ok.glob,ok.blt,ok.above,ok.inj,ok.has,ok.cab,ok.hd,ok.frames,ok.stk,ok.exf,ok.bs,ok.bsz,ok.noex,ok.exfs,ok.funs,ok.frf⟩
theorem Cx.Ok.unwish {X:Cx}{E:Value→Shared→Prop}(ok:(X.wish E).Ok):X.Ok :=
 ⟨ok.mod,ok.kind,ok.glob,ok.blt,ok.above,ok.inj,ok.has,ok.cab,ok.hd,ok.frames,ok.stk,ok.exf,ok.bs,ok.bsz,ok.noex,ok.exfs,ok.funs,ok.frf⟩
section
variable {X:Cx}{pins:List (Addr×Obj)}{σ:St}{H:Hp}{s:Shared}{E:Value→Shared→Prop}
theorem Inv.wish (I:Inv X pins σ H s)(E:Value→Shared→Prop):Inv (X.wish E) pins σ H s:=⟨I.ok.wish E,I.os,I.bare,I.base,I.loc,I.cell,I.free,I.freeC,I.pin,I.hok,I.len⟩
theorem Inv.unwish (I:Inv (X.wish E) pins σ H s):Inv X pins σ H s:=⟨I.ok.unwish,I.os,I.bare,I.base,I.loc,I.cell,I.free,I.freeC,I.pin,I.hok,I.len⟩
theorem SP.unwish {D:qY}{f:Flow}{s':Shared}(h:SP (X.wish E) pins D f s'):SP X pins D f s':=by
 cases f with
 |next=>obtain⟨σ',H',I,q⟩:=h;exact⟨σ',H',I.unwish,q⟩
 |brk=>obtain⟨σ',H',I,q⟩:=h;exact⟨σ',H',I.unwish,q⟩
 |cont=>obtain⟨σ',H',I,q⟩:=h;exact⟨σ',H',I.unwish,q⟩
 |ret u=>obtain⟨v,σ',H',I,r,q⟩:=h;exact⟨v,σ',H',I.unwish,r,q⟩
end
section
variable {X:Cx}{st:Stmt}{rest:List Stmt}{t u:TS}{e:Expr}{te:TE}{pos:Pos}
noncomputable def zmd:TS:=fun D σ H=>D.nx σ H
noncomputable def zmW (t u:TS):TS:=fun D σ H=>t {D with nx:=u D} σ H
theorem zA:PSs X [] zmd:=fun _ _ σ H _ I h=>wpAny_execs_nil ⟨σ,H,I,h⟩
theorem zf (h1:PS X st t)(h2:PSs X rest u):PSs X (st::rest) (zmW t u):=by
 intro pins s σ H D I h
 refine wpAny_execs_cons (thn (h1 pins s σ H {D with nx:=u D} I h) fun f s1 q=>?_)
 cases f with
 |next =>
  obtain⟨σ',H',I',q⟩:=q
  exact h2 pins s1 σ' H' D I' q
 |ret v=>exact q
 |brk=>exact q
 |cont=>exact q
theorem zh (h1:PS X st t):PSs X [st] t:=by
 intro pins s σ H D I h
 refine wpAny_execs_cons (thn (h1 pins s σ H D I h) fun f s1 q=>?_)
 cases f with
 |next=>exact wpAny_execs_nil q
 |ret v=>exact q
 |brk=>exact q
 |cont=>exact q
theorem Inv.quiet {pins:List (Addr×Obj)}{σ:St}{H:Hp}{s:Shared}(I:Inv X pins σ H s):interactive X.env=false:=by simp[interactive,I.ok.kind]
noncomputable def zmw (te:TE):TS:=fun D σ H=>te σ H fun _ H1=>D.nx σ H1
theorem jr (he:PE X e te)(hs:swapsWith e none pos.line X.env=pure false:=by rfl):PS X (.Expr e pos) (zmw te):=by
 intro pins s σ H D I h
 exact wpAny_Expr_any (thn (he pins s σ H _ I h) fun v s1 ⟨x,H1,I1,r1,q1⟩=>⟨σ,H1,I1,q1⟩) I.quiet hs
noncomputable def zlE (te:TE):TS:=fun D σ H=>te σ H D.rt
theorem zk (he:PE X e te):PS X (.Return (some e) pos) (zlE te):=by
 intro pins s σ H D I h
 exact wpAny_Return_some (thn (he pins s σ H _ I h) fun v s1 ⟨x,H1,I1,r1,q1⟩=>⟨x,σ,H1,I1,r1,q1⟩)
noncomputable def zmU (c:TT)(t u:TS):TS:=fun D σ H=>c σ H fun b H1=>if b=true then t D σ H1 else u D σ H1
theorem zN {c:Expr}{a b:List Stmt}{tc:TT}(hc:PT X c tc)(ha:PSs X a t)(hb:PSs X b u):PS X (.If c a b pos) (zmU tc t u):=by
 intro pins s σ H D I h
 refine wpAny_If (thn (hc pins s σ H _ I h) fun d s1 ⟨H1,I1,q1⟩=>?_)
 cases d with
 |true=>exact ha pins s1 σ H1 D I1 q1
 |false=>exact hb pins s1 σ H1 D I1 q1
end
noncomputable abbrev TG:=V→St→Hp→(St→Hp→Prop)→Prop
noncomputable abbrev TGs:=List V→St→Hp→(St→Hp→Prop)→Prop
noncomputable def PG (X:Cx)(target:Expr)(t:TG):Prop :=
 ∀(pins:List (Addr×Obj)) (s:Shared) (σ:St) (H:Hp) (v:V) (u:Value) (Q:St→Hp→Prop),Inv X pins σ H s→zU v u→t v σ H Q →
  wpAny (model X.prog X.w) X.A (assign target X.env u) (fun _ s'=>∃σ' H',Inv X pins σ' H' s'∧Q σ' H') X.xe s
noncomputable def PGs (X:Cx)(ts:List Expr)(t:TGs):Prop :=
 ∀(pins:List (Addr×Obj)) (s:Shared) (σ:St) (H:Hp) (vs:List V) (us:List Value) (Q:St→Hp→Prop),Inv X pins σ H s→zH vs us→t vs σ H Q →
  wpAny (model X.prog X.w) X.A (assignInOrder ((assignEach ts X.env).map (·.2)) us) (fun _ s'=>∃σ' H',Inv X pins σ' H' s'∧Q σ' H') X.xe s
noncomputable abbrev zje:=V→V→V→Hp→(Hp→Prop)→Prop
noncomputable def Jk (X:Cx)(t:zje):Prop :=
 ∀(pins:List (Addr×Obj)) (s:Shared) (σ:St) (H:Hp) (o i v:V) (ov iv u:Value) (Q:Hp→Prop),Inv X pins σ H s→zU o ov→zU i iv→zU v u→t o i v H Q →
  wpAny (model X.prog X.w) X.A (setItem ov iv u) (fun _ s'=>∃H',Inv X pins σ H' s'∧Q H') X.xe s
section
variable {X:Cx}{pos:Pos}
noncomputable def Qi (i:Nat):TG:=fun v σ H Q=>Q (σ.set i (some v)) H
theorem zE {i:Nat}{x:Str}(hN:X.N.Nodup)(hi:X.N[i]? = some x)(hx:Loc X.env.scope x)(hf:X.fn x=true∨X.env.scope.names.lookup x=some .local:=by first|exact .inl rfl|exact .inr rfl|assumption):PG X (.Name x pos) (Qi i):=by
 intro pins s σ H v u Q I r h
 exact wpAny_assign_Name (zaD I hN hi hx r (fun s' I'=>⟨_,H,I',h⟩) hf)
noncomputable def zlK:TGs:=fun vs σ H Q=>vs=[]∧Q σ H
noncomputable def zgj (t:TG)(u:TGs):TGs:=fun vs σ H Q=>∃v r,vs=v::r∧t v σ H fun σ' H'=>u r σ' H' Q
theorem Zg:PGs X [] zlK:=by
 intro pins s σ H vs us Q I r h
 obtain⟨e,h⟩:=h
 subst e
 cases r
 exact assignInOrder_nil ⟨σ,H,I,h⟩
theorem jM {e:Expr}{es:List Expr}{t:TG}{u:TGs}(h1:PG X e t)(h2:PGs X es u)
  (hs:(assignEach (e::es) X.env).map (·.2)=assign e X.env::(assignEach es X.env).map (·.2):=by rfl):PGs X (e::es) (zgj t u):=by
 intro pins s σ H vs us Q I r h
 obtain⟨v,vr,e1,h⟩:=h
 subst e1
 cases r with
 |cons r rr =>
  rw[hs]
  refine assignInOrder_cons (thn (h1 pins s σ H _ _ _ I r h) fun _ s1 ⟨σ1,H1,I1,q1⟩=>?_)
  exact h2 pins s1 σ1 H1 _ _ Q I1 rr q1
noncomputable def zjK (K:xb)(n:Nat)(t:TGs):TG:=fun v σ H Q=>∃a xs,v=.ref a∧SqT K H a xs∧xs.length=n∧t xs σ H Q
theorem Qw {es:List Expr}{k:Nat}{t:TGs}{n:Nat}(hc:X.calm=true)(h:PGs X es t)
  (hn:(assignEach es X.env).length=n:=by rfl) (hst:(assignEach es X.env).findIdx? (·.1)=none:=by rfl):PG X (.Tuple es k pos) (zjK X.K n t):=by
 intro pins s σ H v u Q I r hw
 obtain⟨a,xs,e1,hq,hl,hw⟩:=hw
 subst e1
 cases r
 obtain⟨its,rv,ht,hz⟩:=I.tuple hq
 refine assign_Tuple_tuple (I.ok.hd hc) ht (by simp[hn,←hl,rv.length]) hst fun h' hx=>?_
 have I1:Inv X pins σ H {s with heap:=h'}:=I.kept (t':=s.toks) fun b o e=>hx b o (xz (xp e)) e
 exact h pins _ σ H xs _ Q I1 (by simpa using rv) hw
noncomputable def zmY (to ti:TE)(t:zje):TG:=fun v σ H Q=>to σ H fun o H1=>ti σ H1 fun i H2=>t o i v H2 fun H3=>Q σ H3
theorem zij {o i:Expr}{to ti:TE}{t:zje}(ho:PE X o to)(hi:PE X i ti)(hs:Jk X t)
  (ha:∀v,assign (.Subscript o i pos) X.env v=(do
   let ov ←holding [v] (eval o X.env)
   let iv ←holding [v,ov] (eval i X.env)
   standAt pos
   holding [v,ov,iv] (setItem ov iv v)
   release [v,ov,iv] []):=by intro _;rfl):PG X (.Subscript o i pos) (zmY to ti t):=by
 intro pins s σ H v u Q I r h
 rw[ha]
 refine wpAny_bind (wpAny_holding (thn (ho pins s σ H _ I h) fun ov s1 ⟨x,H1,I1,r1,q1⟩=>?_))
 refine wpAny_bind (wpAny_holding (thn (hi pins s1 σ H1 _ I1 q1) fun iv s2 ⟨y,H2,I2,r2,q2⟩=>?_))
 refine wpAny_bind (wpAny_standAt (wpAny_bind (wpAny_holding (thn (hs pins s2 σ H2 x y v ov iv u _ I2 r1 r2 r q2) fun _ s3 ⟨H3,I3,q3⟩=>?_))))
 exact wpAny_release ⟨σ,H3,I3,q3⟩
noncomputable def zgx (te:TE)(g:TG):TS:=fun D σ H=>te σ H fun x H1=>g x σ H1 D.nx
theorem za4 {tg e:Expr}{te:TE}{g:TG}(he:PE X e te)(hg:PG X tg g)(hs:swapsWithSole [tg] e pos.line X.env=pure false:=by rfl)(hw:swappedStores [tg] e X.env=pure none:=by rfl)
  (h1:(assignEach [tg] X.env).map (·.2)=[assign tg X.env]:=by rfl):PS X (.Assign [tg] e pos) (zgx te g):=by
 intro pins s σ H D I h
 refine wpAny_Assign_stores (thn (he pins s σ H _ I h) fun v s1 ⟨x,H1,I1,r1,q1⟩=>?_) hs hw
 rw[h1]
 exact thn (hg pins s1 σ H1 x v _ I1 r1 q1) fun _ s2 q=>q
theorem zn {i:Nat}{x:Str}{e:Expr}{te:TE}{pos':Pos}(hN:X.N.Nodup)(hi:X.N[i]? = some x)(hx:Loc X.env.scope x)(he:PE X e te)(hs:swapsWith e (some (.Name x pos')) pos.line X.env=pure false:=by rfl)(hf:X.fn x=true∨X.env.scope.names.lookup x=some .local:=by first|exact .inl rfl|exact .inr rfl|assumption) :
  PS X (.Assign [.Name x pos'] e pos) (zgx te (Qi i)):=by
 intro pins s σ H D I h
 refine wpAny_Assign_Name (thn (he pins s σ H _ I h) fun v s1 ⟨y,H1,I1,r1,q1⟩=>?_) hs
 exact zaD I1 hN hi hx r1 (fun s2 I2=>⟨_,H1,I2,q1⟩) hf
inductive zhy (c:TT)(tb:TS)(D:qY)(σ0:St)(H0:Hp):Prop
 |mk (W:Nat→St→Hp→Prop) (h0:∃m,W m σ0 H0) (h:∀m σ H,W m σ H→c σ H fun b H1=>if b=true then ∃N:St→Hp→Prop,(∀σ' H',N σ' H'→∃m',m'<m∧W m' σ' H')∧tb {D with nx:=N,ct:=N,bk:=D.nx} σ H1 else D.nx σ H1):zhy c tb D σ0 H0
theorem QO {c:Expr}{body:List Stmt}{tc:TT}{tb:TS}(hp:PassesOwn (model X.prog X.w) X.A X.env X.xe)(hc:PT X c tc)(hb:PSs X body tb):PS X (.While c body [] pos) (zhy tc tb):=by
 intro pins s σ H D I h
 obtain⟨W,⟨m0,w0⟩,turn⟩:=h
 refine wpAny_While (codeAny_whileLoop (fun n s'=>∃σ' H',Inv X pins σ' H' s'∧W n σ' H') ?_ m0 ⟨σ,H,I,w0⟩)
 rintro n s1 ⟨σ1,H1,I1,w1⟩
 refine wpAny_passesOwn hp (thn (hc pins s1 σ1 H1 _ I1 (turn n σ1 H1 w1)) fun b s2 ⟨H2,I2,q2⟩=>?_)
 cases b with
 |true =>
  obtain⟨N,hN,q2⟩:=q2
  rw[if_pos rfl]
  refine wpAny_passesOwn hp (thn (hb pins s2 σ1 H2 _ I2 q2) fun f s3 q3=>?_)
  cases f with
  |next =>
   obtain⟨σ3,H3,I3,n3⟩:=q3
   obtain⟨m',hm,w3⟩:=hN σ3 H3 n3
   exact⟨m',hm,σ3,H3,I3,w3⟩
  |cont =>
   obtain⟨σ3,H3,I3,n3⟩:=q3
   obtain⟨m',hm,w3⟩:=hN σ3 H3 n3
   exact⟨m',hm,σ3,H3,I3,w3⟩
  |brk=>exact q3
  |ret v=>exact q3
 |false =>
  rw[if_neg xB]
  exact wpAny_execs_nil ⟨σ1,H2,I2,q2⟩
end
structure It where
 go:Nat→Hp→Prop
 yld:Nat→Hp→V→Hp→Prop
 stop:Nat→Hp→Prop
noncomputable def jG (X:Cx)(pins:List (Addr×Obj))(H:Hp)(b:Addr):Prop :=
 H b=none∧b≠X.env.locals∧b∉X.fs∧(b∈X.ex∨X.s₀.heap.objs.size≤b)∧(∀x c,X.env.cells.lookup x=some c→c≠b)∧∀p∈X.pn++pins,p.1≠b
theorem Inv.fpOk {X:Cx}{pins:List (Addr×Obj)}{σ:St}{H H':Hp}{s:Shared}{b:Addr}(I:Inv X pins σ H s)(hb:s.heap.objs.size≤b)(hn:H' b=none):jG X pins H' b:=by
 refine⟨hn,yo (xy I.lt hb),I.nofs hb,.inr (x6 I.sz hb),fun x c e z=>?_,fun p hp z=>?_⟩
 ·obtain⟨v,q⟩:=I.cell x c e
  exact absurd (xy q.lt (by rw[z];exact hb)) (yd _)
 ·exact absurd (xy (xp (I.pin p hp).1) (by rw[z];exact hb)) (yd _)
structure Qs (P:Program)(w:World)(K:xb)(tg:Expr)(J:It)(fp:List Addr)(it:Addr)(tn:Nat→Heap→Prop):Prop where
 mem:it∈fp
 obj:∀i h,tn i h→∀b∈fp,∃o,h.get? b=some o∧∀v,o.data≠.cell v
 keep:∀i h h',tn i h→(∀b∈fp,∀o,h.get? b=some o→h'.get? b=some o)→tn i h'
 item:∀(X:Cx),X.prog=P→X.w=w→X.K=K→X.calm=true→∀(i:Nat) (pins:List (Addr×Obj)) (s:Shared) (σ:St) (H:Hp) (E:Value→Shared→Prop),Inv X pins σ H s→(∀b∈fp,jG X pins H b)→tn i s.heap→J.go i H →
  wpAny (model P w) X.A (pyNext (.ref it)) (fun r s1=>∃u,r=some u ∧
   wpAny (model P w) X.A (letOwnedTupleGo tg (.ref it) u) (fun _ s2=>∃x H',Inv X pins σ H' s2∧zU x u∧J.yld i H x H'∧tn (i+1) s2.heap∧∀b∈fp,H' b=none) E s1) E s
 done:∀(X:Cx),X.prog=P→X.w=w→X.K=K→X.calm=true→∀(i:Nat) (pins:List (Addr×Obj)) (s:Shared) (σ:St) (H:Hp) (E:Value→Shared→Prop),Inv X pins σ H s→(∀b∈fp,jG X pins H b)→tn i s.heap→J.stop i H →
  wpAny (model P w) X.A (pyNext (.ref it)) (fun r s1=>r=none∧Inv X pins σ H s1) E s
 self:∀(A:Around) (i:Nat) (s:Shared) (Q:Value→Shared→Prop) (E:Value→Shared→Prop),tn i s.heap→Q (.ref it) s→wpAny (model P w) A (pyIter (.ref it)) Q E s
noncomputable abbrev TI:=St→Hp→(It→Hp→Prop)→Prop
noncomputable def PIE (X:Cx)(pins:List (Addr×Obj))(σ:St)(tg:Expr)(R:It→Hp→Prop)(itv:Value)(s2:Shared):Prop :=
 ∃(it:Addr) (fp:List Addr) (tn:Nat→Heap→Prop) (J:It) (H':Hp),itv=.ref it∧Inv X pins σ H' s2∧Qs X.prog X.w X.K tg J fp it tn∧tn 0 s2.heap∧(∀b∈fp,jG X pins H' b)∧R J H'
noncomputable def PI (X:Cx)(tg iter:Expr)(wi:TI):Prop :=
 ∀(pins:List (Addr×Obj)) (s:Shared) (σ:St) (H:Hp) (R:It→Hp→Prop),Inv X pins σ H s→wi σ H R →
  wpAny (model X.prog X.w) X.A (eval iter X.env) (fun v s1=>wpAny (model X.prog X.w) X.A (pyIter v) (PIE X pins σ tg R) X.xe s1) X.xe s
theorem zgR {M:Model}{A:Around}{E:Value→Shared→Prop}{s:Shared}{tg:Expr}{it:Addr}{u:Value}{o:Obj}{n:String}{vs:Array Value}{Q:Unit→Shared→Prop}(ho:s.heap.get? it=some o)(hc:o.cls=.type n)(hd:o.data=.fields vs)
  (hn:["enumerate","zip","dict_itemiterator","dict_reverseitemiterator","odict_iterator","itertools.zip_longest","itertools.pairwise"].contains n=false) (hQ:Q () s):wpAny M A (letOwnedTupleGo tg (.ref it) u) Q E s:=by
 unfold letOwnedTupleGo
 cases tg<;>first
  |exact wpAny_pure hQ
  |(cases u<;>first
    |exact wpAny_pure hQ
    |(refine wpAny_bind (wpAny_load ho ?_);rw[hc,hd];show wpAny M A (if (["enumerate","zip","dict_itemiterator","dict_reverseitemiterator","odict_iterator","itertools.zip_longest","itertools.pairwise"].contains n&&vs[0]?==some (rawInt _))=true then _ else _) Q E s;rw[if_neg (by intro h;rw[hn,Bool.false_and]at h;cases h)];exact wpAny_pure hQ))
noncomputable def Itl (K:xb)(a:Addr):It :=
 ⟨fun i H=>∃xs x,SqL K H a xs∧xs[i]? = some x,fun i H x H'=>H'=H∧∀xs,SqL K H a xs→xs[i]? = some x,fun i H=>∃xs,SqL K H a xs∧xs.length≤i⟩
noncomputable def Itt (K:xb)(a:Addr):It :=
 ⟨fun i H=>∃xs x,SqT K H a xs∧xs[i]? = some x,fun i H x H'=>H'=H∧∀xs,SqT K H a xs→xs[i]? = some x,fun i H=>∃xs,SqT K H a xs∧xs.length≤i⟩
noncomputable def Itr (lo:Int)(n:Nat):It:=⟨fun i _=>i<n,fun i H x H'=>H'=H∧x=.int (lo+i),fun i _=>n≤i⟩
theorem zg7 {P:Program}{w:World}{K:xb}{tg:Expr}(a it:Addr):Qs P w K tg (Itl K a) [it] it (fun i h=>h.IsListIter it a i) where
 mem:=by simp
 obj:=fun i h st b hb=>by
  have e:b=it:=by simpa using hb
  subst e
  obtain⟨o,e,c,d⟩:=st
  exact⟨o,e,fun v z=>by rw[d]at z;cases z⟩
 keep:=fun i h h' st k=>st.at fun o e=>k it (by simp) o e
 item:=by
  intro X hP hw hK hc i pins s σ H E I hf st hg
  subst hP hw hK
  obtain⟨xs,x,hq,hx⟩:=hg
  obtain⟨its,rv,p,hz⟩:=I.list hq
  obtain⟨u,hu,ru⟩:=rv.get hx
  obtain⟨f0,f1,f2,f3,f4,f5⟩:=hf it (by simp)
  refine wpAny_pyNext_list_item st p.isList (x:=u) (by simpa using hu) fun h' st' sb=>?_
  have I1:Inv X pins σ H {s with heap:=h'}:=I.turned (t':=s.toks) (fun b o hb e=>(sb.2 b hb).trans e) f0 f1 f3 f4 f5
  obtain⟨o,e,c,d⟩:=id st'
  exact⟨u,rfl,zgR (s:={s with heap:=h'}) e c d (by decide) ⟨x,H,I1,ru,⟨rfl,fun ys hy=>by rw[I.list_inj hy hq];exact hx⟩,st',fun b hb=>(hf b hb).1⟩⟩
 done:=by
  intro X hP hw hK hc i pins s σ H E I hf st hg
  subst hP hw hK
  obtain⟨xs,hq,hx⟩:=hg
  obtain⟨its,rv,p,hz⟩:=I.list hq
  obtain⟨f0,f1,f2,f3,f4,f5⟩:=hf it (by simp)
  have hl:=rv.length
  exact wpAny_pyNext_list_end (I.ok.hd hc) st p.isList (by simp;omega) fun h' eb=>⟨rfl,I.turned (t':=s.toks) (fun b o hb e=>eb b o hb e) f0 f1 f3 f4 f5⟩
 self:=fun _ _ _ _ _ st h=>wpAny_pyIter_listiter st h
theorem zgF {P:Program}{w:World}{K:xb}{tg:Expr}(a it:Addr):Qs P w K tg (Itt K a) [it] it (fun i h=>h.IsTupleIter it a i) where
 mem:=by simp
 obj:=fun i h st b hb=>by
  have e:b=it:=by simpa using hb
  subst e
  obtain⟨o,e,c,d⟩:=st
  exact⟨o,e,fun v z=>by rw[d]at z;cases z⟩
 keep:=fun i h h' st k=>st.at fun o e=>k it (by simp) o e
 item:=by
  intro X hP hw hK hc i pins s σ H E I hf st hg
  subst hP hw hK
  obtain⟨xs,x,hq,hx⟩:=hg
  obtain⟨its,rv,p,hz⟩:=I.tuple hq
  obtain⟨u,hu,ru⟩:=rv.get hx
  obtain⟨f0,f1,f2,f3,f4,f5⟩:=hf it (by simp)
  refine wpAny_pyNext_tuple_item st (show s.heap.IsTuple a its.toArray from p) (x:=u) (by simpa using hu) fun h' st' sb=>?_
  have I1:Inv X pins σ H {s with heap:=h'}:=I.turned (t':=s.toks) (fun b o hb e=>(sb.2 b hb).trans e) f0 f1 f3 f4 f5
  obtain⟨o,e,c,d⟩:=id st'
  exact⟨u,rfl,zgR (s:={s with heap:=h'}) e c d (by decide) ⟨x,H,I1,ru,⟨rfl,fun ys hy=>by rw[I.tuple_inj hy hq];exact hx⟩,st',fun b hb=>(hf b hb).1⟩⟩
 done:=by
  intro X hP hw hK hc i pins s σ H E I hf st hg
  subst hP hw hK
  obtain⟨xs,hq,hx⟩:=hg
  obtain⟨its,rv,p,hz⟩:=I.tuple hq
  obtain⟨f0,f1,f2,f3,f4,f5⟩:=hf it (by simp)
  have hl:=rv.length
  exact wpAny_pyNext_tuple_end (I.ok.hd hc) st (show s.heap.IsTuple a its.toArray from p) (by simp;omega) fun h' eb=>⟨rfl,I.turned (t':=s.toks) (fun b o hb e=>eb b o hb e) f0 f1 f3 f4 f5⟩
 self:=fun _ _ _ _ _ st h=>wpAny_pyIter_tupleiter st h
theorem zfP {P:Program}{w:World}{K:xb}{tg:Expr}(it:Addr)(lo:Int)(n:Nat):Qs P w K tg (Itr lo n) [it] it (fun i h=>IsRangeIter h it (lo+(i:Nat)*1) ((n:Int) - (i:Nat)) 1) where
 mem:=by simp
 obj:=fun i h st b hb=>by
  have e:b=it:=by simpa using hb
  subst e
  exact⟨_,st,fun v z=>by
   have z':Data.fields _=Data.cell v:=z
   cases z'⟩
 keep:=fun i h h' st k=>k it (by simp) _ st
 item:=by
  intro X hP hw hK hc i pins s σ H E I hf st hg
  subst hP hw hK
  obtain⟨f0,f1,f2,f3,f4,f5⟩:=hf it (by simp)
  have W:=Walks.range (prog:=X.prog) (w:=X.w) (I.ok.hd hc) it lo 1 n
  refine W.item i s _ _ hg st fun v h' tk hv st' kk=>?_
  obtain⟨t,rfl⟩:=hv
  have I1:Inv X pins σ H {s with heap:=h',toks:=tk}:=I.turned (fun b o hb e=>kk b o (by simpa using hb) e) f0 f1 f3 f4 f5
  refine⟨_,rfl,zgR (s:={s with heap:=h',toks:=tk}) (n:="range_iterator") st' rfl rfl (by decide) ⟨.int (lo+i),H,I1,⟨t,?_⟩,⟨rfl,rfl⟩,st',fun b hb=>(hf b hb).1⟩⟩
  rw[uo]
 done:=by
  intro X hP hw hK hc i pins s σ H E I hf st hg
  subst hP hw hK
  obtain⟨f0,f1,f2,f3,f4,f5⟩:=hf it (by simp)
  exact wpAny_pyNext_range_end (I.ok.hd hc) st (by have:n≤i:=hg;omega) fun h' eb=>⟨rfl,I.turned (t':=s.toks) (fun b o hb e=>eb b o hb e) f0 f1 f3 f4 f5⟩
 self:=fun _ _ _ _ _ st h=>wpAny_pyIter_rangeiter st h
section
variable {X:Cx}{tg:Expr}
noncomputable def zmv (K:xb)(tl:TE):TI:=fun σ H R=>tl σ H fun x H1=>∃a,x=.ref a∧(∃xs,SqL K H1 a xs)∧R (Itl K a) H1
noncomputable def zmV (K:xb)(tl:TE):TI:=fun σ H R=>tl σ H fun x H1=>∃a,x=.ref a∧(∃xs,SqT K H1 a xs)∧R (Itt K a) H1
theorem jg {l:Expr}{tl:TE}(hl:PE X l tl):PI X tg l (zmv X.K tl):=by
 intro pins s σ H R I h
 refine thn (hl pins s σ H _ I h) fun v s1 ⟨x,H1,I1,r1,q1⟩=>?_
 obtain⟨a,e,⟨xs,hq⟩,q⟩:=q1
 subst e
 cases r1
 obtain⟨its,rv,p,hz⟩:=I1.list hq
 refine wpAny_pyIter_list p.isList ?_
 refine⟨s1.heap.objs.size,[s1.heap.objs.size],_,_,H1,rfl,I1.kept (t':=s1.toks) fun b o e=>xg _ e,zg7 a _,⟨_,xF _ rfl,rfl,rfl⟩,fun b hb=>?_,q⟩
 have e:b=s1.heap.objs.size:=by simpa using hb
 subst e
 exact I1.fpOk (xr _) (I1.hok.fresh (xr _))
theorem QA {l:Expr}{tl:TE}(hl:PE X l tl):PI X tg l (zmV X.K tl):=by
 intro pins s σ H R I h
 refine thn (hl pins s σ H _ I h) fun v s1 ⟨x,H1,I1,r1,q1⟩=>?_
 obtain⟨a,e,⟨xs,hq⟩,q⟩:=q1
 subst e
 cases r1
 obtain⟨its,rv,p,hz⟩:=I1.tuple hq
 refine wpAny_pyIter_tuple (show s1.heap.IsTuple a its.toArray from p) ?_
 refine⟨s1.heap.objs.size,[s1.heap.objs.size],_,_,H1,rfl,I1.kept (t':=s1.toks) fun b o e=>xg _ e,zgF a _,⟨_,xF _ rfl,rfl,rfl⟩,fun b hb=>?_,q⟩
 have e:b=s1.heap.objs.size:=by simpa using hb
 subst e
 exact I1.fpOk (xr _) (I1.hok.fresh (xr _))
theorem zc4 {pins:List (Addr×Obj)}{σ:St}{H:Hp}{s:Shared}{R:It→Hp→Prop}{E:Value→Shared→Prop}{lo hi:Int}{t u v:Tok}{tk:Nat}(I:Inv X pins σ H s)(h1:-(2^62)≤lo)(h2:lo<2^62)(h3:-(2^62)≤hi)(h4:hi<2^62)
  (q:R (Itr lo (hi - lo).toNat) H):wpAny (model X.prog X.w) X.A (pyIter (.ref s.heap.objs.size)) (PIE X pins σ tg R) E {s with heap:=s.heap.push {cls:=.type "range",data:=.fields #[.int lo t,.int hi u,.int 1 v]},toks:=tk}:=by
 refine wpAny_pyIter_range (IsRange.new ..) (small_one h1 h2 h3 h4) ?_
 have I1:Inv X pins σ H {s with heap:=s.heap.push {cls:=.type "range",data:=.fields #[.int lo t,.int hi u,.int 1 v]},toks:=tk}:=I.kept fun b o e=>xg _ e
 refine⟨(s.heap.push {cls:=.type "range",data:=.fields #[.int lo t,.int hi u,.int 1 v]}).objs.size,[(s.heap.push {cls:=.type "range",data:=.fields #[.int lo t,.int hi u,.int 1 v]}).objs.size],_,_,H,rfl,
  I1.kept (t':=tk) fun b o e=>xg _ e,zfP _ lo (hi - lo).toNat,?_,fun b hb=>?_,q⟩
 ·have e1:lo+((0:Nat):Int)*1=lo:=by simp
  have e2:(((hi - lo).toNat:Nat):Int) - ((0:Nat):Int)=Builtin.Range.rangeSize lo hi 1:=by rw[rangeSize_one];split<;>omega
  show IsRangeIter _ _ (lo+((0:Nat):Int)*1) ((((hi - lo).toNat:Nat):Int) - ((0:Nat):Int)) 1
  rw[e1,e2]
  exact xF _ rfl
 ·have e:b=(s.heap.push {cls:=.type "range",data:=.fields #[.int lo t,.int hi u,.int 1 v]}).objs.size:=by simpa using hb
  subst e
  exact I1.fpOk (xr _) (I1.hok.fresh (xr _))
noncomputable def zmx (ta:TA):TI:=fun σ H R=>ta σ H fun vs H1=>∃j:Int,vs=[.int j]∧-(2^62)≤j∧j<2^62∧R (Itr 0 j.toNat) H1
noncomputable def zmj (ta:TA):TI:=fun σ H R=>ta σ H fun vs H1=>∃i j:Int,vs=[.int i,.int j]∧(-(2^62)≤i∧i<2^62∧-(2^62)≤j∧j<2^62)∧R (Itr i (j - i).toNat) H1
theorem Qh {a:Expr}{ta:TA}{p pos:Pos}(hg:Gl X "range")(hm:X.mg "range"=none)(ha:PA X [a] ta)(hs:starEach [a] X.env=[(false,eval a X.env)]:=by rfl):PI X tg (.Call (.Name "range" p) [a] [] pos) (zmx ta):=by
 intro pins s σ H R I h
 refine Call_ (JJ I hg hm boot_range (PyProof.Rows.callWith_type1 (thn (ha pos pins s σ H _ I h) fun us s1 ⟨vs,H1,I1,r1,q1⟩=>?_) hs rfl))
 obtain⟨j,e,q1,q2,q⟩:=q1
 subst e
 cases r1 with
 |cons r rr =>
  cases rr
  obtain⟨t,rfl⟩:=r
  exact call_range_1 (zc4 I1 (by omega) (by omega) q1 q2 (by simpa using q))
theorem zh0 {a b:Expr}{ta:TA}{p pos:Pos}(hg:Gl X "range")(hm:X.mg "range"=none)(ha:PA X [a,b] ta)(hs:starEach [a,b] X.env=[(false,eval a X.env),(false,eval b X.env)]:=by rfl)(hs2:starEach [b] X.env=[(false,eval b X.env)]:=by rfl) :
  PI X tg (.Call (.Name "range" p) [a,b] [] pos) (zmj ta):=by
 intro pins s σ H R I h
 refine Call_ (JJ I hg hm boot_range (PyProof.Rows.callWith_type1 (thn (ha pos pins s σ H _ I h) fun us s1 ⟨vs,H1,I1,r1,q1⟩=>?_) (by rw[hs,hs2]) (by rw[hs2];rfl)))
 obtain⟨i,j,e,⟨q1,q2,q3,q4⟩,q⟩:=q1
 subst e
 cases r1 with
 |cons r rr =>
  cases rr with
  |cons r' rr =>
   cases rr
   obtain⟨t,rfl⟩:=r
   obtain⟨t',rfl⟩:=r'
   exact call_range_2 (zc4 I1 q1 q2 q3 q4 q)
noncomputable def zm1 (wi:TI)(g:TG)(tb:TS):TS:=fun D σ H=>wi σ H fun J H1=>∃W:Nat→Nat→St→Hp→Prop,(∃m,W 0 m σ H1)∧∀i m σ H,W i m σ H →
 (J.stop i H∧D.nx σ H)∨(J.go i H∧∃N:St→Hp→Prop,(∀σ' H',N σ' H'→∃m',m'<m∧W (i+1) m' σ' H')∧∀x H',J.yld i H x H'→g x σ H' fun σ2 H2=>tb {D with nx:=N,ct:=N,bk:=D.nx} σ2 H2)
noncomputable def za1 (fp:List Addr)(h:Heap):List (Addr×Obj):=fp.filterMap fun b=>(h.get? b).map fun o=>(b,o)
theorem jA {fp:List Addr}{h:Heap}{b:Addr}{o:Obj}(hb:b∈fp)(e:h.get? b=some o):(b,o)∈za1 fp h:=yh.mpr ⟨b,hb,by rw[e];rfl⟩
theorem zir {fp:List Addr}{h:Heap}{p:Addr×Obj}(hp:p∈za1 fp h):p.1∈fp∧h.get? p.1=some p.2:=by
 obtain⟨b,hb,e⟩:=yh.mp hp
 cases q:h.get? b with
 |none=>rw[q]at e;cases e
 |some o =>
  rw[q]at e
  have e':(b,o)=p:=Option.some.inj e
  subst e'
  exact⟨hb,q⟩
theorem Inv.pinned {pins:List (Addr×Obj)}{σ:St}{H:Hp}{s:Shared}{fp:List Addr}(I:Inv X pins σ H s)(hf:∀b∈fp,jG X pins H b)(ho:∀b∈fp,∃o,s.heap.get? b=some o∧∀v,o.data≠.cell v):Inv X (pins++za1 fp s.heap) σ H s :=
 I.pins_of fun p hp=>(xM.mp hp).elim (fun z=>I.pin p (xu _ z)) fun z=>by
  obtain⟨hb,e⟩:=zir z
  obtain⟨f0,f1,f2,_⟩:=hf p.1 hb
  obtain⟨o,e',d⟩:=ho p.1 hb
  rw[e]at e';cases e'
  exact⟨e,f0,f1,f2,d⟩
theorem Inv.unpinned {pins pl:List (Addr×Obj)}{σ:St}{H:Hp}{s:Shared}(I:Inv X (pins++pl) σ H s):Inv X pins σ H s:=I.pins_of fun p hp=>I.pin p (xu _ (xJ _ hp))
theorem jW {iter:Expr}{body:List Stmt}{wi:TI}{g:TG}{tb:TS}{pos:Pos}(hp:PassesOwn (model X.prog X.w) X.A X.env X.xe)(hc:X.calm=true)(hi:PI X tg iter wi)(hg:PG X tg g)(hb:PSs X body tb)
  (hs:∀x,foldedSetIterable iter X.env x=pure x:=by intro _;rfl):PS X (.For tg iter body [] pos) (zm1 wi g tb):=by
 intro pins s σ H D I h
 refine wpAny_For (thn (hi pins s σ H _ I h) fun v s1 h1=>thn h1 fun itv s2 h2=>?_) hs
 obtain⟨it,fp,tn,J,H2,e,I2,T,st2,f2,W,⟨m0,w0⟩,turn⟩:=h2
 subst e
 have stat:∀{H':Hp},(∀b∈fp,H' b=none)→∀b∈fp,jG X pins H' b:=fun hn b hb=>⟨hn b hb,(f2 b hb).2⟩
 refine codeAny_forLoop_any (fun n s'=>∃i σ' H',Inv X pins σ' H' s'∧tn i s'.heap∧(∀b∈fp,H' b=none)∧W i n σ' H') ?_ m0 ⟨0,σ,H2,I2,st2,fun b hb=>(f2 b hb).1,w0⟩
 rintro n s3 ⟨i,σ3,H3,I3,st3,fr3,w3⟩
 rcases turn i n σ3 H3 w3 with⟨stop,qn⟩|⟨go,N,hN,step⟩
 ·refine wpAny_passesOwn hp (thn (T.done X rfl rfl rfl hc i pins s3 σ3 H3 X.xe I3 (stat fr3) st3 stop) fun r s4 ⟨hr,I4⟩=>?_)
  subst hr
  exact wpAny_execs_nil ⟨σ3,H3,I4,qn⟩
 ·refine wpAny_passesOwn hp (thn (T.item X rfl rfl rfl hc i pins s3 σ3 H3 X.xe I3 (stat fr3) st3 go) fun r s4 ⟨u,hr,h4⟩=>?_)
  subst hr
  refine wpAny_passesOwn hp (thn h4 fun _ s5 ⟨x,H5,I5,r5,y5,st5,fr5⟩=>?_)
  have I5':=I5.pinned (stat fr5) (T.obj _ _ st5)
  refine wpAny_passesOwn hp (thn (hg _ s5 σ3 H5 x u _ I5' r5 (step x H5 y5)) fun _ s6 ⟨σ6,H6,I6,q6⟩=>?_)
  refine wpAny_passesOwn hp (thn (hb _ s6 σ6 H6 _ I6 q6) fun f s7 q7=>?_)
  have again:∀{σ7:St} {H7:Hp},Inv X (pins++za1 fp s5.heap) σ7 H7 s7→N σ7 H7→∃m,m<n∧∃i σ' H',Inv X pins σ' H' s7∧tn i s7.heap∧(∀b∈fp,H' b=none)∧W i m σ' H':=fun {σ7 H7} I7 n7=>by
   obtain⟨m',hm,w7⟩:=hN σ7 H7 n7
   refine⟨m',hm,i+1,σ7,H7,I7.unpinned,T.keep _ _ _ st5 fun b hb o e=>(I7.pin (b,o) (xu _ (xu _ (jA hb e)))).1,fun b hb=>?_,w7⟩
   obtain⟨o,e,d⟩:=T.obj _ _ st5 b hb
   exact(I7.pin (b,o) (xu _ (xu _ (jA hb e)))).2.1
  cases f with
  |next=>obtain⟨σ7,H7,I7,n7⟩:=q7;exact again I7 n7
  |cont=>obtain⟨σ7,H7,I7,n7⟩:=q7;exact again I7 n7
  |brk=>obtain⟨σ7,H7,I7,q7⟩:=q7;exact⟨σ7,H7,I7.unpinned,q7⟩
  |ret v=>obtain⟨x7,σ7,H7,I7,r7,q7⟩:=q7;exact⟨x7,σ7,H7,I7.unpinned,r7,q7⟩
end
theorem qQ {K:xb}{a:Addr}{xs:List V}{g:TG}{tb:TS}{D:qY}{σ:St}{H:Hp}(Pv:Nat→St→Hp→Prop)(h0:Pv 0 σ H)(hl:∀i σ H,i≤xs.length→Pv i σ H→SqL K H a xs)
  (hs:∀i x σ H,xs[i]? = some x→Pv i σ H→g x σ H fun σ2 H2=>tb {D with nx:=Pv (i+1),ct:=Pv (i+1),bk:=D.nx} σ2 H2) (hd:∀σ H,Pv xs.length σ H→D.nx σ H) :
  ∃W:Nat→Nat→St→Hp→Prop,(∃m,W 0 m σ H)∧∀i m σ H,W i m σ H →
   ((Itl K a).stop i H∧D.nx σ H)∨((Itl K a).go i H∧∃N:St→Hp→Prop,(∀σ' H',N σ' H'→∃m',m'<m∧W (i+1) m' σ' H')∧∀x H',(Itl K a).yld i H x H'→g x σ H' fun σ2 H2=>tb {D with nx:=N,ct:=N,bk:=D.nx} σ2 H2):=by
 refine⟨fun i m σ H=>m=xs.length - i∧i≤xs.length∧Pv i σ H,⟨xs.length,by simp,xV _,h0⟩,?_⟩
 rintro i m σ H ⟨rfl,hi,p⟩
 have q:=hl i σ H hi p
 by_cases hlt:i<xs.length
 ·refine .inr ⟨⟨xs,xs[i],q,by simp[hlt]⟩,Pv (i+1),fun σ' H' p'=>⟨xs.length - (i+1),by omega,rfl,hlt,p'⟩,fun x H' y=>?_⟩
  obtain⟨e,y⟩:=y
  subst e
  exact hs i x σ _ (y xs q) p
 ·have e:i=xs.length:=by omega
  subst e
  exact .inl ⟨⟨xs,q,xr _⟩,hd σ H p⟩
theorem zbB {K:xb}{a:Addr}{xs:List V}{g:TG}{tb:TS}{D:qY}{σ:St}{H:Hp}(Pv:Nat→St→Hp→Prop)(h0:Pv 0 σ H)(hl:∀i σ H,i≤xs.length→Pv i σ H→SqT K H a xs)
  (hs:∀i x σ H,xs[i]? = some x→Pv i σ H→g x σ H fun σ2 H2=>tb {D with nx:=Pv (i+1),ct:=Pv (i+1),bk:=D.nx} σ2 H2) (hd:∀σ H,Pv xs.length σ H→D.nx σ H) :
  ∃W:Nat→Nat→St→Hp→Prop,(∃m,W 0 m σ H)∧∀i m σ H,W i m σ H →
   ((Itt K a).stop i H∧D.nx σ H)∨((Itt K a).go i H∧∃N:St→Hp→Prop,(∀σ' H',N σ' H'→∃m',m'<m∧W (i+1) m' σ' H')∧∀x H',(Itt K a).yld i H x H'→g x σ H' fun σ2 H2=>tb {D with nx:=N,ct:=N,bk:=D.nx} σ2 H2):=by
 refine⟨fun i m σ H=>m=xs.length - i∧i≤xs.length∧Pv i σ H,⟨xs.length,by simp,xV _,h0⟩,?_⟩
 rintro i m σ H ⟨rfl,hi,p⟩
 have q:=hl i σ H hi p
 by_cases hlt:i<xs.length
 ·refine .inr ⟨⟨xs,xs[i],q,by simp[hlt]⟩,Pv (i+1),fun σ' H' p'=>⟨xs.length - (i+1),by omega,rfl,hlt,p'⟩,fun x H' y=>?_⟩
  obtain⟨e,y⟩:=y
  subst e
  exact hs i x σ _ (y xs q) p
 ·have e:i=xs.length:=by omega
  subst e
  exact .inl ⟨⟨xs,q,xr _⟩,hd σ H p⟩
theorem zb9 {lo:Int}{n:Nat}{g:TG}{tb:TS}{D:qY}{σ:St}{H:Hp}(Pv:Nat→St→Hp→Prop)(h0:Pv 0 σ H)
  (hs:∀i σ H,i<n→Pv i σ H→g (.int (lo+i)) σ H fun σ2 H2=>tb {D with nx:=Pv (i+1),ct:=Pv (i+1),bk:=D.nx} σ2 H2) (hd:∀σ H,Pv n σ H→D.nx σ H) :
  ∃W:Nat→Nat→St→Hp→Prop,(∃m,W 0 m σ H)∧∀i m σ H,W i m σ H →
   ((Itr lo n).stop i H∧D.nx σ H)∨((Itr lo n).go i H∧∃N:St→Hp→Prop,(∀σ' H',N σ' H'→∃m',m'<m∧W (i+1) m' σ' H')∧∀x H',(Itr lo n).yld i H x H'→g x σ H' fun σ2 H2=>tb {D with nx:=N,ct:=N,bk:=D.nx} σ2 H2):=by
 refine⟨fun i m σ H=>m=n - i∧i≤n∧Pv i σ H,⟨n,by simp,xV _,h0⟩,?_⟩
 rintro i m σ H ⟨rfl,hi,p⟩
 by_cases hlt:i<n
 ·refine .inr ⟨hlt,Pv (i+1),fun σ' H' p'=>⟨n - (i+1),by omega,rfl,hlt,p'⟩,fun x H' y=>?_⟩
  obtain⟨e,y⟩:=y
  subst e y
  exact hs i σ _ hlt p
 ·have e:i=n:=by omega
  subst e
  exact .inl ⟨xr _,hd σ H p⟩
noncomputable abbrev R2:=V→V→Hp→VK→Prop
noncomputable def OpR (X:Cx)(f:Value→Value→Sem Value)(r:R2):Prop :=
 ∀(pins:List (Addr×Obj)) (s:Shared) (σ:St) (H:Hp) (x y:V) (v u:Value) (Q:VK),Inv X pins σ H s→zU x v→zU y u→r x y H Q →
  wpAny (model X.prog X.w) X.A (f v u) (EP X pins σ Q) X.xe s
noncomputable def UnR (X:Cx)(f:Value→Sem Value)(r:V→Hp→VK→Prop):Prop :=
 ∀(pins:List (Addr×Obj)) (s:Shared) (σ:St) (H:Hp) (x:V) (v:Value) (Q:VK),Inv X pins σ H s→zU x v→r x H Q →
  wpAny (model X.prog X.w) X.A (f v) (EP X pins σ Q) X.xe s
noncomputable def ja (X:Cx)(f:Value)(r:List V→Hp→VK→Prop):Prop :=
 ∀(pins:List (Addr×Obj)) (s:Shared) (σ:St) (H:Hp) (xs:List V) (us:List Value) (Q:VK),Inv X pins σ H s→zH xs us→r xs H Q →
  wpAny (model X.prog X.w) X.A (call f us) (EP X pins σ Q) X.xe s
noncomputable def tOp (r:R2)(ta tb:TE):TE:=fun σ H Q=>ta σ H fun x H1=>tb σ H1 fun y H2=>r x y H2 Q
noncomputable def tUn (r:V→Hp→VK→Prop)(ta:TE):TE:=fun σ H Q=>ta σ H fun x H1=>r x H1 Q
inductive rI (C:Int→Int→Prop)(g:Int→Int→V)(x y:V)(H:Hp)(Q:VK):Prop
 |mk (i j:Int) (ex:x=.int i) (ey:y=.int j) (c:C i j) (q:Q (g i j) H):rI C g x y H Q
inductive rI0 (g:Int→Int→V)(x y:V)(H:Hp)(Q:VK):Prop
 |mk (i j:Int) (ex:x=.int i) (ey:y=.int j) (q:Q (g i j) H):rI0 g x y H Q
inductive rU (g:Int→V)(x:V)(H:Hp)(Q:VK):Prop
 |mk (i:Int) (ex:x=.int i) (q:Q (g i) H):rU g x H Q
section
variable {X:Cx}{a b c:Expr}{ta tb tc:TE}{pos:Pos}
theorem zjx (ha:PE X a ta)(hb:PE X b tb){pins:List (Addr×Obj)}{s:Shared}{σ:St}{H:Hp}{R:V→V→Hp→Prop}(I:Inv X pins σ H s)
  (h:ta σ H fun x H1=>tb σ H1 fun y H2=>R x y H2) {Q:Value→Shared→Prop} {f:Value→Value→Sem Value}
  (hf:∀v u s2 x y H2,Inv X pins σ H2 s2→zU x v→zU y u→R x y H2→wpAny (model X.prog X.w) X.A (f v u) Q X.xe s2) :
  wpAny (model X.prog X.w) X.A (eval a X.env) (fun v s₁=>wpAny (model X.prog X.w) X.A (eval b X.env) (fun u s₂=>wpAny (model X.prog X.w) X.A (f v u) Q X.xe s₂) X.xe s₁) X.xe s:=by
 refine thn (ha pins s σ H _ I h) fun v s1 ⟨x,H1,I1,r1,q1⟩=>?_
 refine thn (hb pins s1 σ H1 _ I1 q1) fun u s2 ⟨y,H2,I2,r2,q2⟩=>?_
 exact hf v u s2 x y H2 I2 r1 r2 q2
theorem zi {op:Operator}{r:R2}(ho:OpR X (binaryOp op) r)(ha:PE X a ta)(hb:PE X b tb):PE X (.BinOp a op b pos) (tOp r ta tb):=by
 intro pins s σ H Q I h
 exact wpAny_BinOp (zjx ha hb I h fun v u s2 x y H2 I2 rx ry q=>ho pins s2 σ H2 x y v u Q I2 rx ry q)
theorem QL {op:UnaryOp}{r:V→Hp→VK→Prop}(ho:UnR X (unaryOp op) r)(ha:PE X a ta):PE X (.UnaryOp op a pos) (tUn r ta):=by
 intro pins s σ H Q I h
 exact UnaryOp_ (thn (ha pins s σ H _ I h) fun v s1 ⟨x,H1,I1,r1,q1⟩=>ho pins s1 σ H1 x v Q I1 r1 q1)
theorem opI {f:Value→Value→Sem Value}{C:Int→Int→Prop}{g:Int→Int→Int}
  (rule:∀(i j:Int) (t u:Tok) (s:Shared) (Q:Value→Shared→Prop) (E:Value→Shared→Prop),C i j→Q (.int (g i j) s.toks) {s with toks:=s.toks+1}→wpAny (model X.prog X.w) X.A (f (.int i t) (.int j u)) Q E s) :
  OpR X f (rI C fun i j=>.int (g i j)):=by
 intro pins s σ H x y v u Q I rx ry h
 obtain⟨i,j,rfl,rfl,hc,q⟩:=h
 obtain⟨t,rfl⟩:=rx
 obtain⟨t',rfl⟩:=ry
 exact rule i j t t' s _ _ hc ⟨.int (g i j),H,I.tok _,⟨_,rfl⟩,q⟩
theorem zlG {f:Value→Value→Sem Value}{g:Int→Int→Int}
  (rule:∀(i j:Int) (t u:Tok) (s:Shared) (Q:Value→Shared→Prop) (E:Value→Shared→Prop),Q (.int (g i j) s.toks) {s with toks:=s.toks+1}→wpAny (model X.prog X.w) X.A (f (.int i t) (.int j u)) Q E s) :
  OpR X f (rI0 fun i j=>.int (g i j)):=by
 intro pins s σ H x y v u Q I rx ry h
 obtain⟨i,j,rfl,rfl,q⟩:=h
 obtain⟨t,rfl⟩:=rx
 obtain⟨t',rfl⟩:=ry
 exact rule i j t t' s _ _ ⟨.int (g i j),H,I.tok _,⟨_,rfl⟩,q⟩
theorem zgv {f:Value→Value→Sem Value}{g:Int→Int→Bool}
  (rule:∀(i j:Int) (t u:Tok) (s:Shared) (Q:Value→Shared→Prop) (E:Value→Shared→Prop),Q (.bool (g i j)) s→wpAny (model X.prog X.w) X.A (f (.int i t) (.int j u)) Q E s) :
  OpR X f (rI0 fun i j=>.bl (g i j)):=by
 intro pins s σ H x y v u Q I rx ry h
 obtain⟨i,j,rfl,rfl,q⟩:=h
 obtain⟨t,rfl⟩:=rx
 obtain⟨t',rfl⟩:=ry
 exact rule i j t t' s _ _ ⟨.bl (g i j),H,I,rfl,q⟩
noncomputable def zmL (i j:Int):Prop:=0<j∧j<1073741824
noncomputable def zmG (i j:Int):Prop:=0≤j∧j≤1000000∧i.natAbs<2^64
noncomputable def ziU (i j:Int):Prop:=(-(2^64)<i∧i<2^64)∨(-(2^64)<j∧j<2^64)
theorem ziU.ok {i j:Int}(h:ziU i j):IntMulOk i j:=by
 rcases h with⟨h1,h2⟩|⟨h1,h2⟩
 ·exact .of_left (intBits_le_64 h1 h2)
 ·exact .of_right (intBits_le_64 h1 h2)
theorem jX:OpR X (binaryOp .Add) (rI0 fun i j=>.int (i+j)):=zlG fun _ _ _ _ _ _ _ q=>add_int q
theorem jL:OpR X (binaryOp .Sub) (rI0 fun i j=>.int (i - j)):=zlG fun _ _ _ _ _ _ _ q=>sub_int q
theorem qk:OpR X (binaryOp .Mult) (rI ziU fun i j=>.int (i*j)):=opI fun _ _ _ _ _ _ _ hc q=>mul_int q hc.ok
theorem jk:OpR X (binaryOp .FloorDiv) (rI zmL fun i j=>.int (i/j)):=opI fun i j _ _ _ _ _ hc q=>by
 have h1:(0:Int)<j:=hc.1
 have h2:j<1073741824:=hc.2
 exact floordiv_int (by omega) (by rw[ud i (by omega)];exact q) (.inl (PyProof.noPylong_small (by omega)))
theorem zQ:OpR X (binaryOp .Mod) (rI (fun _ j=>0<j) fun i j=>.int (i%j)):=opI fun i j _ _ _ _ _ hc q=>by
 have h1:(0:Int)<j:=hc
 exact mod_int' (by omega) (by rw[Int.fmod_eq_emod_of_nonneg i (by omega)];exact q)
theorem zaX:OpR X (binaryOp .Pow) (rI zmG fun i j=>.int (i^j.toNat)):=opI fun _ _ _ _ _ _ _ hc q=>pow_int_small hc.1 hc.2.1 hc.2.2 q
theorem unI {f:Value→Sem Value}{g:Int→Int}
  (rule:∀(i:Int) (t:Tok) (s:Shared) (Q:Value→Shared→Prop) (E:Value→Shared→Prop),Q (.int (g i) s.toks) {s with toks:=s.toks+1}→wpAny (model X.prog X.w) X.A (f (.int i t)) Q E s) :
  UnR X f (rU fun i=>.int (g i)):=by
 intro pins s σ H x v Q I rx h
 obtain⟨i,rfl,q⟩:=h
 obtain⟨t,rfl⟩:=rx
 exact rule i t s _ _ ⟨.int (g i),H,I.tok _,⟨_,rfl⟩,q⟩
theorem ZU:UnR X (unaryOp .USub) (rU fun i=>.int (-i)):=unI fun _ _ _ _ _ q=>neg_int q
end
noncomputable def zlQ:V→V→Bool
 | .non,.non=>true | .non,.int _=>true | .int _,.non=>true | .non,.bl _=>true | .bl _,.non=>true | .non,.str _=>true | .str _,.non=>true
 | .int _,.int _=>true | .bl _,.bl _=>true | .str _,.str _=>true | .byt _,.byt _=>true
 | .int _,.str _=>true | .str _,.int _=>true | .bl _,.str _=>true | .str _,.bl _=>true
 |_,_=>false
inductive rEq (x y:V)(H:Hp)(Q:VK):Prop
 |mk (s:zlQ x y=true) (q:Q (.bl (decide (x=y))) H):rEq x y H Q
inductive rNe (x y:V)(H:Hp)(Q:VK):Prop
 |mk (s:zlQ x y=true) (q:Q (.bl (!decide (x=y))) H):rNe x y H Q
theorem zfl {i j:Int}:decide (V.int i=V.int j)=(i==j):=by
 rw[uL]
 simp
theorem zhD {i j:Bool}:decide (V.bl i=V.bl j)=(i==j):=by
 rw[uL]
 simp
theorem zfb {i j:Str}:decide (V.str i=V.str j)=(i==j):=by
 rw[uL]
 simp
theorem zfu {i j:Array UInt8}:decide (V.byt i=V.byt j)=(i.toList==j.toList):=by
 rw[uL]
 cases i
 cases j
 simp
section
variable {X:Cx}{a b c:Expr}{ta tb tc:TE}{pos:Pos}
theorem zX {pins:List (Addr×Obj)}{σ:St}{H:Hp}{s:Shared}{Q:VK}{k k':Bool}(I:Inv X pins σ H s)(q:Q (.bl k) H)(e:k=k'):EP X pins σ Q (.bool k') s:=by
 subst e
 exact⟨.bl k,H,I,rfl,q⟩
theorem qI:OpR X (compareOp .Eq) rEq:=by
 intro pins s σ H x y v u Q I rx ry h
 obtain⟨hs,q⟩:=h
 cases x with
 |non =>
  cases rx
  cases y with
  |non=>cases ry;exact PySem.EqNone.eq_none_none (zX I q (by simp))
  |bl j=>cases ry;exact PySem.EqNone.eq_none_bool (zX I q (by simp))
  |int j=>obtain⟨t',rfl⟩:=ry;exact PySem.EqNone.eq_none_int (zX I q (by simp))
  |str j=>obtain⟨t',rfl⟩:=ry;exact PySem.EqNone.eq_none_str (zX I q (by simp))
  |_=>exact absurd (show false=true from hs) xB
 |bl i =>
  cases rx
  cases y with
  |non=>cases ry;exact PySem.EqNone.eq_bool_none (zX I q (by simp))
  |bl j=>cases ry;exact eq_bool (zX I q zhD)
  |str j=>obtain⟨t',rfl⟩:=ry;exact PySem.EqMixed.eq_bool_str (zX I q (by simp))
  |_=>exact absurd (show false=true from hs) xB
 |int i =>
  obtain⟨t,rfl⟩:=rx
  cases y with
  |non=>cases ry;exact PySem.EqNone.eq_int_none (zX I q (by simp))
  |int j=>obtain⟨t',rfl⟩:=ry;exact eq_int (zX I q zfl)
  |str j=>obtain⟨t',rfl⟩:=ry;exact PySem.EqMixed.eq_int_str (zX I q (by simp))
  |_=>exact absurd (show false=true from hs) xB
 |str i =>
  obtain⟨t,rfl⟩:=rx
  cases y with
  |non=>cases ry;exact PySem.EqNone.eq_str_none (zX I q (by simp))
  |bl j=>cases ry;exact PySem.EqMixed.eq_str_bool (zX I q (by simp))
  |int j=>obtain⟨t',rfl⟩:=ry;exact PySem.EqMixed.eq_str_int (zX I q (by simp))
  |str j=>obtain⟨t',rfl⟩:=ry;exact eq_str (zX I q zfb)
  |_=>exact absurd (show false=true from hs) xB
 |byt i =>
  obtain⟨t,rfl⟩:=rx
  cases y with
  |byt j=>obtain⟨t',rfl⟩:=ry;exact PySem.W.eq_bytes (zX I q zfu)
  |_=>exact absurd (show false=true from hs) xB
 |_=>cases y<;>exact absurd (show false=true from hs) xB
theorem Zs:OpR X (compareOp .NotEq) rNe:=by
 intro pins s σ H x y v u Q I rx ry h
 obtain⟨hs,q⟩:=h
 cases x with
 |non =>
  cases rx
  cases y with
  |non=>cases ry;exact PySem.EqNone.ne_none_none (zX I q (by simp))
  |bl j=>cases ry;exact PySem.EqNone.ne_none_bool (zX I q (by simp))
  |int j=>obtain⟨t',rfl⟩:=ry;exact PySem.EqNone.ne_none_int (zX I q (by simp))
  |str j=>obtain⟨t',rfl⟩:=ry;exact PySem.EqNone.ne_none_str (zX I q (by simp))
  |_=>exact absurd (show false=true from hs) xB
 |bl i =>
  cases rx
  cases y with
  |non=>cases ry;exact PySem.EqNone.ne_bool_none (zX I q (by simp))
  |bl j=>cases ry;exact ne_bool (zX I q (congrArg not zhD))
  |str j=>obtain⟨t',rfl⟩:=ry;exact PySem.EqMixed.ne_bool_str (zX I q (by simp))
  |_=>exact absurd (show false=true from hs) xB
 |int i =>
  obtain⟨t,rfl⟩:=rx
  cases y with
  |non=>cases ry;exact PySem.EqNone.ne_int_none (zX I q (by simp))
  |int j=>obtain⟨t',rfl⟩:=ry;exact ne_int (zX I q (congrArg not zfl))
  |str j=>obtain⟨t',rfl⟩:=ry;exact PySem.EqMixed.ne_int_str (zX I q (by simp))
  |_=>exact absurd (show false=true from hs) xB
 |str i =>
  obtain⟨t,rfl⟩:=rx
  cases y with
  |non=>cases ry;exact PySem.EqNone.ne_str_none (zX I q (by simp))
  |bl j=>cases ry;exact PySem.EqMixed.ne_str_bool (zX I q (by simp))
  |int j=>obtain⟨t',rfl⟩:=ry;exact PySem.EqMixed.ne_str_int (zX I q (by simp))
  |str j=>obtain⟨t',rfl⟩:=ry;exact ne_str (zX I q (congrArg not zfb))
  |_=>exact absurd (show false=true from hs) xB
 |byt i =>
  obtain⟨t,rfl⟩:=rx
  cases y with
  |byt j=>obtain⟨t',rfl⟩:=ry;exact PySem.W.ne_bytes (zX I q (congrArg not zfu))
  |_=>exact absurd (show false=true from hs) xB
 |_=>cases y<;>exact absurd (show false=true from hs) xB
theorem qA:OpR X (compareOp .Lt) (rI0 fun i j=>.bl (decide (i<j))):=zgv fun _ _ _ _ _ _ _ q=>lt_int q
theorem ZN:OpR X (compareOp .LtE) (rI0 fun i j=>.bl (decide (i≤j))):=zgv fun _ _ _ _ _ _ _ q=>le_int q
theorem Zt:OpR X (compareOp .Gt) (rI0 fun i j=>.bl (decide (j<i))):=zgv fun _ _ _ _ _ _ _ q=>gt_int q
theorem zkh:OpR X (compareOp .GtE) (rI0 fun i j=>.bl (decide (j≤i))):=zgv fun _ _ _ _ _ _ _ q=>ge_int q
theorem zmc:OpR X (compareOp .Is) (fun x y H Q=>y=.non∧Q (.bl (decide (x=.non))) H):=by
 intro pins s σ H x y v u Q I rx ry h
 obtain⟨rfl,q⟩:=h
 cases ry
 refine is_none_gen (zX I q ?_)
 cases x<;>first
  |(cases rx;rfl)
  |(obtain⟨t,rfl⟩:=rx;rfl)
theorem zD (b:Expr){op:CmpOp}(h:op≠.In:=by decide)(h2:op≠.NotIn:=by decide):behindInMarks op b=false:=by
 have e1:(op==CmpOp.In)=false:=by cases op<;>first|rfl|exact absurd rfl h
 have e2:(op==CmpOp.NotIn)=false:=by cases op<;>first|rfl|exact absurd rfl h2
 cases b<;>simp[behindInMarks,e1,e2]
theorem Zm {op:CmpOp}{r:R2}(ho:OpR X (compareOp op) r)(ha:PE X a ta)(hb:PE X b tb)(hm:behindInMarks op b=false):PE X (.Compare a [op] [b] pos) (tOp r ta tb):=by
 intro pins s σ H Q I h
 exact wpAny_Compare1 (zjx ha hb I h fun v u s2 x y H2 I2 rx ry q=>ho pins s2 σ H2 x y v u Q I2 rx ry q) hm
noncomputable def zkm (t:TE):TT:=fun σ H Q=>t σ H (zjE Q)
theorem zx {op:CmpOp}{r:R2}(ho:OpR X (compareOp op) r)(ha:PE X a ta)(hb:PE X b tb)(hm:behindInMarks op b=false):PT X (.Compare a [op] [b] pos) (zkm (tOp r ta tb)):=by
 intro pins s σ H Q I h
 refine wpAny_isTrue_Compare1 (thn (ha pins s σ H _ I h) fun v s1 ⟨x,H1,I1,r1,q1⟩=>thn (hb pins s1 σ H1 _ I1 q1) fun u s2 ⟨y,H2,I2,r2,q2⟩ =>
  thn (ho pins s2 σ H2 x y v u _ I2 r1 r2 q2) fun c s3 ⟨z,H3,I3,r3,k,e,q3⟩=>?_) hm
 subst e
 cases r3
 exact wpAny_truthy_bool ⟨H3,I3,q3⟩
noncomputable def zhi (r r':R2)(ta tb tc:TE):TE:=fun σ H Q=>ta σ H fun x H1=>tb σ H1 fun y H2=>r x y H2 fun z H3=>∃k,z=.bl k ∧
 (if k=true then tc σ H3 fun w' H4=>r' y w' H4 Q else Q (.bl false) H3)
theorem zee {op op':CmpOp}{r r':R2}(ho:OpR X (compareOp op) r)(ho':OpR X (compareOp op') r')(ha:PE X a ta)(hb:PE X b tb)(hc:PE X c tc)
  (hm:lastMarks [op,op'] [b,c]=false:=by with_unfolding_all rfl):PE X (.Compare a [op,op'] [b,c] pos) (zhi r r' ta tb tc):=by
 intro pins s σ H Q I h
 refine Compare_chain (thn (ha pins s σ H _ I h) fun v s1 ⟨x,H1,I1,r1,q1⟩=>chain_link (thn (hb pins s1 σ H1 _ I1 q1) fun u s2 ⟨y,H2,I2,r2,q2⟩ =>
  thn (ho pins s2 σ H2 x y v u _ I2 r1 r2 q2) fun d s3 ⟨z,H3,I3,r3,k,e,q3⟩=>?_)) hm
 subst e
 cases r3
 refine wpAny_truthy_bool ?_
 cases k with
 |false=>exact ite_ff ⟨.bl false,H3,I3,rfl,q3⟩
 |true=>exact ite_tt (chain_last (thn (hc pins s3 σ H3 _ I3 q3) fun w' s4 ⟨z',H4,I4,r4,q4⟩=>ho' pins s4 σ H4 y z' u w' Q I4 r2 r4 q4))
theorem Z2 {op op':CmpOp}{r r':R2}(ho:OpR X (compareOp op) r)(ho':OpR X (compareOp op') r')(ha:PE X a ta)(hb:PE X b tb)(hc:PE X c tc)
  (hm:lastMarks [op,op'] [b,c]=false:=by with_unfolding_all rfl):PT X (.Compare a [op,op'] [b,c] pos) (zkm (zhi r r' ta tb tc)):=by
 intro pins s σ H Q I h
 refine isTrue_chain (thn (ha pins s σ H _ I h) fun v s1 ⟨x,H1,I1,r1,q1⟩=>test_link (thn (hb pins s1 σ H1 _ I1 q1) fun u s2 ⟨y,H2,I2,r2,q2⟩ =>
  thn (ho pins s2 σ H2 x y v u _ I2 r1 r2 q2) fun d s3 ⟨z,H3,I3,r3,k,e,q3⟩=>?_)) hm
 subst e
 cases r3
 refine wpAny_truthy_bool ?_
 cases k with
 |false =>
  obtain⟨k',e',q'⟩:=q3
  cases e'
  exact ite_ff ⟨H3,I3,q'⟩
 |true =>
  refine ite_tt (test_last (thn (hc pins s3 σ H3 _ I3 q3) fun w' s4 ⟨z',H4,I4,r4,q4⟩=>thn (ho' pins s4 σ H4 y z' u w' _ I4 r2 r4 q4) fun d' s5 ⟨z2,H5,I5,r5,k2,e2,q5⟩=>?_))
  subst e2
  cases r5
  exact wpAny_truthy_bool ⟨H5,I5,q5⟩
theorem YD:(sizeLine:Nat)<2^63:=by rw[sizeLine_eq];decide
theorem ZK:OpR X (binaryOp .Add) (fun x y H Q=>∃i j,x=.str i∧y=.str j∧i.length+j.length≤sizeLine∧Q (.str (i++j)) H):=by
 intro pins s σ H x y v u Q I rx ry h
 obtain⟨i,j,rfl,rfl,hz,q⟩:=h
 obtain⟨t,rfl⟩:=rx
 obtain⟨t',rfl⟩:=ry
 exact add_str (fun t' tk=>⟨.str (i++j),H,I.tok _,⟨_,rfl⟩,q⟩) hz
theorem qm {x:V}{us:List Value}(r:zH [x] us):∃u,us=[u]∧zU x u:=by
 cases r with
 |cons r1 r2=>cases r2;exact⟨_,rfl,r1⟩
theorem zgt {x y:V}{us:List Value}(r:zH [x,y] us):∃u w',us=[u,w']∧zU x u∧zU y w':=by
 cases r with
 |cons r1 r2 =>
  cases r2 with
  |cons r3 r4=>cases r4;exact⟨_,_,rfl,r1,r3⟩
theorem zhz (hc:X.calm=true):ja X (.builtin "min") (fun xs H Q=>∃i j,xs=[.int i,.int j]∧Q (.int (if j<i then j else i)) H):=by
 intro pins s σ H xs us Q I r h
 obtain⟨i,j,rfl,q⟩:=h
 obtain⟨u,w',rfl,⟨t,rfl⟩,⟨t',rfl⟩⟩:=zgt r
 refine min_two_ints (I.ok.hd hc) fun h' tk k=>⟨_,H,I.kept k,?_,q⟩
 by_cases hj:j<i
 ·rw[if_pos hj,if_pos hj];exact⟨_,rfl⟩
 ·rw[if_neg hj,if_neg hj];exact⟨_,rfl⟩
end
theorem zif {h:Heap}{dx:Addr}{mA:Str→Option Value}(n:h.Ns1 dx mA):∃od,h.get? dx=some od∧∀name,wz name od=some (mA name):=by
 obtain⟨o,es,ep,ho,hd,hk,_,hm⟩:=n
 refine⟨o,ho,fun name=>?_⟩
 have e:=hm name
 unfold nsFind findBy at e
 rw[←vU]at e
 unfold wz
 rw[hd]
 dsimp only
 split
 ·rename_i y q
  rw[q]at e
  exact congrArg some e
 ·rename_i q
  rw[q]at e
  have a:es.toList.any (·.refKey)=false:=by
   rw[v5]
   intro y hy
   obtain⟨z,t,hkey⟩:=hk y (Array.mem_toList_iff.mp hy)
   simp[DictEntry.refKey,hkey]
  have a':¬es.toList.any (·.refKey)=true:=by rw[a];exact xB
  rw[if_neg a']
  exact congrArg some e
theorem zbG.some_of {v:V}{o:Option Value}(r:zbG (some v) o):∃u,o=some u∧zU v u:=by
 cases o with
 |none=>exact(show False from r).elim
 |some u=>exact⟨u,rfl,r⟩
theorem zhk {v:V}{u:Value}(r:zU v u):we u=true:=by
 cases v with
 |non=>cases (show u=Value.none from r);rfl
 |bl b=>cases (show u=Value.bool b from r);rfl
 |int i=>obtain⟨t,e⟩:=(show ∃t,u=Value.int i t from r);cases e;rfl
 |str x=>obtain⟨t,e⟩:=(show ∃t,u=Value.str x t from r);cases e;rfl
 |byt b=>obtain⟨t,e⟩:=(show ∃t,u=Value.bytes b t from r);cases e;rfl
 |flt b=>obtain⟨t,e⟩:=(show ∃t,u=Value.float b t from r);cases e;rfl
 |ref a=>cases (show u=Value.ref a from r);rfl
 |ty n=>cases (show u=Value.type n from r);rfl
section
variable {X:Cx}{pins:List (Addr×Obj)}{σ:St}{H:Hp}{s:Shared}{a C dx:Addr}{fs:List (Str×V)}{f:Str}{v:V}{A:Around}{E:Value→Shared→Prop}
theorem zk6 {prog:Program}{w:World}{env:Env}{e:Expr}{f:Str}{pos:Pos}{s:Shared}{Q:Value→Shared→Prop}(hb:attributeBase e f env (eval e env)=eval e env)
  (h:wpAny (model prog w) A (eval e env) (fun o s₁=>wpAny (model prog w) A (getAttr o f true) Q E s₁) E s):wpAny (model prog w) A (eval (.Attribute e f pos) env) Q E s :=
 Attribute_any_ h (by rw[arm_eval_Attribute,hb])
end
structure jO (k:Nat)(A:Around):Prop where
 hd:A.handled=none
 dp:A.depth+3*k+5<recursionLimit
 un:A.units+16*k+200<cLine
theorem jO.mono {j k:Nat}{A:Around}(r:jO k A)(h:j≤k):jO j A:=⟨r.hd,by have:=r.dp;omega,by have:=r.un;omega⟩
theorem jO.deeper {k:Nat}{A:Around}(r:jO (k+1) A)(env:Env):jO k (A.deeper env) :=
 ⟨r.hd,by have:=r.dp;show A.depth+1+3*k+5<_;omega,by have:=r.un;show A.units+3+16*k+200<_;omega⟩
theorem zgM {A:Around}{C:Addr}{us:List Value}{kw:List (Str×Value)}:(A.under (.builtin "type.__call__" ⟨.ref C::us,kw⟩)).depth=A.depth+1:=by
 first|rfl|simp[Around.under,Code.weight,Code.isCreation,Code.isGuard,Code.isCaller,Code.frames,Code.isFrame,guardIds]
theorem zgL {A:Around}{C:Addr}{us:List Value}{kw:List (Str×Value)}:(A.under (.builtin "type.__call__" ⟨.ref C::us,kw⟩)).units=A.units+1:=by
 first|rfl|simp[Around.under,Code.cUnits,Code.frames,Code.isFrame]
theorem jO.make {k:Nat}{A:Around}(r:jO (k+1) A)(C:Addr)(us:List Value)(kw:List (Str×Value)):jO k (A.under (.builtin "type.__call__" ⟨.ref C::us,kw⟩)) :=
 ⟨r.hd,by have:=r.dp;rw[zgM];omega,by have:=r.un;rw[zgL];omega⟩
theorem jO.depth {k:Nat}{A:Around}(r:jO k A):A.depth<recursionLimit:=by have:=r.dp;omega
theorem jO.units {k:Nat}{A:Around}(r:jO k A):A.units+64<cLine:=by have:=r.un;omega
noncomputable def zbV:TA:=fun _ H Q=>Q [] H
noncomputable def Qf (ta:TE)(tr:TA):TA:=fun σ H Q=>ta σ H fun x H1=>tr σ H1 fun xs H2=>Q (x::xs) H2
section
variable {X:Cx}{e:Expr}{es:List Expr}{te:TE}{t:TA}{pos:Pos}
theorem zb:PA X [] zbV:=fun _ _ _ _ H Q I h=>Calls.spliced_nil ⟨[],H,I,.nil,h⟩
theorem zbW (ha:PE X e te)(hr:PA X es t)(hs:starEach (e::es) X.env=(false,eval e X.env)::starEach es X.env:=by rfl):PA X (e::es) (Qf te t):=by
 intro pos pins s σ H Q I h
 rw[hs]
 show wpAny _ _ (spliced ((false,eval e X.env)::backTo pos (starEach es X.env))) _ _ s
 refine Calls.spliced_cons (thn (ha pins s σ H _ I h) fun u s1 ⟨x,H1,I1,r1,q1⟩=>?_)
 exact thn (hr pos pins s1 σ H1 _ I1 q1) fun us s2 ⟨xs,H2,I2,r2,q2⟩=>⟨x::xs,H2,I2,.cons r1 r2,q2⟩
inductive zf6 (g:List V→HO)(Q:VK)(xs:List V)(H1:Hp):Prop
 |mk (z:xs.length≤sizeLine) (q:∀p,H1 p=none→Q (.ref p) (upd H1 p (g xs))):zf6 g Q xs H1
noncomputable def zl8 (t:TA):TE:=fun σ H Q=>t σ H (zf6 .tup Q)
noncomputable def zmC (t:TA):TE:=fun σ H Q=>t σ H (zf6 .lst Q)
theorem jV {x1}(h:PA X es t):PE X (.Tuple es x1 pos) (zl8 t):=by
 intro pins s σ H Q I hq
 refine wpAny_Tuple_spliced (thn (h pos pins s σ H _ I hq) fun us s1 ⟨xs,H1,I1,r,z,q⟩=>⟨by rw[←r.length];exact z,?_⟩)
 have hf:H1 s1.heap.objs.size=none:=I1.hok.fresh (xr _)
 refine⟨.ref s1.heap.objs.size,upd H1 s1.heap.objs.size (.tup xs),I1.laid (t':=s1.toks) (fun b u e=>xg _ e) (xr _) ?_,rfl,q _ hf⟩
 exact⟨z,us,r,⟨_,xF _ rfl,rfl,_,rfl⟩⟩
theorem zJ (h:PA X es t):PE X (.List es pos) (zmC t):=by
 intro pins s σ H Q I hq
 refine wpAny_List_spliced (thn (h pos pins s σ H _ I hq) fun us s1 ⟨xs,H1,I1,r,z,q⟩=>⟨by rw[←r.length];exact z,?_⟩)
 have hf:H1 s1.heap.objs.size=none:=I1.hok.fresh (xr _)
 refine⟨.ref s1.heap.objs.size,upd H1 s1.heap.objs.size (.lst xs),I1.laid (t':=s1.toks) (fun b u e=>xg _ e) (xr _) ?_,rfl,q _ hf⟩
 exact⟨z,us,0,r,xF _ rfl⟩
end
noncomputable abbrev Sp:=List V→Hp→VK→XK→Prop
noncomputable abbrev CXT:=List Env→Hp→Shared→XK→Value→Shared→Prop
structure zah (P:Program)(w:World)(K:xb)(mg:Str→Option Value)(base:Heap)(A:Around)(outer:List Env)(s:Shared)(H:Hp):Prop where
 frames:A.frames=some outer
 mod:Mod K mg base
 bs:∀b o,base.get? b=some o→s.heap.get? b=some o∧H b=none
 bsz:base.objs.size≤s.heap.objs.size
 funs:s.heap.FunFrames base outer
 frf:∀b∈frs outer,H b=none
 hok:HOk P w H s.heap
 bare:AllBare s.gens
noncomputable def CE (outer:List Env)(P:Program)(w:World)(H:Hp)(s:Shared)(Q:VK)(u:Value)(s':Shared):Prop :=
 ∃v H',s'.os=s.os∧AllBare s'.gens∧Un (frs outer) [] H H' s.heap s'.heap∧HOk P w H' s'.heap∧zU v u∧Q v H'
noncomputable def CR (CX:CXT)(outer:List Env)(P:Program)(w:World)(H:Hp)(s:Shared)(Q:VK)(E:XK)(r:Result)(s':Shared):Prop :=
 match r with
 | .ok (.ret u)=>CE outer P w H s Q u s'
 | .ok _=>False
 | .error e=>CX outer H s E e s'
structure Jw (P:Program)(w:World)(K:xb)(mg:Str→Option Value)(base:Heap)(CX:CXT)(k:Nat)(f:Addr)(fd:FuncData)(ps:List Str)(sp:Sp):Prop where
 len:∀vs H Q E,sp vs H Q E→vs.length=ps.length
 run:∀(A:Around) (outer:List Env) (s:Shared) (H:Hp) (args:Args) (us:List Value) (vs:List V) (Q:VK) (E:XK),jO k A→zah P w K mg base A outer s H→BindsTo s fd args (ps.zip us)→zH vs us→sp vs H Q E →
  codeAny (model P w) A (.call (.ref f) args) (CR CX outer P w H s Q E) s
theorem Jw.imp {P:Program}{w:World}{K:xb}{mg:Str→Option Value}{base:Heap}{CX:CXT}{k:Nat}{f:Addr}{fd:FuncData}{ps:List Str}{sp sp':Sp}(F:Jw P w K mg base CX k f fd ps sp)
  (h:∀vs H Q E,sp' vs H Q E→sp vs H Q E):Jw P w K mg base CX k f fd ps sp' :=
 ⟨fun vs H Q E q=>F.len vs H Q E (h _ _ _ _ q),fun A outer s H args us vs Q E hr he hb hv hs=>F.run A outer s H args us vs Q E hr he hb hv (h _ _ _ _ hs)⟩
theorem zah.make {P:Program}{w:World}{K:xb}{mg:Str→Option Value}{base:Heap}{A:Around}{outer:List Env}{s:Shared}{H:Hp}(e:zah P w K mg base A outer s H)(C:Addr)(us:List Value)(kw:List (Str×Value)) :
  zah P w K mg base (A.under (.builtin "type.__call__" ⟨.ref C::us,kw⟩)) outer s H:=⟨by first|exact e.frames|(simpa [Around.under,Code.envs,Code.isFrame,pushEnvs] using e.frames),e.mod,e.bs,e.bsz,e.funs,e.frf,e.hok,e.bare⟩
section
variable {X:Cx}{pins:List (Addr×Obj)}{σ:St}{H:Hp}{s s':Shared}
theorem Inv.env0 (I:Inv X pins σ H s):zah X.prog X.w X.K X.mg X.base X.A X.stack s H :=
 ⟨I.ok.frames,I.ok.mod,I.bs,x6 I.ok.bsz I.sz,I.stack,I.stkFree,I.hok,I.bare⟩
theorem Inv.after {Q:VK}{u:Value}(I:Inv X pins σ H s)(h:CE X.stack X.prog X.w H s Q u s'):EP X pins σ Q u s':=by
 obtain⟨v,H',os,bare,un,hok,r,q⟩:=h
 obtain⟨hh,g,d,t,os'⟩:=s'
 obtain rfl:os'=s.os:=os
 exact⟨v,H',I.call (h':=hh) (g':=g) (d':=d) (t':=t) (ch:=[]) un hok bare (fun b z=>absurd z (by simp)),r,q⟩
end
noncomputable def zgh (sp:Sp)(dvs:List V)(E:XK)(t:TA):TE:=fun σ H Q=>t σ H fun vs H1=>sp (vs++dvs) H1 Q E
noncomputable def ZP (K:xb)(fd:FuncData)(ps:List Str)(ds:List Value):Prop :=
 ∀(s:Shared) (us:List Value),K.In s.heap→(us++ds).length=ps.length→BindsTo s fd ⟨us,[]⟩ (ps.zip (us++ds))
theorem ZP.all {K:xb}{fd:FuncData}{ps:List Str}(h:∀us:List Value,us.length=ps.length→bindArgs fd ⟨us,[]⟩=pure (ps.zip us)):ZP K fd ps []:=fun s us _ hl=>by
 rw[yA]at hl ⊢
 exact .of_eq (h us hl)
noncomputable def Zy (CX:CXT)(X:Cx)(E:XK):Prop:=∀(pins:List (Addr×Obj)) (σ:St) (H:Hp) (s:Shared) (e:Value) (s':Shared),Inv X pins σ H s→CX X.stack H s E e s'→X.xe e s'
section
variable {X:Cx}{CX:CXT}{k:Nat}{f C:Addr}{fd:FuncData}{ps:List Str}{sp:Sp}{dvs:List V}{ds:List Value}{E:XK}{x m:Str}{p pos apos:Pos}{e o:Expr}{es:List Expr}{ta:TE}{t:TA}
theorem ziu {pins:List (Addr×Obj)}{σ:St}{H:Hp}{s:Shared}{Q:VK}{us:List Value}{vs:List V}(F:Jw X.prog X.w X.K X.mg X.base CX k f fd ps sp)(hr:jO k X.A)(hb:ZP X.K fd ps ds)(hd:zH dvs ds)(hx:Zy CX X E)
  (I:Inv X pins σ H s) (r:zH vs us) (h:sp (vs++dvs) H Q E):wpAny (model X.prog X.w) X.A (call (.ref f) us) (EP X pins σ Q) X.xe s:=by
 have r2:zH (vs++dvs) (us++ds):=r.append hd
 have hl:(us++ds).length=ps.length:=by rw[←r2.length];exact F.len _ _ _ _ h
 refine wpAny_call (codeAny_mono (F.run X.A X.stack s H ⟨us,[]⟩ (us++ds) (vs++dvs) Q E hr I.env0 (hb s us I.kIn hl) r2 h) fun r s' hq=>?_)
 cases r with
 |error e=>exact hx pins σ H s e s' I hq
 |ok fl =>
  cases fl with
  |ret u=>exact I.after hq
  |next=>exact False.elim hq
  |brk=>exact False.elim hq
  |cont=>exact False.elim hq
theorem zkx (F:Jw X.prog X.w X.K X.mg X.base CX k f fd ps sp)(hr:jO k X.A)(hg:Gl X x)(hm:X.mg x=some (.ref f))(hk:xj X.K (.ref f)=true)(hb:ZP X.K fd ps ds)(hd:zH dvs ds)(hx:Zy CX X E)
  (ha:PA X (e::es) t) (hdb:(x==("__debug__":Str))=false:=by decide) (he:starEach (e::es) X.env=(false,eval e X.env)::starEach es X.env:=by rfl) (hpl:(backTo pos (starEach es X.env)).any (·.1)=false:=by rfl) :
  PE X (.Call (.Name x p) (e::es) [] pos) (zgh sp dvs E t):=by
 intro pins s σ H Q I h
 refine wpAny_Call_Name_kw (Zo I hg hm ?_ hdb)
 refine uV (h₀:=X.base) I.ok.mod.kin hk (thn (ha pos pins s σ H _ I h) fun us s1 ⟨vs,H1,I1,r,q⟩=>⟨I1.kIn,?_⟩) he hpl
 exact ziu F hr hb hd hx I1 r q
end
noncomputable def PK (X:Cx)(kws:List Keyword)(t:TA):Prop :=
 ∀(pos:Pos) (pins:List (Addr×Obj)) (s:Shared) (σ:St) (H:Hp) (Q:List V→Hp→Prop),Inv X pins σ H s→t σ H Q→wpAny (model X.prog X.w) X.A (evalAll ((backToKw pos (keywordEach kws X.env)).map (·.2))) (AP X pins σ Q) X.xe s
section
variable {X:Cx}{CX:CXT}{k:Nat}{f C:Addr}{fd:FuncData}{ps ks:List Str}{sp:Sp}{E:XK}{x m:Str}{p pos apos kpos:Pos}{e o:Expr}{es:List Expr}{kws:List Keyword}{te ta:TE}{t tk:TA}{nm:Option Str}
theorem zhI:PK X [] zbV:=fun _ _ _ _ H Q I h=>wpAny_evalAll_nil ⟨[],H,I,.nil,h⟩
theorem zfo (ha:PE X e te)(hr:PK X kws t):PK X (⟨nm,e,kpos⟩::kws) (Qf te t):=by
 intro pos pins s σ H Q I h
 show wpAny _ _ (evalAll ((do let v ←eval e X.env;standAt pos;pure v)::(backToKw pos (keywordEach kws X.env)).map (·.2))) _ _ s
 refine wpAny_evalAll_cons (wpAny_bind (thn (ha pins s σ H _ I h) fun u s1 ⟨x,H1,I1,r1,q1⟩=>wpAny_bind (wpAny_standAt (wpAny_pure ?_))))
 exact thn (hr pos pins s1 σ H1 _ I1 q1) fun us s2 ⟨xs,H2,I2,r2,q2⟩=>⟨x::xs,H2,I2,.cons r1 r2,q2⟩
variable {g:List Value→List Value→List Value}{gV:List V→List V→List V}
end
structure zu (N P:List Str)(sc:Scope):Prop where
 kind:sc.kind=.function
 co:sc.isCoroutine=false
 gen:sc.isGenerator=false
 nd:N.Nodup
 pre:N.take P.length=P
 par:∀x∈P,sc.names.lookup x=some .local∨sc.names.lookup x=some .cell
 nofree:∀y∈sc.names,y.2≠.free
theorem zcm {kindOf:Str→Option NameKind}{x:Str}:∀{binds:List (Str×Value)} {m:Str→Option Value},(∀v,(x,v)∉binds)→bindL kindOf binds m x=m x
 | [],_,_=>rfl
 |(n,v)::r,m,h=>by
  unfold bindL
  rw[zcm fun w hw=>h w (xx _ hw)]
  split
  ·have:x≠n:=by rintro rfl;exact h v xD
   simp[this]
  ·rfl
theorem zcj {kindOf:Str→Option NameKind}{x:Str}:∀{binds:List (Str×Value)} {m:Str→Option Value},(∀v,(x,v)∉binds)→bindC kindOf binds m x=m x
 | [],_,_=>rfl
 |(n,v)::r,m,h=>by
  unfold bindC
  rw[zcj fun w hw=>h w (xx _ hw)]
  split
  ·rfl
  ·have:x≠n:=by rintro rfl;exact h v xD
   simp[this]
theorem zb4 {kindOf:Str→Option NameKind}{x:Str}{v:Value}:∀{P:List Str} {vs:List Value} {i:Nat} {m:Str→Option Value},P.Nodup→P[i]? = some x→vs[i]? = some v→kindOf x=some .local →
  bindL kindOf (P.zip vs) m x=some v
 | [],_,_,_,_,h,_,_=>by simp at h
 |_::_,[],_,_,_,_,h,_=>by simp at h
 |p::P,w::vs,0,m,nd,h1,h2,hk=>by
  simp at h1 h2;subst h1;subst h2
  show bindL kindOf ((p,w)::P.zip vs) m p=_
  unfold bindL
  rw[zcm fun v hv=>(yP.mp nd).1 (vm hv).1,if_pos hk]
  simp
 |p::P,w::vs,i+1,m,nd,h1,h2,hk=>by
  show bindL kindOf ((p,w)::P.zip vs) m x=_
  unfold bindL
  exact zb4 (i:=i) (yP.mp nd).2 (by simpa using h1) (by simpa using h2) hk
theorem zb0 {kindOf:Str→Option NameKind}{x:Str}{v:Value}:∀{P:List Str} {vs:List Value} {i:Nat} {m:Str→Option Value},P.Nodup→P[i]? = some x→vs[i]? = some v→kindOf x≠some .local →
  bindC kindOf (P.zip vs) m x=some v
 | [],_,_,_,_,h,_,_=>by simp at h
 |_::_,[],_,_,_,_,h,_=>by simp at h
 |p::P,w::vs,0,m,nd,h1,h2,hk=>by
  simp at h1 h2;subst h1;subst h2
  show bindC kindOf ((p,w)::P.zip vs) m p=_
  unfold bindC
  rw[zcj fun v hv=>(yP.mp nd).1 (vm hv).1,if_neg hk]
  simp
 |p::P,w::vs,i+1,m,nd,h1,h2,hk=>by
  show bindC kindOf ((p,w)::P.zip vs) m x=_
  unfold bindC
  exact zb0 (i:=i) (yP.mp nd).2 (by simpa using h1) (by simpa using h2) hk
noncomputable def Zq (N:List Str)(vs:List V):St:=vs.map some++wA (N.length - vs.length) none
noncomputable def zr (CX:CXT)(P:Program)(w:World)(K:xb)(mg:Str→Option Value)(base:Heap)(N:List Str)(qual:Str)(scope:Scope)(f:Addr)(cd:Value)(A:Around)(outer:List Env)(s:Shared)(H:Hp)(E:XK):Cx where
 prog:=P
 w:=w
 K:=K
 mg:=mg
 base:=base
 A:=A.deeper (envOfC qual scope s.heap.objs.size f cd)
 N:=N
 s₀:=s
 H₀:=H
 env:=envOfC qual scope s.heap.objs.size f cd
 outer:=outer
 stack:=envOfC qual scope s.heap.objs.size f cd::outer
 ex:=[]
 calm:=true
 fn:=fun _=>true
 pn:=[]
 xe:=fun e s'=>wpAny (model P w) (A.deeper (envOfC qual scope s.heap.objs.size f cd)) (leaving (envOfC qual scope s.heap.objs.size f cd) e) (fun _ s''=>CX outer H s E e s'') (fun e' s''=>CX outer H s E e' s'') s'
theorem zeg {sc:Scope}{n:Nat}{x:Str}(h:sc.names.lookup x=some .cell):∃c,(cellsFrom n sc.names []).lookup x=some c:=by
 have q:=vn sc.names n [] (.inl h)
 exact Option.isSome_iff_exists.mp q
theorem zit {CX:CXT}{P:Program}{w:World}{K:xb}{mg:Str→Option Value}{base:Heap}{N ps:List Str}{qual:Str}{scope:Scope}{f:Addr}{cd:Value}{A:Around}{outer:List Env}{s s1:Shared}{H:Hp}{E:XK}{us:List Value}{vs:List V}
  (S:zu N ps scope) (hd:A.handled=none) (e0:zah P w K mg base A outer s H) (hl:vs.length=ps.length) (r:zH vs us)
  (x:InCallC s s.heap.objs.size (bindL (envOfC qual scope s.heap.objs.size f cd).kindOf (ps.zip us) fun _=>none) (cellsFrom (s.heap.objs.size+1) scope.names []) (bindC (envOfC qual scope s.heap.objs.size f cd).kindOf (ps.zip us) fun _=>none) s1) :
  Inv (zr CX P w K mg base N qual scope f cd A outer s H E) [] (Zq N vs) H s1:=by
 have hpl:ps.length≤N.length:=by have:=congrArg wf S.pre;rw[ye]at this;omega
 obtain⟨h1,tk,rfl,hk⟩:=x.done
 have noA:∀b:Addr,b∉(zr CX P w K mg base N qual scope f cd A outer s H E).ex:=fun b z=>absurd (show b∈([]:List Addr) from z) (by simp)
 refine⟨⟨e0.mod,S.kind,rfl,rfl,xr _,fun y z c h1 h2=>?_,fun y hy=>?_,fun y c _ h=>?_,fun _=>hd,Around.frames_deeper e0.frames,.inr ⟨rfl,rfl⟩,fun b z=>absurd z (noA b),e0.bs,e0.bsz,fun b _ _=>noA b,fun b z=>absurd z (noA b),e0.funs,e0.frf⟩,
  rfl,e0.bare,Un.kept hk,⟨_,x.toInCall.ns,fun i y v h1 h2 h3=>?_⟩,fun y c h=>⟨_,x.cell y c h⟩,e0.hok.fresh (xr _),fun y c h=>?_,fun p hp=>absurd (show p∈([]:List (Addr×Obj)) from hp) (by simp),e0.hok.kept hk,?_⟩
 ·exact name_of_addr x.apart (PySem.mem_of_lookup h1) (PySem.mem_of_lookup h2)
 ·have hy:scope.names.lookup y=some .cell∨scope.names.lookup y=some .free:=hy
  rcases hy with hy|hy
  ·exact zeg hy
  ·exact absurd rfl (S.nofree _ (PySem.mem_of_lookup hy))
 ·exact vX (x.above y c (PySem.mem_of_lookup h))
 ·have hi:i<vs.length:=by
   unfold Zq at h2
   by_cases hi:i<vs.length
   ·exact hi
   ·rw[ue (by simpa using hi)]at h2
    rw[List.getElem?_replicate]at h2
    split at h2<;>cases h2
  have ha:vs[i]? = some v:=by
   unfold Zq at h2
   rw[yt (by simpa using hi),xK]at h2
   cases e:vs[i]? with
   |none=>rw[e]at h2;cases h2
   |some a=>rw[e]at h2;cases h2;rfl
  obtain⟨u,hu,rv⟩:=r.get ha
  have hp:ps[i]? = some y:=by
   rw[←S.pre,yU (by omega)];exact h1
  have ndP:ps.Nodup:=by rw[←S.pre];exact S.nd.sublist (List.take_sublist _ _)
  refine⟨u,rv,?_⟩
  rcases S.par y (xq hp)with k|k
  ·exact .inl ⟨k,zb4 ndP hp hu k⟩
  ·obtain⟨c,e⟩:=zeg (n:=s.heap.objs.size+1) k
   refine .inr ⟨.inl k,c,e,?_⟩
   have q:=x.cell y c e
   rw[zb0 ndP hp hu (by show scope.names.lookup y≠_;rw[k];decide)]at q
   exact q
 ·exact e0.hok.fresh (vX (x.above y c (PySem.mem_of_lookup h)))
 ·unfold Zq
  show _=N.length
  rw[xw,xa,uy]
  omega
theorem zml {CX:CXT}{P:Program}{w:World}{K:xb}{mg:Str→Option Value}{base:Heap}{k:Nat}{f:Addr}{name qual:Str}{params:Arguments}{body:List Stmt}{scope:Scope}{dV kV doc pm cdv ct oc:Value}{an od:Option Addr}
  {osl:Array (Option Value)} {N ps:List Str} {sp:Sp} (lk:K.lookup f=some ⟨oc,od,.func (xn name qual params body scope dV kV doc pm an cdv ct),osl⟩) (hcd:xk K cdv qual=true) (S:zu N ps scope)
  (len:∀vs H Q E,sp vs H Q E→vs.length=ps.length)
  (hbody:∀(A:Around) (outer:List Env) (s:Shared) (H:Hp) (vs:List V) (Q:VK) (E:XK),jO k (A.deeper (envOfC qual scope s.heap.objs.size f cdv))→sp vs H Q E →
   ∃t,PSs (zr CX P w K mg base N qual scope f cdv A outer s H E) body t∧t {nx:=fun _ H'=>Q .non H',rt:=Q} (Zq N vs) H) :
  Jw P w K mg base CX (k+1) f (xn name qual params body scope dV kV doc pm an cdv ct) ps sp:=by
 refine⟨len,fun A outer s H args us vs Q E hr e0 hb r hsp=>?_⟩
 have hl:=len _ _ _ _ hsp
 have KX:K.In s.heap:=e0.mod.kin.keeps fun b o e=>(e0.bs b o e).1
 have lim:s.heap.NoLimit:=e0.mod.nolimit.keeps fun b o e=>(e0.bs b o e).1
 have hkind:∀y∈ps.zip us,scope.names.lookup y.1=some .local∨(scope.names.lookup y.1=some .cell∧((cellsFrom (s.heap.objs.size+1) scope.names []).lookup y.1).isSome=true):=fun⟨n,v⟩ hy=>by
  rcases S.par n (vm hy).1 with q|q
  ·exact .inl q
  ·exact .inr ⟨q,vn _ _ _ (.inl q)⟩
 refine codeAny_call_function hr.depth (KX _ _ lk) rfl S.co S.gen rfl (PySem.W.codeRec_of KX hcd) (hb _ _ _ _ ?_)
 refine wpAny_newFunctionEnv_cells S.kind hkind fun env he s1 x=>?_
 subst he
 refine⟨lim.keeps x.toInCall.keep,codeAny_func ?_⟩
 obtain⟨t,ht,hq⟩:=hbody A outer s H vs Q E (hr.deeper _) hsp
 have I:Inv (zr CX P w K mg base N qual scope f cdv A outer s H E) [] (Zq N vs) H s1:=zit S hr.hd e0 hl r x
 refine wpAny_mono (ht [] s1 (Zq N vs) H _ I hq) (fun fl s' hs=>?_) fun e s' hs=>hs
 have fin:∀{σ':St} {H':Hp} {v:V} {u:Value},Inv (zr CX P w K mg base N qual scope f cdv A outer s H E) [] σ' H' s'→zU v u→Q v H'→CE outer P w H s Q u s' :=
  fun {σ' H' v u} J rv q=>⟨v,H',J.os,J.bare,J.base,J.hok,rv,q⟩
 cases fl with
 |ret u =>
  obtain⟨v,σ',H',J,rv,q⟩:=hs
  exact fin J rv q
 |next =>
  obtain⟨σ',H',J,q⟩:=hs
  exact fin (v:=V.non) (u:=Value.none) J rfl q
 |brk =>
  obtain⟨_,_,_,q⟩:=hs
  exact False.elim q
 |cont =>
  obtain⟨_,_,_,q⟩:=hs
  exact False.elim q
section
variable {X:Cx}{x:Str}{p pos:Pos}{e:Expr}{es:List Expr}{t:TA}{id T:String}{r:List V→Hp→VK→Prop}
noncomputable def tCB (r:List V→Hp→VK→Prop)(t:TA):TE:=fun σ H Q=>t σ H fun vs H1=>r vs H1 Q
theorem zjh (hc:ja X (.builtin id) r)(hg:Gl X x)(hm:X.mg x=none)(hv:bootBuiltins x=some (.builtin id))(ha:PA X (e::es) t)(hn:x≠"__name__":=by decide)(hdb:(x==("__debug__":Str))=false:=by decide)
  (he:starEach (e::es) X.env=(false,eval e X.env)::starEach es X.env:=by rfl) (hpl:(backTo pos (starEach es X.env)).any (·.1)=false:=by rfl):PE X (.Call (.Name x p) (e::es) [] pos) (tCB r t):=by
 intro pins s σ H Q I h
 refine wpAny_Call_Name_kw (JJ I hg hm hv ?_ hn hdb)
 exact PyProof.Rows.callWith_builtin1 (thn (ha pos pins s σ H _ I h) fun us s1 ⟨vs,H1,I1,r1,q1⟩=>hc pins s1 σ H1 vs us Q I1 r1 q1) he hpl
theorem zhB (hc:ja X (.type T) r)(hg:Gl X x)(hm:X.mg x=none)(hv:bootBuiltins x=some (.type T))(ha:PA X (e::es) t)(hn:x≠"__name__":=by decide)(hdb:(x==("__debug__":Str))=false:=by decide)
  (he:starEach (e::es) X.env=(false,eval e X.env)::starEach es X.env:=by rfl) (hpl:(backTo pos (starEach es X.env)).any (·.1)=false:=by rfl):PE X (.Call (.Name x p) (e::es) [] pos) (tCB r t):=by
 intro pins s σ H Q I h
 refine wpAny_Call_Name_kw (JJ I hg hm hv ?_ hn hdb)
 exact PyProof.Rows.callWith_type1 (thn (ha pos pins s σ H _ I h) fun us s1 ⟨vs,H1,I1,r1,q1⟩=>hc pins s1 σ H1 vs us Q I1 r1 q1) he hpl
end
end L2
namespace HT
open PySem PyProof.Rows
section
open PySem.SeqAt
open PySem.AutoSeq1 (wpAny_loadPart')
open PySem.MeetsSeq PySem.MeetsSeq2 PySem.MeetsSeq3
end
section
variable {prog:Program}{w:World}{A:Around}{E:Value→Shared→Prop}{s:Shared}
theorem cat_tup {t b:Addr}{vs ws:List Value}{Q:Value→Shared→Prop}(ht:IsTup s.heap t vs.toArray)(hb:IsTup s.heap b ws.toArray)(hv:vs≠[])
  (h1:ws=[]→Q (.ref t) s) (h2:ws≠[]→Q (.ref s.heap.objs.size) {s with heap:=s.heap.push {cls:=.type "tuple",data:=.seq (vs++ws).toArray}})
  (hsz:vs.length+ws.length≤sizeLine):wpAny (model prog w) A (binaryOp .Add (.ref t) (.ref b)) Q E s:=by
 obtain⟨⟨cls,dd,data,sl⟩,ho,hc,n,hd⟩:=id ht
 obtain⟨⟨cls2,dd2,data2,sl2⟩,ho2,hc2,n2,hd2⟩:=id hb
 simp only at hc hd hc2 hd2
 subst hc hd hc2 hd2
 have e:vs.toArray++ws.toArray=(vs++ws).toArray:=by simp
 by_cases hw:ws=[]
 ·exact concat_meets ⟨_,ho,rfl⟩ ⟨_,ho2,rfl⟩ noFill_tuple_add seq_tuple_add vo vd (u9 _ _)
   (tuple_addW1 t b vs.toArray ws.toArray n n2 dd dd2 sl sl2 (by simpa using hv) (by simp[hw])) ⟨ho,ho2,h1 hw⟩
 ·refine concat_meets ⟨_,ho,rfl⟩ ⟨_,ho2,rfl⟩ noFill_tuple_add seq_tuple_add vo vd (u9 _ _)
   (tuple_addW2 t b vs.toArray ws.toArray n n2 dd dd2 sl sl2 (by simpa using hv) (by simpa using hw) (by rw[xC,xC];exact hsz)) ⟨ho,ho2,?_⟩
  rw[e]
  exact h2 hw
noncomputable def sIx (n d:Nat):Option Int→Nat
 |none=>d
 |some v=>if v<0 then(v+(n:Int)).toNat else min v.toNat n
theorem sIx_none (n d:Nat):sIx n d none=d:=rfl
theorem sIx_nat (n d k:Nat):sIx n d (some (k:Int))=min k n:=by
 show(if (k:Int)<0 then((k:Int)+(n:Int)).toNat else min (k:Int).toNat n)=min k n
 rw[if_neg (by omega),xQ]
end
end HT
namespace L2
open PySem PySem.Spec PyProof.Rows
noncomputable abbrev TO:=St→Hp→(Option Int→Hp→Prop)→Prop
noncomputable def PO (X:Cx)(e:Option Expr)(t:TO):Prop :=
 ∀(pins:List (Addr×Obj)) (s:Shared) (σ:St) (H:Hp) (Q:Option Int→Hp→Prop),Inv X pins σ H s→t σ H Q →
  wpAny (model X.prog X.w) X.A (evalPart e X.env) (fun u s'=>∃o H',Inv X pins σ H' s'∧IsPart u o∧Q o H') X.xe s
noncomputable def zbC:TO:=fun _ H Q=>Q none H
inductive zg3 (Q:Option Int→Hp→Prop)(x:V)(H1:Hp):Prop
 |mk (i:Int) (e:x=.int i) (q:Q (some i) H1):zg3 Q x H1
noncomputable def zgk (t:TE):TO:=fun σ H Q=>t σ H (zg3 Q)
theorem JB {ns:List Int}:∀{us:List Value},zH (ns.map V.int) us→IntsAre us ns:=by
 induction ns with
 |nil=>intro us r;rw[vY]at r;cases r;exact .nil
 |cons n ns ih =>
  intro us r
  rw[xW]at r
  cases r with
  |cons r1 r2 =>
   obtain⟨t,e⟩:=r1
   subst e
   exact .cons n t (ih r2)
section
variable {X:Cx}{e:Expr}{te:TE}{lo hi:Option Expr}{tl th:TO}{pos p2:Pos}
theorem qW:PO X none zbC:=by
 intro pins s σ H Q I h
 rw[evalPart_none]
 exact wpAny_pure ⟨none,H,I,.none,h⟩
theorem qV (h:PE X e te):PO X (some e) (zgk te):=by
 intro pins s σ H Q I hw
 rw[evalPart_some]
 refine thn (h pins s σ H _ I hw) fun u s1 ⟨x,H1,I1,r1,q1⟩=>?_
 obtain⟨i,rfl,q⟩:=q1
 obtain⟨t,rfl⟩:=r1
 exact⟨some i,H1,I1,.int i t,q⟩
noncomputable def SlR (X:Cx)(r:V→Option Int→Option Int→Hp→VK→Prop):Prop :=
 ∀(pins:List (Addr×Obj)) (s:Shared) (σ:St) (H:Hp) (x:V) (v vl vu:Value) (lo hi:Option Int) (sl:Addr) (Q:VK),Inv X pins σ H s→zU x v→s.heap.IsSliceOf sl vl vu .none→IsPart vl lo→IsPart vu hi→r x lo hi H Q →
  ∃T id,typeLookup (.type T) "__getitem__"=pure (some (.builtin id))∧s.TypeIs v T∧wpAny (model X.prog X.w) X.A (getItem v (.ref sl)) (EP X pins σ Q) X.xe s
noncomputable def tSl (r:V→Option Int→Option Int→Hp→VK→Prop)(te:TE)(tl th:TO):TE:=fun σ H Q=>te σ H fun x H1=>tl σ H1 fun l H2=>th σ H2 fun u H3=>r x l u H3 Q
theorem qx {r:V→Option Int→Option Int→Hp→VK→Prop}(hr:SlR X r)(he:PE X e te)(hl:PO X lo tl)(hu:PO X hi th):PE X (.Subscript e (.Slice lo hi none p2) pos) (tSl r te tl th):=by
 intro pins s σ H Q I h
 refine Subscript_ (thn (he pins s σ H _ I h) fun v s1 ⟨x,H1,I1,r1,q1⟩=>?_)
 refine wpAny_Slice (thn (hl pins s1 σ H1 _ I1 q1) fun vl s2 ⟨l,H2,I2,pl,q2⟩=>thn (hu pins s2 σ H2 _ I2 q2) fun vu s3 ⟨u,H3,I3,pu,q3⟩=>?_)
 rw[evalPart_none]
 refine wpAny_pure ?_
 have I4:Inv X pins σ H3 {s3 with heap:=s3.heap.push {cls:=.type "slice",data:=.fields #[vl,vu,.none]}}:=I3.kept (t':=s3.toks) fun b ob q=>xg _ q
 obtain⟨T,id,hT,ht,hg⟩:=hr pins {s3 with heap:=s3.heap.push {cls:=.type "slice",data:=.fields #[vl,vu,.none]}} σ H3 x v vl vu l u s3.heap.objs.size Q I4 r1 (Heap.IsSliceOf.new ..) pl pu q3
 show wpAny (model X.prog X.w) X.A (subscriptTail e (.Slice lo hi none p2) v (.ref s3.heap.objs.size)) (EP X pins σ Q) X.xe {s3 with heap:=s3.heap.push {cls:=.type "slice",data:=.fields #[vl,vu,.none]}}
 exact tail_any (ops:=[.ref s3.heap.objs.size,v]) ht hT hg (by with_unfolding_all rfl)
noncomputable def JP (xs:List V)(lo hi:Option Int):List V:=(xs.drop (HT.sIx xs.length 0 lo)).take (HT.sIx xs.length xs.length hi - HT.sIx xs.length 0 lo)
theorem zeC (xs:List V)(lo hi:Option Int):(JP xs lo hi).length≤xs.length:=by
 unfold JP
 rw[ye,yB]
 omega
inductive zf7 (K:xb)(x y:V)(H:Hp)(Q:VK):Prop
 |mk (a b:Addr) (xs ys:List V) (ex:x=.ref a) (ey:y=.ref b) (s:SqT K H a xs) (s':SqT K H b ys) (n:xs≠[]) (z:xs.length+ys.length≤sizeLine) (q0:ys=[]→Q (.ref a) H) (q:ys≠[]→∀p,H p=none→Q (.ref p) (upd H p (.tup (xs++ys)))):zf7 K x y H Q
theorem zH.nil_iff {xs:List V}{us:List Value}(r:zH xs us):us=[]↔xs=[]:=by
 cases r with
 |nil=>simp
 |cons _ _=>simp
theorem zkD:OpR X (binaryOp .Add) (zf7 X.K):=by
 intro pins s σ H x y v u Q I rx ry h
 obtain⟨a,b,xs,ys,rfl,rfl,ha,hb,hx,hz,q1,q2⟩:=h
 cases rx
 cases ry
 obtain⟨its,r1,p1,_⟩:=I.tuple ha
 obtain⟨its2,r2,p2,_⟩:=I.tuple hb
 refine HT.cat_tup p1 p2 (fun z=>hx (r1.nil_iff.mp z)) (fun z=>⟨.ref a,H,I,rfl,q1 (r2.nil_iff.mp z)⟩) (fun z=>?_) (by rw[←r1.length,←r2.length];exact hz)
 refine⟨.ref s.heap.objs.size,_,I.laid (t':=s.toks) (o:=.tup (xs++ys)) (fun b ob q=>xg _ q) (xr _) ?_,rfl,q2 (fun w=>z (r2.nil_iff.mpr w)) _ (I.hok.fresh (xr _))⟩
 exact⟨by rw[xw];exact hz,_,r1.append r2,IsTup.new _ _⟩
end
noncomputable def ixN (n:Nat)(i:Int):Option Nat:=if 0≤i then(if i<n then some i.toNat else none) else if -(n:Int)≤i then some (i+n).toNat else none
noncomputable def atI {α:Type}(xs:List α)(i:Int):Option α:=(ixN xs.length i).bind fun j=>xs[j]?
theorem zbZ {n:Nat}{i:Int}{j:Nat}(h:ixN n i=some j):seqIndex? i n=some j∧j<n∧-(n:Int)≤i∧i<n:=by
 unfold ixN at h
 by_cases h0:0≤i
 ·rw[if_pos h0]at h
  by_cases h1:i<n
  ·rw[if_pos h1]at h
   have e:i.toNat=j:=Option.some.inj h
   exact⟨by rw[seqIndex_of h0 h1,e],by omega,by omega,h1⟩
  ·rw[if_neg h1]at h;cases h
 ·rw[if_neg h0]at h
  by_cases h1:-(n:Int)≤i
  ·rw[if_pos h1]at h
   have e:(i+n).toNat=j:=Option.some.inj h
   exact⟨by rw[seqIndex_neg (by omega) h1,e],by omega,h1,by omega⟩
  ·rw[if_neg h1]at h;cases h
theorem zeZ {α:Type}{xs:List α}{i:Int}{v:α}(h:atI xs i=some v):∃j,seqIndex? i xs.length=some j∧xs[j]? = some v∧j<xs.length∧-(xs.length:Int)≤i∧i<xs.length:=by
 unfold atI at h
 cases e:ixN xs.length i with
 |none=>rw[e]at h;cases h
 |some j =>
  rw[e]at h
  obtain⟨h1,h2,h3,h4⟩:=zbZ e
  exact⟨j,h1,h,h2,h3,h4⟩
theorem zfN {α:Type}{xs:List α}{j:Nat}{v:α}(h:xs[j]? = some v):atI xs (j:Int)=some v:=by
 have hj:j<xs.length:=(xv.mp h).1
 have e:ixN xs.length (j:Int)=some j:=by
  unfold ixN
  rw[if_pos (by omega),if_pos (by omega)];simp
 unfold atI;rw[e];exact h
noncomputable def zkI (b:Expr):Prop:=∀o i,subscripted b false o i=operate [o,i] (getItem o i)
noncomputable def IxR (X:Cx)(r:R2):Prop :=
 ∀(value slice:Expr) (pins:List (Addr×Obj)) (s:Shared) (σ:St) (H:Hp) (x y:V) (v u:Value) (Q:VK),Inv X pins σ H s→zU x v→zU y u→r x y H Q →
  subscripted slice false v u=operate [v,u] (getItem v u)→wpAny (model X.prog X.w) X.A (subscriptTail value slice v u) (EP X pins σ Q) X.xe s
noncomputable def MtR (X:Cx)(id:String)(r:V→List V→Hp→VK→Prop):Prop :=
 ∀(pins:List (Addr×Obj)) (s:Shared) (σ:St) (H:Hp) (x:V) (xs:List V) (v:Value) (us:List Value) (Q:VK),Inv X pins σ H s→zU x v→zH xs us→r x xs H Q →
  wpAny (model X.prog X.w) X.A (call (.builtin id) (v::us)) (EP X pins σ Q) X.xe s
section
variable {X:Cx}{a b:Expr}{ta tb:TE}{pos:Pos}
theorem zL {r:R2}(hr:IxR X r)(ha:PE X a ta)(hb:PE X b tb)(hs:zkI b):PE X (.Subscript a b pos) (tOp r ta tb):=by
 intro pins s σ H Q I h
 exact Subscript_ (zjx ha hb I h fun v u s2 x y H2 I2 rx ry q=>hr a b pins s2 σ H2 x y v u Q I2 rx ry q (hs _ _))
inductive zi0 (K:xb)(x y:V)(H:Hp)(Q:VK):Prop
 |mk (p:Addr) (xs:List V) (i:Int) (v:V) (ex:x=.ref p) (ey:y=.int i) (s:SqL K H p xs) (a:atI xs i=some v) (q:Q v H):zi0 K x y H Q
inductive zjW (K:xb)(x y:V)(H:Hp)(Q:VK):Prop
 |mk (p:Addr) (xs:List V) (i:Int) (v:V) (ex:x=.ref p) (ey:y=.int i) (s:SqT K H p xs) (a:atI xs i=some v) (q:Q v H):zjW K x y H Q
theorem zeT:IxR X (zi0 X.K):=by
 intro value slice pins s σ H x y v u Q I rx ry h hs
 obtain⟨p,xs,i,z,rfl,rfl,hq,he,q⟩:=h
 cases rx
 obtain⟨t,rfl⟩:=ry
 obtain⟨its,r,pl,hz⟩:=I.list hq
 obtain⟨j,h1,h2,h3,h4,h5⟩:=zeZ he
 obtain⟨w,ew,rw'⟩:=r.get h2
 have hl:=r.length
 have hn:=YD
 have fin:EP X pins σ Q w s:=⟨z,H,I,rw',q⟩
 by_cases h0:0≤i
 ·have hj:i.toNat=j:=by
   rw[seqIndex_of h0 h5]at h1
   exact Option.some.inj h1
  exact item_listR pl.isList h0 (by omega) (by rw[hj];simpa using ew) fin hs
 ·have hj:(i+(its.toArray.size:Int)).toNat=j:=by
   rw[seqIndex_neg (by omega) h4]at h1
   rw[xC,←hl]
   exact Option.some.inj h1
  exact subscriptTail_builtinR (x:=w) pl.isList.typeIs slot_list_getitem.lookup
   (wpAny_getItem_list_neg (Q:=fun r s'=>r=w∧EP X pins σ Q r s') pl.isList (by omega) (by rw[xC]<;>omega) (by omega) (by rw[hj];simpa using ew) ⟨rfl,fin⟩) hs
theorem zma:IxR X (zjW X.K):=by
 intro value slice pins s σ H x y v u Q I rx ry h hs
 obtain⟨p,xs,i,z,rfl,rfl,hq,he,q⟩:=h
 cases rx
 obtain⟨t,rfl⟩:=ry
 obtain⟨its,r,pl,hz⟩:=I.tuple hq
 obtain⟨j,h1,h2,h3,h4,h5⟩:=zeZ he
 obtain⟨w,ew,rw'⟩:=r.get h2
 have hl:=r.length
 have hn:=YD
 have fin:EP X pins σ Q w s:=⟨z,H,I,rw',q⟩
 exact subscriptTail_builtinR (x:=w) pl.typeIs slot_tuple_getitem.lookup
  (getItem_tuple (j:=j) (Q:=fun r s'=>r=w∧EP X pins σ Q r s') pl (by omega) (by omega) (by rw[xC,←hl];exact h1) (by simpa using ew) ⟨rfl,fin⟩) hs
theorem zgq (its:List Value)(n j:Nat)(u:Value):Obj.mapSeq (·.setIfInBounds j u) {cls:=.type "list",data:=.seq its.toArray n}={cls:=.type "list",data:=.seq (its.set j u).toArray n}:=by
 simp[Obj.mapSeq]
theorem Inv.lst {pins:List (Addr×Obj)}{σ:St}{H:Hp}{s:Shared}{p:Addr}{xs:List V}(I:Inv X pins σ H s)(h:H p=some (.lst xs)) :
  ∃(its:List Value) (n:Nat),zH xs its∧s.heap.get? p=some {cls:=.type "list",data:=.seq its.toArray n}∧xs.length≤sizeLine:=by
 obtain⟨z,its,n,r,e⟩:=I.hok p _ h
 exact⟨its,n,r,e,z⟩
theorem Inv.lstUpd {pins:List (Addr×Obj)}{σ:St}{H:Hp}{s:Shared}{p:Addr}{xs ys:List V}{its its':List Value}{n n':Nat}{f:Obj→Obj}(I:Inv X pins σ H s)(h:H p=some (.lst xs))
  (ho:s.heap.get? p=some {cls:=.type "list",data:=.seq its.toArray n}) (hf:f {cls:=.type "list",data:=.seq its.toArray n}={cls:=.type "list",data:=.seq its'.toArray n'}) (r:zH ys its') (hz:ys.length≤sizeLine) (t:Nat) :
  Inv X pins σ (upd H p (.lst ys)) {s with heap:=s.heap.update p f,toks:=t}:=by
 have e:(s.heap.update p f).get? p=some {cls:=.type "list",data:=.seq its'.toArray n'}:=by
  rw[yk f ho (by rw[hf]<;>rfl),hf]
 refine I.write (x:=p) (e:=p) (by rw[h];trivial) (.inl rfl) (fun b u hb q=>(xT _ _ (Ne.symm hb)).trans q) ⟨_,e⟩ ?_
 exact⟨hz,its',n',r,e⟩
noncomputable def zmz:V→V→V→Hp→(Hp→Prop)→Prop:=fun o i v H Q=>∃p xs k j,o=.ref p∧i=.int k∧H p=some (.lst xs)∧ixN xs.length k=some j∧Q (upd H p (.lst (xs.set j v)))
theorem zc8:Jk X zmz:=by
 intro pins s σ H o i v ov iv u Q I ro ri rv h
 obtain⟨p,xs,k,j,rfl,rfl,hp,hj,q⟩:=h
 cases ro
 obtain⟨t,rfl⟩:=ri
 obtain⟨its,n,r,ho,hz⟩:=I.lst hp
 obtain⟨h1,h2,h3,h4⟩:=zbZ hj
 have hl:=r.length
 have hn:=YD
 have I':Inv X pins σ (upd H p (.lst (xs.set j v))) {s with heap:=s.heap.update p (Obj.mapSeq (·.setIfInBounds j u))} :=
  I.lstUpd hp ho (zgq its n j u) (r.set rv j) (by rw[vp];exact hz) s.toks
 by_cases h0:0≤k
 ·have hk:k.toNat=j:=by
   rw[seqIndex_of h0 h4]at h1
   exact Option.some.inj h1
  exact PySem.W.ki_setAt ho h0 (by omega) (by rw[xC,←hl];exact h4) (by rw[hk];exact⟨_,I',q⟩)
 ·have hk:(k+(its.toArray.size:Int)).toNat=j:=by
   rw[seqIndex_neg (by omega) h3]at h1
   rw[xC,←hl]
   exact Option.some.inj h1
  exact PySem.W.ki_setBack ho (by omega) (by rw[xC,←hl];exact h3) (by omega) (by rw[hk];exact⟨_,I',q⟩)
theorem zd5 (lo hi:Option Int)(n:Nat):(sliceBounds lo hi none n).1=((HT.sIx n 0 lo:Nat):Int)∧(sliceBounds lo hi none n).2.1=((HT.sIx n n hi:Nat):Int)∧(sliceBounds lo hi none n).2.2=1:=by
 refine⟨?_,?_,rfl⟩
 ·cases lo with
  |none=>simp[sliceBounds,HT.sIx]
  |some i =>
   simp only[sliceBounds,HT.sIx,wg,show(1:Int) > 0 by decide,if_true]
   by_cases h:i<0
   ·simp only[h,if_true]<;>omega
   ·simp only[h,if_false]<;>omega
 ·cases hi with
  |none=>simp[sliceBounds,HT.sIx]
  |some i =>
   simp only[sliceBounds,HT.sIx,wg,show(1:Int) > 0 by decide,if_true]
   by_cases h:i<0
   ·simp only[h,if_true]<;>omega
   ·simp only[h,if_false]<;>omega
theorem zcK (its:List Value)(lo hi:Option Int):slicePick its.toArray lo hi none=((its.drop (HT.sIx its.length 0 lo)).take (HT.sIx its.length its.length hi - HT.sIx its.length 0 lo)).toArray:=by
 obtain⟨h1,h2,h3⟩:=zd5 lo hi its.toArray.size
 unfold slicePick
 rw[h1,h2,h3]
 simp only[sliceRange_one,pick_run,xC]<;>rfl
inductive zdi (K:xb)(x:V)(lo hi:Option Int)(H:Hp)(Q:VK):Prop
 |mk (a:Addr) (xs:List V) (ex:x=.ref a) (s:SqL K H a xs) (q:∀p,H p=none→Q (.ref p) (upd H p (.lst (JP xs lo hi)))):zdi K x lo hi H Q
theorem zeX:SlR X (zdi X.K):=by
 intro pins s σ H x v vl vu lo hi sl Q I rx hs pl pu h
 obtain⟨a,xs,rfl,hx,q⟩:=h
 cases rx
 obtain⟨its,r,ht,hz⟩:=I.list hx
 have hlen:=r.length
 refine⟨"list",_,slot_list_getitem.lookup,ht.isList.typeIs,?_⟩
 refine wpAny_getItem_list_slice ht.isList hs pl pu .none (by simp) ?_ (by rw[xC]<;>omega)
 rw[zcK,←hlen]
 refine⟨.ref s.heap.objs.size,_,I.laid (t':=s.toks) (o:=.lst (JP xs lo hi)) (fun b ob q=>xg _ q) (xr _) ?_,rfl,q _ (I.hok.fresh (xr _))⟩
 exact⟨x6 (zeC xs lo hi) hz,_,0,(r.drop (HT.sIx xs.length 0 lo)).take (HT.sIx xs.length xs.length hi - HT.sIx xs.length 0 lo),xF _ rfl⟩
noncomputable def qK:V→Bool
 | .non=>true
 | .bl _=>true
 | .int _=>true
 | .str _=>true
 |_=>false
noncomputable def eqV:V→V→Bool
 | .non,.non=>true
 | .bl a,.bl b=>a==b
 | .bl a,.int b=>(if a then 1 else 0)==b
 | .int a,.bl b=>a==(if b then 1 else 0)
 | .int a,.int b=>a==b
 | .str a,.str b=>a==b
 |_,_=>false
theorem zlW {A:Around}{s:Shared}{y x:V}{u v:Value}(ry:zU y u)(rx:zU x v)(fy:qK y=true)(fx:qK x=true):SeqAt.EqAt A s u v (eqV y x):=by
 cases y with
 |non =>
  cases ry
  cases x with
  |non=>cases rx;exact SeqAt.EqAt.same _
  |bl b=>cases rx;exact SeqAt.EqAt.none_bool b
  |int b=>obtain⟨t,rfl⟩:=rx;exact SeqAt.EqAt.none_int b t
  |str b=>obtain⟨t,rfl⟩:=rx;exact SeqAt.EqAt.none_str b t
  |_=>exact absurd (show false=true from fx) xB
 |bl a =>
  cases ry
  cases x with
  |non=>cases rx;exact SeqAt.EqAt.bool_none a
  |bl b=>cases rx;exact SeqAt.EqAt.bool_bool a b
  |int b=>obtain⟨t,rfl⟩:=rx;exact SeqAt.EqAt.bool_int a b t
  |str b=>obtain⟨t,rfl⟩:=rx;exact SeqAt.EqAt.bool_str a b t
  |_=>exact absurd (show false=true from fx) xB
 |int a =>
  obtain⟨t',rfl⟩:=ry
  cases x with
  |non=>cases rx;exact SeqAt.EqAt.int_none a t'
  |bl b=>cases rx;exact SeqAt.EqAt.int_bool a t' b
  |int b=>obtain⟨t,rfl⟩:=rx;exact SeqAt.EqAt.int_int a t' b t
  |str b=>obtain⟨t,rfl⟩:=rx;exact SeqAt.EqAt.int_str a t' b t
  |_=>exact absurd (show false=true from fx) xB
 |str a =>
  obtain⟨t',rfl⟩:=ry
  cases x with
  |non=>cases rx;exact SeqAt.EqAt.str_none a t'
  |bl b=>cases rx;exact SeqAt.EqAt.str_bool a t' b
  |int b=>obtain⟨t,rfl⟩:=rx;exact SeqAt.EqAt.str_int a t' b t
  |str b=>obtain⟨t,rfl⟩:=rx;exact SeqAt.EqAt.str_str a t' b t
  |_=>exact absurd (show false=true from fx) xB
 |_=>exact absurd (show false=true from fy) xB
noncomputable def eqU (x:V)(u:Value):Bool:=match u with
 | .none=>eqV .non x
 | .bool b=>eqV (.bl b) x
 | .int i _=>eqV (.int i) x
 | .str z _=>eqV (.str z) x
 |_=>false
theorem Yi {x y:V}{u:Value}(r:zU y u)(f:qK y=true):eqU x u=eqV y x:=by
 cases y with
 |non=>cases r;rfl
 |bl b=>cases r;rfl
 |int i=>obtain⟨t,rfl⟩:=r;rfl
 |str z=>obtain⟨t,rfl⟩:=r;rfl
 |_=>exact absurd (show false=true from f) xB
theorem Qy {x:V}:∀{xs:List V} {us:List Value},zH xs us→xs.all qK=true→us.any (eqU x)=xs.any fun y=>eqV y x
 |_,_,.nil,_=>rfl
 |y::xs,u::us,.cons r t,f=>by
  rw[uz,yq]at f
  rw[u5,u5,Yi r f.1,Qy t f.2]
theorem JS {A:Around}{s:Shared}{x:V}{v:Value}(rx:zU x v)(fx:qK x=true):∀{xs:List V} {us:List Value},zH xs us→xs.all qK=true→∀u∈us,SeqAt.EqAt A s u v (eqU x u)
 |_,_,.nil,_=>fun u hu=>by cases hu
 |y::xs,u::us,.cons r t,f=>fun u' hu=>by
  rw[uz,yq]at f
  rcases xt.mp hu with rfl|hu
  ·rw[Yi r f.1];exact zlW r rx f.1 fx
  ·exact JS rx fx t f.2 u' hu
noncomputable def inV (x:V)(xs:List V):Bool:=xs.any fun y=>eqV y x
inductive rIn (K:xb)(neg:Bool)(x y:V)(H:Hp)(Q:VK):Prop
 |mk (p:Addr) (xs:List V) (ey:y=.ref p) (s:SqL K H p xs∨SqT K H p xs) (f:qK x=true) (fs:xs.all qK=true) (q:Q (.bl (if neg then !inV x xs else inV x xs)) H):rIn K neg x y H Q
theorem zhU:OpR X (compareOp .In) (rIn X.K false):=by
 intro pins s σ H x y v u Q I rx ry h
 obtain⟨p,xs,rfl,hq,fx,fs,q⟩:=h
 cases ry
 rcases hq with hq|hq
 ·obtain⟨its,r,pl,hz⟩:=I.list hq
  refine SeqAt.in_listAt (eqU x) pl.isList (fun w hw=>JS rx fx r fs w (by simpa using hw)) ⟨.bl _,H,I,rfl,?_⟩
  rw[show its.toArray.any (eqU x)=its.any (eqU x) by simp,Qy r fs]
  exact q
 ·obtain⟨its,r,pl,hz⟩:=I.tuple hq
  refine SeqAt.in_tupleAt (eqU x) pl (fun w hw=>JS rx fx r fs w (by simpa using hw)) ⟨.bl _,H,I,rfl,?_⟩
  rw[show its.toArray.any (eqU x)=its.any (eqU x) by simp,Qy r fs]
  exact q
theorem zdQ:OpR X (compareOp .NotIn) (rIn X.K true):=by
 intro pins s σ H x y v u Q I rx ry h
 obtain⟨p,xs,rfl,hq,fx,fs,q⟩:=h
 cases ry
 rcases hq with hq|hq
 ·obtain⟨its,r,pl,hz⟩:=I.list hq
  refine SeqAt.notIn_listAt (eqU x) pl.isList (fun w hw=>JS rx fx r fs w (by simpa using hw)) ⟨.bl _,H,I,rfl,?_⟩
  rw[show its.toArray.any (eqU x)=its.any (eqU x) by simp,Qy r fs]
  exact q
 ·obtain⟨its,r,pl,hz⟩:=I.tuple hq
  refine SeqAt.notIn_tupleAt (eqU x) pl (fun w hw=>JS rx fx r fs w (by simpa using hw)) ⟨.bl _,H,I,rfl,?_⟩
  rw[show its.toArray.any (eqU x)=its.any (eqU x) by simp,Qy r fs]
  exact q
theorem Yu:ja X (.builtin "len") (fun xs H Q=>∃p ys,xs=[.ref p]∧(SqL X.K H p ys∨SqT X.K H p ys)∧Q (.int ys.length) H):=by
 intro pins s σ H xs us Q I r h
 obtain⟨p,ys,rfl,hq,q⟩:=h
 obtain⟨u,rfl,rx⟩:=qm r
 cases rx
 have hn:=YD
 rcases hq with hq|hq
 ·obtain⟨its,r',pl,hz⟩:=I.list hq
  have hlen:=r'.length
  exact Calls.call_len_list pl.isList (by simp only[xC]<;>omega) ⟨.int ys.length,H,I.tok _,⟨s.toks+1,by rw[xC,hlen]⟩,q⟩
 ·obtain⟨its,r',pl,hz⟩:=I.tuple hq
  have hlen:=r'.length
  exact len_tuple pl (by simp only[xC]<;>omega) ⟨.int ys.length,H,I.tok _,⟨s.toks+1,by rw[xC,hlen]⟩,q⟩
theorem zdd:ja X (.type "list") (fun xs H Q=>∃p ys,xs=[.ref p]∧(SqL X.K H p ys∨SqT X.K H p ys)∧∀l,H l=none→Q (.ref l) (upd H l (.lst ys))):=by
 intro pins s σ H xs us Q I r h
 obtain⟨p,ys,rfl,hq,q⟩:=h
 obtain⟨u,rfl,rx⟩:=qm r
 cases rx
 have fin:∀(its:List Value),zH ys its→ys.length≤sizeLine→∀(h':Heap) (c':Nat),(∀b o',s.heap.get? b=some o'→h'.get? b=some o') →
   h'.get? s.heap.objs.size=some {cls:=.type "list",dict:=none,data:=.seq its.toArray c',slots:=#[]}→EP X pins σ Q (.ref s.heap.objs.size) {s with heap:=h'}:=fun its r' hz h' c' kp e =>
  ⟨.ref s.heap.objs.size,_,I.laid (t':=s.toks) kp (xr _) (show jU X.prog X.w _ h' _ (.lst ys) from ⟨hz,its,c',r',e⟩),rfl,q _ (I.hok.fresh (xr _))⟩
 rcases hq with hq|hq
 ·obtain⟨its,r',pl,hz⟩:=I.list hq
  have hlen:=r'.length
  obtain⟨o,ho,hc,n,hd⟩:=pl.isList
  exact call_list_seq p (.inl rfl) ho hc hd (fun h' c' kp e=>fin its r' hz h' c' kp e) (by simp only[xC]<;>omega)
 ·obtain⟨its,r',pl,hz⟩:=I.tuple hq
  have hlen:=r'.length
  obtain⟨o,ho,hc,n,hd⟩:=pl
  exact call_list_seq p (.inr rfl) ho hc hd (fun h' c' kp e=>fin its r' hz h' c' kp e) (by simp only[xC]<;>omega)
theorem Jg:ja X (.type "tuple") (fun xs H Q=>∃p ys,xs=[.ref p]∧((SqL X.K H p ys∧∀l,H l=none→Q (.ref l) (upd H l (.tup ys)))∨(SqT X.K H p ys∧Q (.ref p) H))):=by
 intro pins s σ H xs us Q I r h
 obtain⟨p,ys,rfl,h⟩:=h
 obtain⟨u,rfl,rx⟩:=qm r
 cases rx
 rcases h with⟨hq,q⟩|⟨hq,q⟩
 ·obtain⟨its,r',pl,hz⟩:=I.list hq
  have hlen:=r'.length
  refine call_tuple_list pl.isList (fun h' kp=>?_) (by simp only[xC]<;>omega)
  have I1:Inv X pins σ H {s with heap:=h'}:=I.kept (t':=s.toks) kp
  have I2:Inv X pins σ (upd H h'.objs.size (.tup ys)) {s with heap:=h'.push {cls:=.type "tuple",data:=.seq its.toArray}} :=
   I1.laid (t':=s.toks) (fun b o e=>xg _ e) (xr _) (show jU X.prog X.w _ _ _ (.tup ys) from ⟨hz,its,r',IsTup.new _ _⟩)
  exact⟨.ref h'.objs.size,_,I2,rfl,q _ (I1.hok.fresh (xr _))⟩
 ·obtain⟨its,r',pl,hz⟩:=I.tuple hq
  exact call_tuple_same pl ⟨.ref p,H,I,rfl,q⟩
noncomputable def tyV (K:xb)(T:String)(x:V)(H:Hp):Prop:=match x with
 | .str _=>T="str"
 | .int _=>T="int"
 | .ref p=>(T="list"∧∃xs,SqL K H p xs)∨(T="tuple"∧∃o,K.lookup p=some o∧o.cls=.type "tuple"∧o.dict=none) ∨
   (T="dict"∧((∃kvs,H p=some (.dK kvs))∨∃kvs,H p=some (.dT kvs)))∨(T="set"∧∃S n,H p=some (.set S n))
 |_=>False
theorem zda {pins:List (Addr×Obj)}{σ:St}{H:Hp}{s:Shared}{T:String}{x:V}{v:Value}(I:Inv X pins σ H s)(r:zU x v)(ty:tyV X.K T x H) :
  s.TypeIs v T∧∀a,v=.ref a→∃ob,s.heap.get? a=some ob∧ob.dict=none:=by
 cases x with
 |str z =>
  obtain⟨t,rfl⟩:=r
  cases (show T="str" from ty)
  exact⟨typeIs_str s z t,fun _ e=>nomatch e⟩
 |int i =>
  obtain⟨t,rfl⟩:=r
  cases (show T="int" from ty)
  exact⟨typeIs_int s i t,fun _ e=>nomatch e⟩
 |ref p =>
  cases r
  rcases ty with⟨rfl,xs,hq⟩|⟨rfl,o,hk,hc,hd⟩|⟨rfl,hk⟩|⟨rfl,S,n,hk⟩
  ·obtain⟨its,_,pl,_⟩:=I.list hq
   refine⟨pl.isList.typeIs,fun a e=>?_⟩
   cases e
   obtain⟨o,n,e,c,hd,_⟩:=pl
   exact⟨o,e,hd⟩
  ·refine⟨⟨o,I.kIn p o hk,hc⟩,fun a e=>?_⟩
   cases e
   exact⟨o,I.kIn _ o hk,hd⟩
  ·have z:∃o,s.heap.get? p=some o∧o.ExactDict:=by
    rcases hk with⟨kvs,hk⟩|⟨kvs,hk⟩
    ·obtain⟨_,_,_,_,o,_,_,e,ex,_⟩:=I.hok p _ hk
     exact⟨o,e,ex⟩
    ·obtain⟨_,_,_,_,o,_,_,e,ex,_⟩:=I.hok p _ hk
     exact⟨o,e,ex⟩
   obtain⟨o,e,ex⟩:=z
   refine⟨⟨o,e,ex.1⟩,fun a e2=>?_⟩
   cases e2
   exact⟨o,e,ex.2.1⟩
  ·obtain⟨o,_,_,_,e,ex,_⟩:=I.hok p _ hk
   refine⟨⟨o,e,ex.1⟩,fun a e2=>?_⟩
   cases e2
   exact⟨o,e,ex.2.1⟩
 |_=>exact False.elim ty
noncomputable def zmI (K:xb)(T:String)(r:V→List V→Hp→VK→Prop)(to:TE):TE:=fun σ H Q=>to σ H fun x H1=>tyV K T x H1∧r x [] H1 Q
noncomputable def tBM (K:xb)(T:String)(r:V→List V→Hp→VK→Prop)(to:TE)(t:TA):TE:=fun σ H Q=>to σ H fun x H1=>tyV K T x H1∧t σ H1 fun xs H2=>r x xs H2 Q
variable {o e:Expr}{es:List Expr}{to:TE}{t:TA}{name:Str}{apos cpos:Pos}{T id:String}{r:V→List V→Hp→VK→Prop}
theorem zl6 (pa:PlainAttrs T)(slot:Slot T name id)(hty:typeOf (.builtin id)=pure (.type "method_descriptor"))(hm:MtR X id r)(ho:PE X o to)
  (hbase:attributeBase o name X.env (eval o X.env)=eval o X.env:=by rfl) (hline:(apos.endLine==cpos.line)=true:=by rfl):PE X (.Call (.Attribute o name apos) [] [] cpos) (zmI X.K T r to):=by
 intro pins s σ H Q I h
 refine wpAny_Call_method0_late hbase hline (thn (ho pins s σ H _ I h) fun v s1 ⟨x,H1,I1,r1,ty,q1⟩=>?_)
 obtain⟨h1,h2⟩:=zda I1 r1 ty
 exact⟨T,id,pa,slot,hty,h1,h2,Calls.callWith_builtin rfl (PySem.evalArgs_none (hm pins s1 σ H1 x [] v [] Q I1 r1 .nil q1))⟩
theorem qU (pa:PlainAttrs T)(slot:Slot T name id)(hty:typeOf (.builtin id)=pure (.type "method_descriptor"))(hm:MtR X id r)(ho:PE X o to)(ha:PA X (e::es) t)
  (hbase:attributeBase o name X.env (eval o X.env)=eval o X.env:=by rfl)
  (hfew:((backTo cpos (starEach (e::es) X.env)).all (fun x=>!x.1)&&(backToKw cpos (keywordEach [] X.env)).all (fun x=>x.1.isSome)
   && decide ((e::es).length+([]:List Keyword).length+(if ([]:List Keyword).isEmpty then 0 else 1)<30))=true:=by rfl)
  (hline:(apos.endLine==cpos.line)=true:=by rfl) (hs:starEach (e::es) X.env=(false,eval e X.env)::starEach es X.env:=by rfl) (hplain:(backTo cpos (starEach es X.env)).any (·.1)=false:=by rfl) :
  PE X (.Call (.Attribute o name apos) (e::es) [] cpos) (tBM X.K T r to t):=by
 intro pins s σ H Q I h
 refine wpAny_Call_method_late hbase hfew hline rfl (thn (ho pins s σ H _ I h) fun v s1 ⟨x,H1,I1,r1,ty,q1⟩=>?_)
 obtain⟨h1,h2⟩:=zda I1 r1 ty
 refine⟨T,id,pa,slot,hty,h1,h2,?_⟩
 have hA:=ha cpos pins s1 σ H1 _ I1 q1
 rw[hs]at hA ⊢
 refine Calls.callWith_builtin (by show(false||(backTo cpos (starEach es X.env)).any (·.1))=false;rw[hplain]<;>rfl) (Calls.evalArgs_plain ?_)
 exact thn hA fun us s2 ⟨vs,H2,I2,r2,q2⟩=>hm pins s2 σ H2 x vs v us Q I2 r1 r2 q2
end
noncomputable def MtM (X:Cx)(id:String)(r:V→List V→Hp→VK→Prop):Prop :=
 ∀(pins:List (Addr×Obj)) (s:Shared) (σ:St) (H:Hp) (x:V) (xs:List V) (v:Value) (us:List Value) (Q:VK),Inv X pins σ H s→zU x v→zH xs us→r x xs H Q →
  wpAny (model X.prog X.w) X.A (call (.builtin id) (v::us)) (EP X pins σ Q) X.xe s
theorem zH.one {x:V}{us:List Value}(h:zH [x] us):∃u,us=[u]∧zU x u:=by
 cases h with
 |cons r t=>cases t;exact⟨_,rfl,r⟩
theorem zH.zero:∀{us:List Value},zH [] us→us=[]
 |_,.nil=>rfl
theorem zH.eraseIdx:∀{xs:List V} {us:List Value} (i:Nat),zH xs us→zH (xs.eraseIdx i) (us.eraseIdx i)
 |_,_,_,.nil=>.nil
 |_,_,0,.cons _ t=>t
 |_,_,i+1,.cons r t=>.cons r (zH.eraseIdx i t)
theorem zH.reverse {xs:List V}{us:List Value}(h:zH xs us):zH xs.reverse us.reverse:=by
 induction h with
 |nil=>exact .nil
 |cons r t ih=>rw[v6,v6];exact zH.append ih (.cons r .nil)
theorem zb5 {α:Type}:∀(l:List α) (i:Nat),(l.eraseIdx i).length≤l.length
 | [],_=>xr _
 |_::_,0=>wj _
 |_::r,i+1=>Nat.succ_le_succ (zb5 r i)
section
variable {X:Cx}{pins:List (Addr×Obj)}{σ:St}{H:Hp}{s:Shared}{l b:Addr}{xs ys zs:List V}
theorem Inv.lset {its its':List Value}{n:Nat}{f:Array Value→Array Value}{t':Nat}(I:Inv X pins σ H s)(hH:H l=some (.lst xs))
  (e:s.heap.get? l=some {cls:=.type "list",data:=.seq its.toArray n}) (hf:f its.toArray=its'.toArray) (hv:zH ys its') (hz:ys.length≤sizeLine) :
  Inv X pins σ (upd H l (.lst ys)) {s with heap:=s.heap.update l (Obj.mapSeq f),toks:=t'}:=by
 have q:=PySem.IsL.update e f
 rw[hf]at q
 refine I.write (x:=l) (e:=l) (by rw[hH];exact trivial) (.inl rfl) (fun b' u hb hu=>(xT s.heap (Obj.mapSeq f) (Ne.symm hb)).trans hu) ⟨_,q⟩ ?_
 exact⟨hz,its',_,hv,q⟩
theorem Inv.lnew {its:List Value}{t':Nat}(I:Inv X pins σ H s)(hv:zH ys its)(hz:ys.length≤sizeLine) :
  Inv X pins σ (upd H s.heap.objs.size (.lst ys)) {s with heap:=s.heap.push {cls:=.type "list",data:=.seq its.toArray},toks:=t'} :=
 I.laid (fun _ _ q=>xg _ q) (xr _) ⟨hz,its,0,hv,xF _ rfl⟩
theorem Inv.fresh (I:Inv X pins σ H s):H s.heap.objs.size=none:=I.hok.fresh (xr _)
theorem Inv.lstM (I:Inv X pins σ H s)(hH:H l=some (.lst xs)):xs.length≤sizeLine∧∃(its:List Value) (n:Nat),zH xs its∧xs.length=its.length∧s.heap.get? l=some {cls:=.type "list",data:=.seq its.toArray n}:=by
 obtain⟨z,its,n,r,e⟩:=I.hok l _ hH
 exact⟨z,its,n,r,r.length,e⟩
theorem ziP {n:Nat}(h:n≤sizeLine):Builtin.List.listTooLong n=false:=by
 unfold Builtin.List.listTooLong
 exact decide_eq_false (by omega)
end
section
variable {X:Cx}
inductive ze7 (x:V)(vs:List V)(H:Hp)(Q:VK):Prop
 |mk (l:Addr) (xs:List V) (y:V) (ex:x=.ref l) (ev:vs=[y]) (h:H l=some (.lst xs)) (z:xs.length<sizeLine) (q:Q .non (upd H l (.lst (xs++[y])))):ze7 x vs H Q
theorem jT:MtM X "list.append" ze7:=by
 intro pins s σ H x vs v us Q I rx rv h
 obtain⟨l,xs,y,rfl,rfl,hH,hz,q⟩:=h
 cases rx
 obtain⟨u,rfl,ru⟩:=rv.one
 obtain⟨z,its,n,r,hl,e⟩:=I.lstM hH
 refine call_meets F.slot_list_append ⟨_,e,rfl⟩ F.entry_list_append (F.args_list_append_2 _ _) (PySem.list_append l its.toArray n u (by rw[xC];omega)) ⟨e,?_⟩
 refine⟨.non,_,I.lset (its':=its++[u]) hH e (by simp) (r.append (.cons ru .nil)) ?_,rfl,q⟩
 rw[xw,uA]
 omega
noncomputable def zk8:V→List V→Hp→VK→Prop:=fun x vs H Q=>∃l b xs zs,x=.ref l∧vs=[.ref b]∧H l=some (.lst xs)∧H b=some (.lst zs)∧xs.length+zs.length≤sizeLine∧Q .non (upd H l (.lst (xs++zs)))
theorem zhh:MtM X "list.extend" zk8:=by
 intro pins s σ H x vs v us Q I rx rv h
 obtain⟨l,b,xs,zs,rfl,rfl,hH,hB,hz,q⟩:=h
 cases rx
 obtain⟨u,rfl,ru⟩:=rv.one
 cases ru
 obtain⟨z,its,n,r,hl,e⟩:=I.lstM hH
 obtain⟨z2,its2,n2,r2,hl2,e2⟩:=I.lstM hB
 have hsz:its.toArray.size+its2.toArray.size≤sizeLine:=by rw[xC,xC];omega
 have hlong:¬(!its.toArray.isEmpty&&Builtin.List.listTooLong (its.toArray.size+its2.toArray.size))=true:=by
  rw[ziP hsz,Bool.and_false]
  exact xB
 refine call_meets F.slot_list_extend ⟨_,e,rfl⟩ F.entry_list_extend (F.args_list_extend_2 _ _)
  (AutoSeq1.list_extend_list_list_0 l its.toArray n b its2.toArray n2 hlong (by rw[xC];omega) (by omega)) ⟨e,e2,?_⟩
 refine⟨.non,_,I.lset (its':=its++its2) hH e (by simp) (r.append r2) ?_,rfl,q⟩
 rw[xw]
 omega
inductive ziC (x:V)(vs:List V)(H:Hp)(Q:VK):Prop
 |mk (l:Addr) (xs:List V) (i:Int) (k:Nat) (y:V) (ex:x=.ref l) (ev:vs=[.int i]) (h:H l=some (.lst xs)) (z:-(2^63)≤i) (z':i<2^63) (s:seqIndex? i xs.length=some k) (g:xs[k]? = some y) (q:Q y (upd H l (.lst (xs.eraseIdx k)))):ziC x vs H Q
theorem ziS:MtM X "list.pop" ziC:=by
 intro pins s σ H x vs v us Q I rx rv h
 obtain⟨l,xs,i,k,y,rfl,rfl,hH,h1,h2,hk,hy,q⟩:=h
 cases rx
 obtain⟨u,rfl,ru⟩:=rv.one
 obtain⟨t,rfl⟩:=ru
 obtain⟨z,its,n,r,hl,e⟩:=I.lstM hH
 obtain⟨w,hw,rw'⟩:=r.get hy
 refine call_meets F.slot_list_pop ⟨_,e,rfl⟩ F.entry_list_pop (F.args_list_pop_2 _ _)
  (MeetsSeq.list_pop_at l its.toArray n i t k w (fitsIndex_both h1 h2) (by rw[xC,←hl];exact hk) (by rw[←uB];exact hw) (by rw[xC];omega)) ⟨e,?_⟩
 refine⟨y,_,I.lset (its':=its.eraseIdx k) hH e ?_ (r.eraseIdx k) ?_,rw',q⟩
 ·show its.toArray.eraseIdxIfInBounds k=(its.eraseIdx k).toArray
  rw[List.eraseIdxIfInBounds_toArray]
 ·have:=zb5 xs k
  omega
noncomputable def zi2:V→List V→Hp→VK→Prop:=fun x vs H Q=>∃l xs,x=.ref l∧vs=[]∧H l=some (.lst xs)∧Q .non (upd H l (.lst xs.reverse))
theorem zgi:MtM X "list.reverse" zi2:=by
 intro pins s σ H x vs v us Q I rx rv h
 obtain⟨l,xs,rfl,rfl,hH,q⟩:=h
 cases rx
 have hus:=rv.zero
 subst hus
 obtain⟨z,its,n,r,hl,e⟩:=I.lstM hH
 refine call_meets F.slot_list_reverse ⟨_,e,rfl⟩ F.entry_list_reverse (F.args_list_reverse_1 _) (AutoSeq1.list_reverse_list_0 l its.toArray n (by rw[xC];omega)) ⟨e,?_⟩
 refine⟨.non,_,I.lset (its':=its.reverse) hH e (by simp) r.reverse ?_,rfl,q⟩
 rw[vK]
 omega
end
section
variable {prog:Program}{w:World}{A:Around}{E:Value→Shared→Prop}{s:Shared}
set_option maxRecDepth 100000 in
end
end L2
namespace Att
open PySem PySem.W PySem.Calls PyProof.Rows
theorem za7 {P:Params}{h:Heap}:∀(ns:List Int) (vs:List Value),WellAll P h vs (ns.map WData.int)→IntsAre vs ns:=by
 intro ns
 induction ns with
 |nil =>
  intro vs w
  rw[vY]at w
  cases w
  exact .nil
 |cons n ns ih =>
  intro vs w
  rw[xW]at w
  cases w with
  |cons a b =>
   cases a
   exact .cons _ _ (ih _ b)
theorem zhu {l:OpenLaw}{n:Nat}(hn:l.most=some n){P:Params}{h:Heap}{args:List WData}{vals:List Value}
  (hpre:l.row.toRowW.claim.pre args=true) (hwl:WellAll P h vals args) :
  ∃a vs ns,vals=[Value.ref a]∧args=[WData.list (ns.map WData.int)]∧h.get? a=some {cls:=.type "list",data:=.seq vs.toArray}∧IntsAre vs ns∧ns.length≤n:=by
 have hsh:WShape.hasAll [] args [.list .int]=true:=(pre_splitW hpre).1
 have hc:l.pre.holds [] {args:=args}=true:=(pre_splitW hpre).2
 obtain⟨d,r,rfl,h1,h2⟩:=hasAllW_cons hsh
 obtain rfl:=hasAllW_nil h2
 obtain⟨xs,rfl,h3⟩:=hasW_list h1
 obtain⟨ns,rfl⟩:=items_int h3
 have hlen:ns.length≤n:=by
  unfold OpenLaw.pre at hc
  have h4:(WTm.not (.lt (.lit (.int (n:Int))) (.len (.arg 0)))).holds [] {args:=[.list (ns.map .int)]}=true:=by
   have h4:=(holds_andW hc).1
   rw[hn]at h4
   exact h4
  have h5:=condW_of h4 (w_not (w_lt w_lit (w_len_list (w_arg rfl))))
  rw[xa]at h5
  refine Nat.le_of_not_lt fun q=>?_
  have q':(n:Int)<((ns.length:Nat):Int):=by omega
  first
   |(rw[decide_eq_true q']at h5;exact absurd h5 (by decide))
   |(simp at h5;omega)
 cases hwl with
 |cons w1 w2 =>
  cases w2
  cases w1 with
  |list ho hall=>exact⟨_,_,ns,rfl,rfl,ho,za7 ns _ hall,hlen⟩
theorem zhP (l:OpenLaw)(args:List WData):l.row.toRowW.claim.post args (.bool true) args=true :=
 postW_of (r:=l.row.toRowW) (X:=(true==true))
  (show WShape.has [] (.bool true) .bool=true by first|rfl|decide|simp[WShape.has,WShape.arms,WShape.armsAll])
  (show(WTm.eq .res (.lit (.bool true))).value [] {args:=args,res:=some (.bool true),after:=args}=some (.bool (true==true)) from w_eq_bool (w_res rfl) w_lit) rfl
theorem attach_call {l:OpenLaw}{n:Nat}{q:Program}{loose:List Str}{XP:(Str→Option Value)→Heap→Prop}{YP:World→Heap→Prop}{d:DefRec}
  (hn:l.most=some n) (hdf:d.params.defaults=[])
  (call:∀(w:World) (s₀ s₁:Shared) (mg mb:Str→Option Value) (fa:Addr) (o:Obj) (pm cd doc:Value) (a:Addr) (vs:List Value) (ns:List Int),
   Ground q loose [] XP w s₀ mg mb s₁.heap→YP w s₁.heap →
   s₁.heap.get? fa=some o→o.data=.func (docDef d.name d.params d.body d.scope pm cd doc)→s₁.heap.CodeRec cd d.name→mg d.name=some (.ref fa) →
   s₁.heap.get? a=some {cls:=.type "list",data:=.seq vs.toArray}→IntsAre vs ns→ns.length≤n→s₁.gens=#[] →
   codeAny (model l.prog w) callerA (.call (.ref fa) ⟨[.ref a],[]⟩) (fun r s'=>r=.ok (.ret (.bool true))∧OldK s₁.heap s'.heap∧s'.os=s₁.os∧AllBare s'.gens) s₁) :
  WalkO q loose XP YP l.row.toRowW d [] (fun f vs=>PySem.call f vs):=by
 intro w s₀ s₁ mg mb G Y fa o pm cd doc dV kV ho hd hcd hD hmg hg args vals as hpre hlay hrd hwl hlo
 obtain rfl:dV=.none:=Dflts.none hD hdf
 obtain rfl:kV=.none:=Dflts.noKw hD
 obtain⟨a,vs,ns,rfl,rfl,hobj,hints,hlen⟩:=zhu hn hpre hwl
 refine enter_call (codeAny_mono (call w s₀ s₁ mg mb fa o pm cd doc a vs ns G Y ho (fd_plain hd) hcd hmg hobj hints hlen hg) fun r s' hq=>?_)
 obtain⟨rfl,h2,h3,h4⟩:=hq
 exact⟨.inl ⟨.bool true,.bool true,[],rfl,fun _=>rfl,.bool true,zhP l _,fun _=>⟨List.Pairwise.nil,fun _ hm=>(nomatch hm)⟩⟩,h2,h3,h4⟩
end Att
namespace L2
open PySem PySem.Spec PyProof.Rows
theorem YL:∀{vs:List Value} {ns:List Int},IntsAre vs ns→zH (ns.map V.int) vs
 |_,_,.nil=>.nil
 |_,_,.cons n t h=>.cons ⟨t,rfl⟩ (YL h)
noncomputable def zka (H:Hp):Prop:=∀b,H b=none∨∃o xs,H b=some (.frz o (.lst xs))
theorem zjS {P:Program}{w:World}{K:xb}{mg mb:Str→Option Value}{CX:CXT}{k:Nat}{fa a:Addr}{fd:FuncData}{x:Str}{sp:Sp}{s₁:Shared}{vs:List Value}{ns:List Int}
  (KX:K.In s₁.heap) (hns:s₁.heap.Ns mainGlobals mg) (hb:s₁.heap.Ns builtinsNs mb) (hbb:∀x:Str,x≠"__name__"→mb x=bootBuiltins x) (hlim:s₁.heap.NoLimit) (hg:s₁.gens=#[])
  (ha:s₁.heap.get? a=some {cls:=.type "list",data:=.seq vs.toArray}) (hi:IntsAre vs ns) (hl:ns.length≤sizeLine) (hr:jO k callerA)
  (F:∀base:Heap,K.In base→base.Ns mainGlobals mg→Jw P w K mg base CX k fa fd [x] sp) (hbind:∀(s:Shared) (u:Value),BindsTo s fd ⟨[u],[]⟩ [(x,u)])
  (hsp:∀H:Hp,zka H→SqL K H a (ns.map V.int)→sp [.ref a] H (fun v _=>v=.bl true) fun _ _ _=>False)
  (hCX:∀H e s',CX [] H s₁ (fun _ _ _=>False) e s'→False) :
  codeAny (model P w) callerA (.call (.ref fa) ⟨[.ref a],[]⟩) (fun r s'=>r=.ok (.ret (.bool true))∧OldK s₁.heap s'.heap∧s'.os=s₁.os∧AllBare s'.gens) s₁:=by
 have rv:=YL hi
 have lenV:=hi.length
 have core:∀H:Hp,zka H→SqL K H a (ns.map V.int)→HOk P w H s₁.heap→(∀b,H b≠none→b=a)→(H a≠none→K.lookup a=none) →
   codeAny (model P w) callerA (.call (.ref fa) ⟨[.ref a],[]⟩) (fun r s'=>r=.ok (.ret (.bool true))∧OldK s₁.heap s'.heap∧s'.os=s₁.os∧AllBare s'.gens) s₁:=by
  intro H hO hS hok hA hK
  have base_of:∀{b:Addr} {o:Obj},s₁.heap.get? b=some o→H b=none→(QU s₁.heap H).get? b=some o:=fun e n=>ziT e n
  have noA:∀{b:Addr} {o:Obj} {es:Array DictEntry} {ep:Nat},s₁.heap.get? b=some o→o.data=.dict es ep→H b=none:=fun {b o es ep} e d=>by
   cases q:H b with
   |none=>rfl
   |some u =>
    have e':b=a:=hA b (by rw[q];simp)
    subst e'
    rw[ha]at e;cases e
    have d':Data.seq vs.toArray _=Data.dict es ep:=d
    cases d'
  have nsK:∀{b:Addr} {m:Str→Option Value},s₁.heap.Ns b m→(QU s₁.heap H).Ns b m:=fun {b m} ⟨o,es,ep,e,d,r⟩=>⟨o,es,ep,base_of e (noA e d),d,r⟩
  have hKb:K.In (QU s₁.heap H):=fun b o e=>base_of (KX b o e) (by
   cases q:H b with
   |none=>rfl
   |some u =>
    have e':b=a:=hA b (by rw[q];simp)
    subst e'
    rw[hK (by rw[q];simp)]at e;cases e)
  have hM:Mod K mg (QU s₁.heap H):=⟨hKb,nsK hns,⟨mb,nsK hb,hbb⟩,let ⟨mc,h1,h2⟩:=hlim;⟨mc,nsK h1,h2⟩⟩
  have e0:zah P w K mg (QU s₁.heap H) callerA [] s₁ H:=⟨rfl,hM,fun b o e=>zkE e,Nat.le_of_eq (zil _ _),trivial,fun b hb=>absurd (show b∈([]:List Addr) from hb) (by simp),hok,.of_eq hg⟩
  refine codeAny_mono ((F _ hKb (nsK hns)).run callerA [] s₁ H ⟨[.ref a],[]⟩ [.ref a] [.ref a] _ _ hr e0 (hbind s₁ (.ref a)) (.cons rfl .nil) (hsp H hO hS)) fun r s' h=>?_
  cases r with
  |error e=>exact(hCX H e s' h).elim
  |ok fl =>
   cases fl with
   |next=>exact False.elim h
   |brk=>exact False.elim h
   |cont=>exact False.elim h
   |ret u =>
    obtain⟨v,H',os,bare,un,hok',r',q⟩:=h
    have q':v=.bl true:=q
    subst q'
    obtain rfl:u=Value.bool true:=r'
    refine⟨rfl,OldK.of_keep fun b o e=>?_,os,bare⟩
    cases q:H b with
    |none=>exact un.keep b o e q (by intro z;exact absurd (show b∈([]:List Addr) from z) (by simp)) (by simp)
    |some u =>
     rcases hO b with z|⟨ob,xs,z⟩
     ·rw[q]at z;cases z
     ·have z2:=un.frzs b ob _ z
      obtain⟨e1,_⟩:=hok b _ z
      obtain⟨e2,_⟩:=hok' b _ z2
      rw[e]at e1;cases e1
      exact e2
 cases hk:K.lookup a with
 |some o =>
  have e:=KX a o hk
  rw[ha]at e
  cases e
  refine core (fun _=>none) (fun _=>.inl rfl) (.inr ⟨_,vs.toArray,_,hk,rfl,rfl,rfl,by rw[xC,lenV];exact hl,by simpa using rv⟩) (fun b u z=>by have z':(none:Option HO)=some u:=z;cases z') (fun b z=>absurd rfl z) fun z=>absurd rfl z
 |none =>
  refine core (fun b=>if b=a then some (.frz {cls:=.type "list",data:=.seq vs.toArray} (.lst (ns.map V.int))) else none) (fun b=>?_) (.inl (.inr ⟨{cls:=.type "list",data:=.seq vs.toArray},if_pos rfl⟩)) (fun b u z=>?_) (fun b z=>?_) fun _=>hk
  ·by_cases hb:b=a
   ·exact .inr ⟨_,_,if_pos hb⟩
   ·exact .inl (if_neg hb)
  ·by_cases hb:b=a
   ·have z':=(if_pos hb).symm.trans z
    cases z'
    subst hb
    exact⟨ha,by rw[xa];exact hl,vs,_,rv,ha⟩
   ·have z':=(if_neg hb).symm.trans z
    cases z'
  ·by_cases hb:b=a
   ·exact hb
   ·exact absurd (if_neg hb) z
theorem zld {l:vq}{n k:Nat}{q:Program}{loose:List Str}{XP:(Str→Option Value)→Heap→Prop}{YP:World→Heap→Prop}{d:DefRec}{K:Params→xb}{CX:World→CXT}{sp:World→Sp}{x:Str}
  (hn:l.most=some n) (hn2:n≤sizeLine) (hdf:d.params.defaults=[]) (hr:jO k callerA)
  (hY:∀(w:World) (h:Heap),YP w h→(K w.params).In h)
  (F:∀(w:World) (mg:Str→Option Value) (fa:Addr) (h:Heap),(K w.params).In h→h.Ns mainGlobals mg→mg d.name=some (.ref fa) →
   ∃fd:FuncData,(∀(s:Shared) (u:Value),BindsTo s fd ⟨[u],[]⟩ [(x,u)]) ∧
    ∀base:Heap,(K w.params).In base→base.Ns mainGlobals mg→Jw l.prog w (K w.params) mg base (CX w) k fa fd [x] (sp w))
  (hsp:∀(w:World) (H:Hp) (a:Addr) (ns:List Int),ns.length≤n→zka H→SqL (K w.params) H a (ns.map V.int)→sp w [.ref a] H (fun v _=>v=.bl true) fun _ _ _=>False)
  (hCX:∀(w:World) (H:Hp) (s:Shared) (e:Value) (s':Shared),CX w [] H s (fun _ _ _=>False) e s'→False) :
  wF q loose XP YP l.row.toRowW d [] (fun f vs=>PySem.call f vs):=by
 refine Att.attach_call hn hdf fun w s₀ s₁ mg mb fa o pm cd doc a vs ns G Y ho hd hcd hmg hobj hints hlen hg=>?_
 have KX:=hY w _ Y
 obtain⟨fd,hb,hF⟩:=F w mg fa _ KX G.T.g hmg
 exact zjS KX G.T.g G.T.b G.T.builtins G.T.nolimit hg hobj hints (x6 hlen hn2) hr hF hb (fun H hO hS=>hsp w H a ns hlen hO hS) fun H e s'=>hCX w H s₁ e s'
noncomputable def zp (s:Stmt):Arguments:=match s with
 | .FunctionDef _ a _ _ _ _ _ _ _ _=>a
 |_=>{posonlyargs:=[],args:=[],vararg:=none,kwonlyargs:=[],kw_defaults:=[],kwarg:=none,defaults:=[]}
noncomputable def zm (s:Stmt):List Stmt:=match s with
 | .FunctionDef _ _ b _ _ _ _ _ _ _=>b
 |_=>[]
noncomputable def ze (s:Stmt):Scope:=match s with
 | .FunctionDef _ _ _ _ _ _ sc _ _ _=>sc
 |_=>{kind:=.function,names:=[],isGenerator:=false,isCoroutine:=false}
noncomputable abbrev E0:XK:=fun _ _ _=>False
structure Fun (K:xb)(x qual:Str)(st:Stmt)(f:Addr)(fd:FuncData):Prop where
 ex:∃(oc:Value) (od:Option Addr) (kV doc pm:Value) (an:Option Addr) (cdv ct:Value) (osl:Array (Option Value)),
  fd=xn x qual (zp st) (zm st) (ze st) .none kV doc pm an cdv ct∧K.lookup f=some ⟨oc,od,.func fd,osl⟩∧xk K cdv qual=true
 kp:xj K (.ref f)=true
section
variable {P:Program}{w:World}{K:xb}{mg:Str→Option Value}{base:Heap}
theorem Fun.binds {x qual:Str}{st:Stmt}{f:Addr}{fd:FuncData}{ps:List Str}(F:Fun K x qual st f fd)
  (h:∀(kV doc pm:Value) (an:Option Addr) (cdv ct:Value) (us:List Value),us.length=ps.length→bindArgs (xn x qual (zp st) (zm st) (ze st) .none kV doc pm an cdv ct) ⟨us,[]⟩=pure (ps.zip us)):ZP K fd ps []:=by
 obtain⟨oc,od,kV,doc,pm,an,cdv,ct,osl,rfl,lk,hcd⟩:=F.ex
 exact .all (h kV doc pm an cdv ct)
theorem za9 {x qual:Str}{st:Stmt}{f:Addr}{oc:Value}{od an:Option Addr}{osl:Array (Option Value)}{kV doc pm cdv ct:Value}(l:K.lookup f=some ⟨oc,od,.func (xn x qual (zp st) (zm st) (ze st) .none kV doc pm an cdv ct),osl⟩)
  (c:xk K cdv qual=true) (k:xj K (.ref f)=true):Fun K x qual st f (xn x qual (zp st) (zm st) (ze st) .none kV doc pm an cdv ct):=⟨⟨oc,od,kV,doc,pm,an,cdv,ct,osl,rfl,l,c⟩,k⟩
end
section
variable {X:Cx}
theorem pv (i:Nat){x:Str}{pos:Pos}(hN:X.N[i]? = some x:=by rfl)(hv:Vis X.env.scope x:=by first|exact Or.inl rfl|exact Or.inr (Or.inl rfl)|exact Or.inr (Or.inr rfl))(hd:(x==("__debug__":Str))=false:=by decide)
  (hcd:(x==("__classdict__":Str))=false:=by decide):PE X (.Name x pos) (Qq i):=zlR hN hv hd hcd
end
theorem jd {A B:Prop}(h:B):if false=true then A else B:=by
 rw[if_neg xB]
 exact h
theorem zV {A B:Prop}(h:A):if true=true then A else B:=by
 rw[if_pos rfl]
 exact h
theorem qX {c A B:Prop}[Decidable c](h1:c→A)(h2:¬c→B):if c then A else B:=by
 by_cases h:c
 ·rw[if_pos h]
  exact h1 h
 ·rw[if_neg h]
  exact h2 h
theorem QX {c A B:Prop}[Decidable c](hc:c)(h:B):if (!decide c)=true then A else B:=by
 rw[decide_eq_true hc]
 exact jd h
noncomputable def zd (H H':Hp):Prop:=∀b o,H b=some o→H' b=some o
theorem zd.refl (H:Hp):zd H H:=fun _ _ h=>h
theorem zd.trans {H H1 H2:Hp}(a:zd H H1)(b:zd H1 H2):zd H H2:=fun c o h=>b c o (a c o h)
theorem zd.free {H H':Hp}(e:zd H H'){l:Addr}(h:H' l=Option.none):H l=Option.none:=by
 cases q:H l with
 |none=>rfl
 |some o =>
  rw[e l o q]at h
  cases h
theorem zd.seq {K:xb}{H H':Hp}{a:Addr}{xs:List V}(e:zd H H')(h:SqL K H a xs):SqL K H' a xs:=by
 rcases h with(h|⟨o,h⟩)|h
 ·exact .inl (.inl (e _ _ h))
 ·exact .inl (.inr ⟨o,e _ _ h⟩)
 ·exact .inr h
end L2
namespace L2
open PySem
noncomputable def fd2 (o:Obj):Option Value:=match o.data with
 | .fields vs=>vs[2]?
 |_=>none
noncomputable def KO (o:Obj):Option Addr×Option Value:=(o.dict,fd2 o)
noncomputable def DK (h h':Heap):Prop:=∀(b:Nat) (o:Obj),h.objs[b]? = some o→∃o':Obj,h'.objs[b]? = some o'∧KO o'=KO o
theorem DK.refl (h:Heap):DK h h:=fun _ o e=>⟨o,e,rfl⟩
theorem DK.trans {h h1 h2:Heap}(k:DK h h1)(l:DK h1 h2):DK h h2:=fun b o e=>by
 obtain⟨o1,e1,d1⟩:=k b o e
 obtain⟨o2,e2,d2⟩:=l b o1 e1
 exact⟨o2,e2,d2.trans d1⟩
theorem DK.push {h h':Heap}{o:Obj}(k:DK h h'):DK h (h'.push o):=fun b ob e=>by
 obtain⟨o',e',d⟩:=k b ob e
 obtain⟨objs,l⟩:=h'
 have lt:b<objs.size:=(yN.mp e').1
 exact⟨o',by show(objs.push o)[b]? = some o';rw[Array.getElem?_push_lt lt,←e'];exact(u6 lt).symm,d⟩
theorem DK.update {h h':Heap}{a:Addr}{f:Obj→Obj}(k:DK h h')(hf:∀o,KO (f o)=KO o):DK h (h'.update a f):=fun b ob e=>by
 obtain⟨o',e',d⟩:=k b ob e
 obtain⟨objs,l⟩:=h'
 show ∃o'',(objs.modify a f)[b]? = some o''∧_
 rw[Array.getElem?_modify]
 have e':objs[b]? = some o':=e'
 by_cases hab:a=b
 ·rw[if_pos hab,e'];exact⟨f o',rfl,(hf o').trans d⟩
 ·rw[if_neg hab];exact⟨o',e',d⟩
theorem DK.get {h h':Heap}(k:DK h h'){b:Addr}{o o':Obj}(e:h.get? b=some o)(e':h'.get? b=some o'):KO o'=KO o:=by
 obtain⟨o1,e1,d⟩:=k b o (ur.mp e).1
 have:=(ur.mp e').1
 rw[e1]at this;cases this;exact d
noncomputable def KD {α:Type}:Sem α→Prop
 | .pure _=>True
 | .raise _=>True
 | .unsupported _=>True
 | .finish _=>True
 | .rule _ k=>KD (k ())
 | .at _ k=>KD (k ())
 | .load _ _ k=>∀o,KD (k o)
 | .update _ _ f k=>(∀o,KO (f o)=KO o)∧KD (k ())
 | .alloc _ k=>∀a,KD (k a)
 | .loadIfAlive _ k=>∀o,KD (k o)
 | .point _ k=>KD (k ())
 | .register _ k=>KD (k ())
 | .fresh k=>∀a,KD (k a)
 | .ask k=>∀a,KD (k a)
 | .choose _ _ k=>∀a,KD (k a)
 | .os _ _ k=>∀a,KD (k a)
 | .call ..=>False
 | .handled _ k=>∀a,KD (k a)
 | .newGen _ k=>∀a,KD (k a)
 | .genState _ k=>∀a,KD (k a)
 | .resume ..=>False
 | .yield ..=>False
 | .stack k=>∀a,KD (k a)
 | .fork ..=>False
 | .thread k=>∀a,KD (k a)
 | .await ..=>False
theorem KD.bind {α β:Type}:∀{m:Sem α} {f:α→Sem β},KD m→(∀a,KD (f a))→KD (m >>= f):=by
 intro m f hm hf
 show KD (m.bind f)
 induction m with
 |pure a=>exact hf a
 |raise|unsupported|finish=>exact True.intro
 |rule _ k ih | «at» _ k ih|point _ k ih|register _ k ih=>exact ih () hm
 |update _ _ g k ih=>exact⟨hm.1,ih () hm.2⟩
 |load _ _ k ih|alloc _ k ih|loadIfAlive _ k ih|fresh k ih|ask k ih|choose _ _ k ih|os _ _ k ih|handled _ k ih|newGen _ k ih|genState _ k ih|stack k ih|thread k ih=>exact fun a=>ih a (hm a)
 |call|resume|yield|fork|await=>exact False.elim hm
theorem zmh {α:Type}{M:Model}{Γ:Ctx}{Q:α→Pos→Shared→Prop}{E:Value→Pos→Shared→Prop}{h0:Heap}:∀(t:Sem α),KD t→∀(p:Pos) (s:Shared),DK h0 s.heap→Sem.wp M Γ t Q E p s →
  Sem.wp M Γ t (fun a p' s'=>Q a p' s'∧DK h0 s'.heap) (fun e p' s'=>E e p' s'∧DK h0 s'.heap) p s:=by
 intro t
 induction t with
 |pure a=>exact fun _ p s k h=>⟨h,k⟩
 |raise e=>exact fun _ p s k h=>⟨h,k⟩
 |unsupported|finish|yield|fork|await|register=>exact fun _ _ _ _ h=>h
 |rule _ k ih | «at» _ k ih|point _ k ih=>exact fun hk p s d h=>ih () hk _ s d h
 |fresh k ih|os _ _ k ih|newGen _ k ih=>exact fun hk p s d h=>ih _ (hk _) p _ d h
 |ask k ih|handled _ k ih|stack k ih|thread k ih|loadIfAlive _ k ih=>exact fun hk p s d h=>ih _ (hk _) p s d h
 |alloc o k ih=>exact fun hk p s d h=>ih _ (hk _) p _ d.push h
 |load a _ k ih|genState a k ih=>exact fun hk p s d ⟨o,ho,h⟩=>⟨o,ho,ih _ (hk _) p s d h⟩
 |update a _ f k ih=>exact fun hk p s d ⟨ha,h⟩=>⟨ha,ih _ hk.2 p _ (d.update hk.1) h⟩
 |choose _ _ k ih=>exact fun hk p s d ⟨ha,h⟩=>⟨ha,ih _ (hk _) p _ d h⟩
 |call|resume=>exact fun hk=>False.elim hk
theorem zdc {α:Type}{M:Model}{A:Around}{t:Sem α}{Q:α→Shared→Prop}{E:Value→Shared→Prop}{s:Shared}(k:KD t)(h:wpAny M A t Q E s) :
  wpAny M A t (fun a s'=>Q a s'∧DK s.heap s'.heap) (fun e s'=>E e s'∧DK s.heap s'.heap) s:=fun Γ p hΓ=>zmh t k p s (DK.refl _) (h Γ p hΓ)
theorem ziY {α:Type}{M:Model}{A:Around}{t:Sem α}{Q:α→Shared→Prop}{E:Value→Shared→Prop}{s:Shared}(k:KD t)(h:wpAny M A t (fun a s'=>DK s.heap s'.heap→Q a s') (fun e s'=>DK s.heap s'.heap→E e s') s):wpAny M A t Q E s :=
 wpAny_mono (zdc k h) (fun _ _ x=>x.1 x.2) fun _ _ x=>x.1 x.2
theorem Jq {α:Type}{M:Model}{A:Around}{t:Sem α}{Q:α→Shared→Prop}{E:Value→Shared→Prop}{s:Shared}(k:KD t)(h:wpAny M A t (fun a s'=>DK s.heap s'.heap→Q a s') E s):wpAny M A t Q E s :=
 wpAny_mono (zdc k h) (fun _ _ x=>x.1 x.2) fun _ _ x=>x.1
theorem KD.ite {α:Type}{c:Prop}[Decidable c]{x y:Sem α}(hx:KD x)(hy:KD y):KD (if c then x else y):=by split<;>assumption
theorem zfC {α:Type}{a:Addr}{f:Obj→Sem α}(h:∀o,KD (f o)):KD (load a >>= f):=KD.bind (fun o=>True.intro) h
theorem Z0 {v:Value}{i:Nat}:KD (field v i):=by
 unfold field
 refine KD.bind ?_ fun a=>by split<;>exact True.intro
 unfold fieldsOf
 split
 ·refine KD.bind (fun o=>True.intro) fun o=>?_
  split<;>exact True.intro
 ·exact True.intro
theorem zd2 {i:Nat}(hi:i≠2)(x:Value)(o:Obj):KO (Obj.mapFields (·.setIfInBounds i x) o)=KO o:=by
 obtain⟨c,d,dt,sl⟩:=o
 cases dt with
 |fields vs =>
  show(d,(vs.setIfInBounds i x)[2]?)=(d,vs[2]?)
  rw[Array.getElem?_setIfInBounds_ne hi]
 |_=>rfl
theorem Qu {v x:Value}{i:Nat}(hi:i≠2):KD (setField v i x):=by
 unfold setField
 split
 ·refine zfC fun o=>?_
  split
  ·exact KD.ite ⟨zd2 hi x,True.intro⟩ True.intro
  ·exact True.intro
 ·exact True.intro
theorem J2 {e:Value}{f:Option Addr}:KD (setFlight e f):=by
 unfold setFlight
 exact KD.bind Z0 fun a=>KD.ite (Qu (by decide)) True.intro
theorem zhC {α:Type}{what:String}{e:Value}{env:Env}:KD (PySem.passOn what e env:Sem α):=by
 unfold PySem.passOn
 exact KD.bind Z0 fun _=>KD.ite True.intro (KD.bind J2 fun _=>True.intro)
theorem zd3:∀(l:List Env),KD (readyFrames l)
 | []=>True.intro
 |env::outer=>by
  unfold readyFrames
  split
  ·refine zfC fun o=>KD.ite True.intro (KD.bind ?_ fun im=>KD.bind ?_ fun bk=>KD.bind ⟨fun o=>rfl,True.intro⟩ fun _=>zd3 outer)
   ·unfold behindIsImport
    exact KD.ite True.intro (KD.ite True.intro (KD.bind Z0 fun _=>True.intro))
   ·unfold keptBack
    split
    ·refine KD.ite True.intro ?_
     unfold underTheClaimsCaller
     exact KD.bind (KD.bind (fun a=>True.intro) fun _=>True.intro) fun _=>True.intro
    ·exact True.intro
  ·exact True.intro
theorem zgE {env:Env}:KD (frameOf env):=by
 unfold frameOf
 refine KD.bind (KD.bind (fun _=>True.intro) fun _=>True.intro) fun l=>KD.bind ?_ fun o=>by split<;>exact True.intro
 unfold frameObject
 split
 ·exact True.intro
 ·exact KD.bind (zd3 _) fun _=>True.intro
theorem zbs {f:Addr}{b:Bool}:KD (entryPlaceOf f b):=by
 unfold entryPlaceOf
 refine KD.bind (fun _=>True.intro) fun l=>?_
 split<;>exact True.intro
theorem zeN {a b c d e:Value}{l:List Value}:KD (EntryCells.newEntry a b c d e l):=by
 unfold EntryCells.newEntry newFields newObj
 show KD (if _ then _ else _)
 refine KD.ite ?_ ?_
 ·exact True.intro
 ·exact fun _=>True.intro
theorem zeh {e a:Value}{env:Env}{f:Addr}{b:Bool}{x:Value}:KD (do let u ←frameOf env;let v ←entryPlaceOf f b;let w ←EntryCells.newEntry a u .none x .none v;setField e 1 w) :=
 KD.bind zgE fun _=>KD.bind zbs fun _=>KD.bind zeN fun _=>Qu (by decide)
theorem Z3 {e:Value}{env:Env}:KD (noteFrame e env):=by
 unfold noteFrame
 split
 ·exact KD.bind Z0 fun a=>KD.ite (KD.bind Z0 fun _=>KD.ite True.intro (KD.bind (Qu (by decide)) fun _=>zeh)) zeh
 ·exact True.intro
theorem QW {e:Value}{env:Env}:KD (leaving env e):=by
 unfold leaving
 exact KD.bind Z3 fun _=>J2
noncomputable def Dx (o:Obj)(d:Option Addr):Prop:=(∀a,d=some a→o.dict=some a)∧(d=none→fd2 o=some .none)
theorem Dx.none {o:Obj}(h:fd2 o=some .none):Dx o Option.none:=And.intro (fun _ z=>nomatch z) fun _=>h
theorem Dx.dk {h h':Heap}{b:Addr}{o o':Obj}{d:Option Addr}(x:Dx o d)(e:h.get? b=some o)(e':h'.get? b=some o')(k:DK h h'):Dx o' d :=
 ⟨fun a z=>(congrArg Prod.fst (k.get e e')).trans (x.1 a z),fun z=>(congrArg Prod.snd (k.get e e')).trans (x.2 z)⟩
end L2
set_option maxHeartbeats 2000000
namespace L2
open PySem PySem.Spec PyProof.Rows
theorem jU.isThere {P:Program}{w:World}{H:Hp}{h:Heap}{a:Addr}{o:HO}(x:jU P w H h a o):∃ob,h.get? a=some ob:=by
 cases o with
 |lst xs=>obtain⟨_,_,_,_,e⟩:=x;exact⟨_,e⟩
 |tup xs=>obtain⟨_,_,_,ob,e,_⟩:=x;exact⟨ob,e⟩
 |dK kvs=>obtain⟨_,_,_,_,ob,_,_,e,_⟩:=x;exact⟨ob,e⟩
 |dT kvs=>obtain⟨_,_,_,_,ob,_,_,e,_⟩:=x;exact⟨ob,e⟩
 |set S n=>obtain⟨ob,_,_,_,e,_⟩:=x;exact⟨ob,e⟩
 |ins C dx fs=>obtain⟨_,_,_,e,_⟩:=x;exact⟨_,e⟩
 |own y=>exact x
 |xd fs=>obtain⟨_,⟨ob,_,_,e,_⟩,_⟩:=x;exact⟨ob,e⟩
 |rng lo hi=>obtain⟨_,_,_,e⟩:=x;exact⟨_,e⟩
 |frz ob u=>obtain⟨e,_⟩:=x;exact⟨_,e⟩
 |tbl ps=>exact⟨_,(show h.get? a=some _ from x)⟩
 |met f y=>exact⟨_,(show h.get? a=some _ from x)⟩
 |ext φ=>obtain⟨_,e,_⟩:=x;exact e
section
variable {X:Cx}{pins:List (Addr×Obj)}{σ:List (Option V)}{H H':Hp}{s:Shared}{h':Heap}
theorem Inv.step2 {g':Array GenState}{t':Nat}{d':Drawn}{ch:List Addr}(I:Inv X pins σ H s)
  (hch:∀b∈ch,(b∈X.ex∨X.s₀.heap.get? b=none)∧b≠X.env.locals∧(∀x c,X.env.cells.lookup x=some c→c≠b)∧∀p∈X.pn++pins,p.1≠b)
  (keep:∀b o,b≠X.env.locals→b∉X.fs→b∉ch→s.heap.get? b=some o→H b=none→h'.get? b=some o)
  (slot:∀b o,b≠X.env.locals→b∈X.fs→b∉ch→s.heap.get? b=some o→H b=none→∃sl,h'.get? b=some {o with slots:=sl}) (free:∀b o,b∉ch→s.heap.get? b=some o→H b=none→H' b=none)
  (there:∀b o,b∉ch→s.heap.get? b=some o→∃o',h'.get? b=some o')
  (tups:∀b xs,H b=some (.tup xs)→H' b=some (.tup xs)) (frzs:∀b o u,H b=some (.frz o u)→H' b=some (.frz o u)) (tbls:∀b ps,H b=some (.tbl ps)→∃more,H' b=some (.tbl (ps++more)))
  (ns:∀m,s.heap.Ns X.env.locals m→h'.Ns X.env.locals m) (hok:HOk X.prog X.w H' h') (hg:AllBare g') :
  Inv X pins σ H' {s with heap:=h',gens:=g',drawn:=d',toks:=t'}:=by
 have neL:∀b o,X.s₀.heap.get? b=some o→b≠X.env.locals:=fun b o e=>xz (xy (xp e) I.ok.above)
 have neC:∀b o,X.s₀.heap.get? b=some o→b∉X.ex→b∉ch:=fun b o e hx hb=>by
  rcases(hch b hb).1 with z|z
  ·exact hx z
  ·rw[z]at e;cases e
 have cellK:∀x c,X.env.cells.lookup x=some c→∀v,s.heap.IsCell c v→h'.IsCell c v:=fun x c e v ⟨o,ho,hd⟩=>by
  have nch:c∉ch:=fun z=>(hch c z).2.2.1 x c e rfl
  by_cases hc:c∈X.fs
  ·obtain⟨sl,q⟩:=slot c o (I.cne x c e) hc nch ho (I.freeC x c e)
   exact⟨_,q,hd⟩
  ·exact⟨o,keep c o (I.cne x c e) hc nch ho (I.freeC x c e),hd⟩
 refine⟨I.ok,I.os,hg,⟨fun b o e n hb hx=>?_,fun b o e n hb hx=>?_,fun b o e n hx=>?_,fun b o e hx=>?_,fun b xs e=>tups b xs (I.base.tups b xs e),fun b o xs e=>frzs b o xs (I.base.frzs b o xs e),fun b ps e=>?_⟩,?_,fun x c e=>?_,?_,fun x c e=>?_,fun p hp=>?_,hok,I.len⟩
 ·exact keep b o (neL b o e) hb (neC b o e hx) (I.base.keep b o e n hb hx) (I.base.free b o e n hx)
 ·obtain⟨sl,e1⟩:=I.base.slot b o e n hb hx
  obtain⟨sl',e2⟩:=slot b _ (neL b o e) hb (neC b o e hx) e1 (I.base.free b o e n hx)
  exact⟨sl',e2⟩
 ·obtain⟨o',e1⟩:=I.base.there b o e hx
  exact free b o' (neC b o e hx) e1 (I.base.free b o e n hx)
 ·obtain⟨o',e1⟩:=I.base.there b o e hx
  exact there b o' (neC b o e hx) e1
 ·obtain⟨m1,e1⟩:=I.base.tbls b ps e
  obtain⟨m2,e2⟩:=tbls b _ e1
  exact⟨m1++m2,by rw[e2,vT]⟩
 ·obtain⟨m,hn,hl⟩:=I.loc
  refine⟨m,ns m hn,fun i x v e1 e2 e3=>?_⟩
  obtain⟨u,r,l⟩:=hl i x v e1 e2 e3
  refine⟨u,r,?_⟩
  rcases l with l|⟨k,c,e,z⟩
  ·exact .inl l
  ·exact .inr ⟨k,c,e,cellK x c e _ z⟩
 ·obtain⟨v,z⟩:=I.cell x c e
  exact⟨v,cellK x c e v z⟩
 ·obtain⟨m,⟨o,_,_,ho,_⟩,_⟩:=I.loc
  exact free _ o (fun z=>(hch _ z).2.1 rfl) ho I.free
 ·obtain⟨v,o,ho,hd⟩:=I.cell x c e
  exact free c o (fun z=>(hch c z).2.2.1 x c e rfl) ho (I.freeC x c e)
 ·obtain⟨e,n,ne,nf,d⟩:=I.pin p hp
  have nch:p.1∉ch:=fun z=>(hch p.1 z).2.2.2 p hp rfl
  exact⟨keep p.1 p.2 ne nf nch e n,free p.1 p.2 nch e n,ne,nf,d⟩
end
noncomputable def zmq (h₀ h:Heap)(H:Hp)(ea:Addr)(C:Value)(d:Option Addr):Prop :=
 ∃oe vs T oT ts a0,h.get? ea=some oe∧(oe.cls=C∧Dx oe d)∧vs[0]? = some a0∧oe.data=.fields vs∧vs[1]? = some (.ref T)∧T≠ea∧h.get? T=some oT∧oT.data=.fields ts∧ts[3]? = some .none ∧
  H ea=none∧H T=none∧h₀.get? ea=none∧h₀.get? T=none
noncomputable def CX1 (P:Program)(w:World):CXT:=fun outer H s E e s' =>
 ∃ea C d H',e=.ref ea∧s'.os=s.os∧AllBare s'.gens∧Un (frs outer) [] H H' s.heap s'.heap∧HOk P w H' s'.heap∧zmq s.heap s'.heap H' ea C d∧E C d H'
section
variable {P:Program}{w:World}{K:xb}{mg:Str→Option Value}{base:Heap}{N:List Str}{qual:Str}{scope:Scope}{f:Addr}{cd:Value}{A:Around}{outer:List Env}{s s1:Shared}{H H1:Hp}{E:XK}
 {pins:List (Addr×Obj)} {σ:St} {hid:List Addr} {h':Heap} {ea:Addr} {C a0:Value} {d:Option Addr}
theorem ze4 (I:Inv (zr (CX1 P w) P w K mg base N qual scope f cd A outer s H E) pins σ H1 s1)(hf:∀b∈frs (zr (CX1 P w) P w K mg base N qual scope f cd A outer s H E).stack,b∈hid)
  (hh:∀b∈hid,b∈frs (zr (CX1 P w) P w K mg base N qual scope f cd A outer s H E).stack∨(s.heap.get? b=none∧H1 b=none))
  (st:(x8 s1.heap hid).StaysIn h') (sm:s1.heap.UpToSlots h') (tr:h'.TracedW (x8 s1.heap hid) ea C a0) (hea:ea∈hid∨s1.heap.get? ea=none) (dx:∀o,h'.get? ea=some o→Dx o d) (e:E C d H1) :
  CX1 P w outer H s E (.ref ea) {s1 with heap:=h'}:=by
 have old:∀b o,s.heap.get? b=some o→∃o',s1.heap.get? b=some o':=fun b o q=>I.base.there b o q (fun z=>nomatch z)
 have frS:=fun b hb=>(I.stack.mem (b:=b) hb).2
 have keepB:∀b o,b∉hid→s1.heap.get? b=some o→h'.get? b=some o:=fun b o hb q=>st b o (yz hid q hb)
 have trk:∀b o,H1 b=some o→b∉hid:=fun b o q hb=>by
  rcases hh b hb with z|⟨_,z⟩
  ·rw[I.stkFree b z]at q;cases q
  ·rw[z]at q;cases q
 have fr2:∀b o,s.heap.get? b=some o→b∈hid→b∈frs outer:=fun b o q hb=>by
  rcases hh b hb with z|⟨z,_⟩
  ·rcases xt.mp (I.stkSub b z)with y|y
   ·exact absurd (xy (xp q) I.ok.above) (by rw[y];exact yd _)
   ·exact y
  ·rw[z]at q;cases q
 have inStk:∀b,b∈frs outer→b∈frs (zr (CX1 P w) P w K mg base N qual scope f cd A outer s H E).stack:=fun b hb=>xx _ hb
 obtain⟨oe,vs,T,oT,ts,he,⟨hc,h0⟩,hd,h1,hnT,hne,hT,hdT,h3⟩:=tr
 have gone:∀b o',(x8 s1.heap hid).get? b=none→s1.heap.get? b=some o'→b∈hid:=fun b o' z q=>by
  by_cases hb:b∈hid
  ·exact hb
  ·rw[yz hid q hb]at z;cases z
 have fields:∀b o ws,h'.get? b=some o→o.data=.fields ws→b∈frs (zr (CX1 P w) P w K mg base N qual scope f cd A outer s H E).stack→False:=fun b o ws q d hb=>by
  obtain⟨ob,g1,g2⟩:=frS b hb
  obtain⟨sl,g3⟩:=sm b ob g1 g2
  rw[q]at g3;cases g3;exact g2 ws d
 have hT0:s.heap.get? T=none:=by
  cases q:s.heap.get? T with
  |none=>rfl
  |some o =>
   obtain⟨o',q'⟩:=old T o q
   exact(fields T oT ts hT hdT (inStk _ (fr2 T o q (gone T o' hnT q')))).elim
 have hT1:H1 T=none:=by
  cases q:H1 T with
  |none=>rfl
  |some o =>
   obtain⟨o',q'⟩:=(I.hok T o q).isThere
   exact absurd (gone T o' hnT q') (trk T o q)
 have he0:s.heap.get? ea=none:=by
  cases q:s.heap.get? ea with
  |none=>rfl
  |some o =>
   rcases hea with z|z
   ·exact(fields ea oe vs he hd (inStk _ (fr2 ea o q z))).elim
   ·obtain⟨o',q'⟩:=old ea o q
    rw[z]at q';cases q'
 have he1:H1 ea=none:=by
  cases q:H1 ea with
  |none=>rfl
  |some o =>
   rcases hea with z|z
   ·exact absurd z (trk ea o q)
   ·obtain⟨o',q'⟩:=(I.hok ea o q).isThere
    rw[z]at q';cases q'
 refine⟨ea,C,d,H1,rfl,I.os,I.bare,⟨fun b o q n hb _=>?_,fun b o q n hb _=>?_,fun b o q n _=>?_,fun b o q _=>?_,I.base.tups,I.base.frzs,I.base.tbls⟩,fun b o q=>?_,
  ⟨oe,vs,T,oT,ts,a0,he,⟨hc,dx oe he⟩,h0,hd,h1,hne,hT,hdT,h3,he1,hT1,he0,hT0⟩,e⟩
 ·exact keepB b o (fun z=>hb (fr2 b o q z)) (I.base.keep b o q n hb (fun z=>nomatch z))
 ·obtain⟨sl,q1⟩:=I.base.slot b o q n hb (fun z=>nomatch z)
  obtain⟨ob,g1,g2⟩:=frS b (inStk b hb)
  rw[q1]at g1;cases g1
  obtain⟨sl',q2⟩:=sm b _ q1 g2
  exact⟨sl',q2⟩
 ·exact I.base.free b o q n (fun z=>nomatch z)
 ·obtain⟨o',q1⟩:=old b o q
  by_cases hb:b∈hid
  ·obtain⟨ob,g1,g2⟩:=frS b (inStk b (fr2 b o q hb))
   obtain⟨sl,q2⟩:=sm b ob g1 g2
   exact⟨_,q2⟩
  ·exact⟨o',keepB b o' hb q1⟩
 ·refine(I.hok b o q).stay (fun c u hc q'=>keepB c u ?_ q') (fun _ z=>z) fun _ _ z=>z
  rcases hc with z|z
  ·rw[z];exact trk b o q
  ·exact trk c _ z
theorem zG:Zy (CX1 P w) (zr (CX1 P w) P w K mg base N qual scope f cd A outer s H E) E:=by
 intro pins σ H1 s1 e s' I hx
 obtain⟨ea,C,d,H',rfl,os,bare,un,hok,⟨oe,vs,T,oT,ts,a0,he,⟨hc,hx0⟩,h0,hd,h1,hne,hT,hdT,h3,n1,n2,g1,g2⟩,hE⟩:=hx
 have I':Inv (zr (CX1 P w) P w K mg base N qual scope f cd A outer s H E) pins σ H' s':=I.call' (ch:=[]) os un hok bare (fun _ z=>nomatch z)
 have nOld:∀b,s1.heap.get? b=none→s.heap.get? b=none:=fun b z=>by
  cases q:s.heap.get? b with
  |none=>rfl
  |some o =>
   obtain⟨o',q'⟩:=I.base.there b o q (fun z=>nomatch z)
   rw[z]at q';cases q'
 have hfr:∀b∈frs (zr (CX1 P w) P w K mg base N qual scope f cd A outer s H E).stack,b∈ea::T::frs (zr (CX1 P w) P w K mg base N qual scope f cd A outer s H E).stack:=fun b hb=>.tail _ (.tail _ hb)
 refine Jq QW (wpAny_leaves_onW (base:=x8 s'.heap (ea::T::frs (zr (CX1 P w) P w K mg base N qual scope f cd A outer s H E).stack)) (cls:=C) (a0:=a0) I'.ok.frames rfl
  ⟨fun b o q=>yM _ q,x9 _ (.head _),yI I'.stack (fun env he' b hb=>hfr b (yh.mpr ⟨env,he',hb⟩)),
   ⟨oe,vs,T,oT,ts,he,⟨hc,h0⟩,hd,h1,x9 _ (.tail _ (.head _)),hne,hT,hdT,h3⟩⟩ fun h' fl sm dk=>?_)
 refine ze4 I' hfr (fun b hb=>?_) fl.1 sm fl.2.2.2 (.inl (.head _)) (fun o e=>hx0.dk he e dk) hE
 rcases xt.mp hb with rfl|hb
 ·exact .inr ⟨nOld _ g1,n1⟩
 ·rcases xt.mp hb with rfl|hb
  ·exact .inr ⟨nOld _ g2,n2⟩
  ·exact .inl hb
end
abbrev bmV:List Value:=[.type "ValueError",.type "Exception",.type "BaseException",.type "object"]
theorem zk0 {K:xb}{h:Heap}{C:Addr}{bmB:List Value}{newId:String}(X:K.In h)(q:x0 K C bmB newId=true) :
  ∃bm N nm qn bs hdct sn sub ab col dd k0 k1 k2 k3 k5 mN,h.get? C=some (excClassObj nm qn C N bs bm hdct sn sub ab col dd k0 k1 k2 k3 k5 newId)∧h.Ns N mN∧mN "__init__"=none∧OwnTail h bmB bm:=by
 unfold x0 at q
 split at q
 next dd cd sl ho =>
  split at q
  next C' bm k0 k1 k2 k3 n k5 hm hs =>
   simp only[yq,beq_iff_eq,yl]at q
   obtain⟨⟨⟨⟨⟨e1,e2⟩,hdel⟩,ht⟩,hok⟩,hni⟩:=q
   subst e1;subst e2
   obtain⟨nm,bs,mro,ns,qn,hd,sn,sub,ab,col,del⟩:=cd
   dsimp only at hm hdel hok hni
   subst hm hdel
   obtain rfl:sl=#[k0,k1,k2,k3,some (.builtin n),k5]:=by
    cases sl with
    |mk l=>exact congrArg Array.mk hs
   have hns:h.Ns ns (h.nsMap ns):=.of_isNs (vV X hok)
   exact⟨bm,ns,nm,qn,bs,hd,sn,sub,ab,col,dd,k0,k1,k2,k3,k5,_,X _ _ ho,hns,PySem.W.nsMap_none_of_in X hok hni,vW X ht⟩
  next=>cases q
 next=>cases q
section
variable {P:Program}{w:World}{K:xb}{mg:Str→Option Value}{base:Heap}{N:List Str}{qual:Str}{scope:Scope}{f:Addr}{cd:Value}{A:Around}{outer:List Env}{s:Shared}{H:Hp}{E:XK}
theorem jK {x:Str}{np cpos pos:Pos}{e₀:Expr}{rest:List Expr}{t:TA}{C:Addr}(hq:x0 K C bmV "ValueError.__new__"=true)(hm:mg x=some (.ref C))
  (ha:PA (zr (CX1 P w) P w K mg base N qual scope f cd A outer s H E) (e₀::rest) t)
  (hg:Gl (zr (CX1 P w) P w K mg base N qual scope f cd A outer s H E) x:=by rfl) (hdb:(x==("__debug__":Str))=false:=by decide)
  (he:starEach (e₀::rest) (zr (CX1 P w) P w K mg base N qual scope f cd A outer s H E).env=(false,eval e₀ (zr (CX1 P w) P w K mg base N qual scope f cd A outer s H E).env)::starEach rest (zr (CX1 P w) P w K mg base N qual scope f cd A outer s H E).env:=by rfl)
  (hpl:(backTo cpos (starEach rest (zr (CX1 P w) P w K mg base N qual scope f cd A outer s H E).env)).any (·.1)=false:=by rfl) :
  PS (zr (CX1 P w) P w K mg base N qual scope f cd A outer s H E) (.Raise (some (.Call (.Name x np) (e₀::rest) [] cpos)) none pos) (fun _ σ H0=>t σ H0 fun vs H1=>vs.length≤sizeLine∧E (.ref C) none H1):=by
 intro pins s1 σ H0 D I h
 obtain⟨tl,N',nm,q,bs,hdct,sn,sub,ab,col,dd,k0,k1,k2,k3,k5,mN,hC,hN,hni,T⟩:=zk0 I.ok.mod.kin hq
 refine wpAny_Raise_call_subT (C:=C) (nm:=nm) (q:=q) (N:=N') (bs:=bs) (bm:=tl) (hdct:=hdct) (sn:=sn) (sub:=sub) (ab:=ab) (col:=col) (dd:=dd) (k0:=k0) (k1:=k1) (k2:=k2) (k3:=k3) (k5:=k5)
  uf (mN:=mN) (T.hasType uf.hasBase) (I.ok.hd rfl) (by rw[he];show(false||(backTo cpos (starEach rest _)).any (·.1))=false;rw[hpl];rfl) hni (Zo I hg hm ⟨rfl,?_⟩ hdb)
 have hs:=ha cpos pins s1 σ H0 _ I h
 rw[he]at hs ⊢
 refine Calls.evalArgs_plain (wpAny_mono hs (fun us s2 h2=>?_) fun _ _ y=>y)
 obtain⟨vs,H2,I2,r,z,hE⟩:=h2
 refine⟨rfl,by rw[←r.length];exact z,I2.bk _ _ hC,hN.keeps I2.bk,T.keeps I2.bk,fun h' e hm'=>?_⟩
 have hin:∀env∈(zr (CX1 P w) P w K mg base N qual scope f cd A outer s H E).stack,∀b,env.frame=some b→b∈frs (zr (CX1 P w) P w K mg base N qual scope f cd A outer s H E).stack:=fun env he b hb=>yh.mpr ⟨env,he,hb⟩
 obtain⟨t0,he0,_,_⟩:=id hm'.there
 exact Jq QW (wpAny_leaves_madeW (base:=x8 s2.heap (frs (zr (CX1 P w) P w K mg base N qual scope f cd A outer s H E).stack)) (h:=s2.heap) I2.ok.frames rfl (fun b o q=>yM _ q) (yI I2.stack hin) hm'
  fun h'' t' fl _ _ sm dk=>(ze4 (s1:=s2) (h':=h'') I2 (fun b hb=>hb) (fun b hb=>.inl hb) fl.1 ((vG.of_keeps hm'.keeps).trans sm) fl.2.2.2 (.inr hm'.new) (fun o eo=>Dx.none ((congrArg Prod.snd (dk.get he0 eo)).trans rfl)) hE:CX1 P w outer H s E (.ref e) {s2 with heap:=h''}))
end
noncomputable def Fly (X:Cx)(pins:List (Addr×Obj))(H:Hp)(ea:Addr)(C:Value)(d:Option Addr)(h:Heap):Prop :=
 ∃oe vs T oT ts a0,h.get? ea=some oe∧(oe.cls=C∧Dx oe d)∧vs[0]? = some a0∧oe.data=.fields vs∧vs[1]? = some (.ref T)∧T≠ea∧h.get? T=some oT∧oT.data=.fields ts∧ts[3]? = some .none ∧
  H ea=none∧H T=none∧∀b,b=ea∨b=T→X.s₀.heap.get? b=none∧b≠X.env.locals∧(∀x c,X.env.cells.lookup x=some c→c≠b)∧∀p∈X.pn++pins,p.1≠b
noncomputable abbrev XS:=St→Value→Option Addr→Hp→Prop
noncomputable def XP (X:Cx)(pins:List (Addr×Obj))(E:XS)(e:Value)(s':Shared):Prop:=∃σ ea C d H',e=.ref ea∧Inv X pins σ H' s'∧Fly X pins H' ea C d s'.heap∧E σ C d H'
noncomputable abbrev TEx:=St→Hp→VK→XK→Prop
noncomputable abbrev TSx:=qY→XS→St→Hp→Prop
noncomputable def PEx (X:Cx)(e:Expr)(t:TEx):Prop :=
 ∀(pins:List (Addr×Obj)) (s:Shared) (σ:St) (H:Hp) (Q:VK) (E:XS),Inv X pins σ H s→t σ H Q (fun C d H'=>E σ C d H')→wpAny (model X.prog X.w) X.A (eval e X.env) (EP X pins σ Q) (XP X pins E) s
noncomputable def PSx (X:Cx)(st:Stmt)(t:TSx):Prop :=
 ∀(pins:List (Addr×Obj)) (s:Shared) (σ:St) (H:Hp) (D:qY) (E:XS),Inv X pins σ H s→t D E σ H→wpAny (model X.prog X.w) X.A (exec st X.env) (SP X pins D) (XP X pins E) s
noncomputable def Jl (X:Cx)(st:List Stmt)(t:TSx):Prop :=
 ∀(pins:List (Addr×Obj)) (s:Shared) (σ:St) (H:Hp) (D:qY) (E:XS),Inv X pins σ H s→t D E σ H→wpAny (model X.prog X.w) X.A (execs st X.env) (SP X pins D) (XP X pins E) s
structure Own (X:Cx):Prop where
 ex:X.ex=[]
 stk:X.stack=X.env::X.outer
 fr:X.env.frame=some X.env.locals
 calm:X.calm=true
section
variable {X:Cx}{pins:List (Addr×Obj)}{σ:St}{H:Hp}{s s':Shared}{E:XK}{e:Value}
theorem Inv.unlike (O:Own X)(I:Inv X pins σ H s){b:Addr}(z:s.heap.get? b=none) :
  X.s₀.heap.get? b=none∧b≠X.env.locals∧(∀x c,X.env.cells.lookup x=some c→c≠b)∧∀p∈X.pn++pins,p.1≠b:=by
 refine⟨?_,?_,fun x c e y=>?_,fun p hp y=>?_⟩
 ·cases q:X.s₀.heap.get? b with
  |none=>rfl
  |some o =>
   obtain⟨o',q'⟩:=I.base.there b o q (by rw[O.ex];exact fun z=>nomatch z)
   rw[z]at q';cases q'
 ·obtain⟨m,⟨o,_,_,ho,_⟩,_⟩:=I.loc
  rintro rfl
  rw[z]at ho;cases ho
 ·obtain⟨v,o,ho,_⟩:=I.cell x c e
  rw[y,z]at ho;cases ho
 ·have:=(I.pin p hp).1
  rw[y,z]at this;cases this
theorem zlN (O:Own X)(I:Inv X pins σ H s)(hx:CX1 X.prog X.w X.stack H s E e s'):∃ea C d H',e=.ref ea∧Inv X pins σ H' s'∧Fly X pins H' ea C d s'.heap∧E C d H':=by
 obtain⟨ea,C,d,H',rfl,os,bare,un,hok,⟨oe,vs,T,oT,ts,a0,he,hc,h0,hd,h1,hne,hT,hdT,h3,n1,n2,g1,g2⟩,hE⟩:=hx
 refine⟨ea,C,d,H',rfl,I.call' (ch:=[]) os un hok bare (fun _ z=>nomatch z),⟨oe,vs,T,oT,ts,a0,he,hc,h0,hd,h1,hne,hT,hdT,h3,n1,n2,fun b hb=>?_⟩,hE⟩
 rcases hb with rfl|rfl
 ·exact I.unlike O g1
 ·exact I.unlike O g2
theorem zik (O:Own X)(I:Inv X pins σ H s){oe:Obj}{vs ts:Array Value}{T ea:Addr}{oT:Obj}{a0 C:Value}{h':Heap}
  {d:Option Addr} (n1:H ea=none) (n2:H T=none) (hb:∀b,b=ea∨b=T→X.s₀.heap.get? b=none∧b≠X.env.locals∧(∀x c,X.env.cells.lookup x=some c→c≠b)∧∀p∈X.pn++pins,p.1≠b)
  (st:(x8 s.heap (ea::T::frs X.stack)).StaysIn h') (sm:s.heap.UpToSlots h') (tr:h'.TracedW (x8 s.heap (ea::T::frs X.stack)) ea C a0) (dx:∀o,h'.get? ea=some o→Dx o d) :
  Inv X pins σ H {s with heap:=h'}∧Fly X pins H ea C d h':=by
 have frS:=fun b hb=>(I.stack.mem (b:=b) hb).2
 have keepB:∀b o,b∉ea::T::frs X.stack→s.heap.get? b=some o→h'.get? b=some o:=fun b o hb q=>st b o (yz _ q hb)
 have trk:∀b o,H b=some o→b∉ea::T::frs X.stack:=fun b o q hb=>by
  rcases xt.mp hb with rfl|hb
  ·rw[n1]at q;cases q
  ·rcases xt.mp hb with rfl|hb
   ·rw[n2]at q;cases q
   ·rw[I.stkFree b hb]at q;cases q
 have nh:∀b,b≠X.env.locals→b∉X.fs→b∉[ea,T]→b∉ea::T::frs X.stack:=fun b h1 h2 h3 hb=>by
  rcases xt.mp hb with rfl|hb
  ·exact h3 (.head _)
  ·rcases xt.mp hb with rfl|hb
   ·exact h3 (.tail _ (.head _))
   ·rcases xt.mp (I.stkSub b hb)with y|y
    ·exact h1 y
    ·exact h2 y
 have fsS:∀b,b∈X.fs→b∈frs X.stack:=fun b hb=>by
  rw[O.stk];unfold frs;rw[ui,O.fr];exact .tail _ hb
 refine⟨I.step2 (g':=s.gens) (d':=s.drawn) (t':=s.toks) (ch:=[ea,T]) (fun b hc=>?_) (fun b o h1 h2 h3 q _=>keepB b o (nh b h1 h2 h3) q) (fun b o _ h2 _ q _=>?_) (fun _ _ _ _ n=>n) (fun b o h3 q=>?_)
  (fun _ _ z=>z) (fun _ _ _ z=>z) (fun b ps z=>⟨#[],by rw[z];simp⟩) (fun m hm=>sm.ns hm) (fun b o q=>?_) I.bare,?_⟩
 ·have hc':b=ea∨b=T:=by simpa using hc
  obtain⟨y1,y2,y3,y4⟩:=hb b hc'
  exact⟨.inr y1,y2,y3,y4⟩
 ·obtain⟨ob,g1,g2⟩:=frS b (fsS b h2)
  rw[q]at g1;cases g1
  exact sm b o q g2
 ·by_cases hh:b∈ea::T::frs X.stack
  ·rcases xt.mp hh with rfl|hh
   ·exact absurd (.head _) h3
   ·rcases xt.mp hh with rfl|hh
    ·exact absurd (.tail _ (.head _)) h3
    ·obtain⟨ob,g1,g2⟩:=frS b hh
     obtain⟨sl,q2⟩:=sm b ob g1 g2
     exact⟨_,q2⟩
  ·exact⟨o,keepB b o hh q⟩
 ·refine(I.hok b o q).stay (fun c u hc q'=>keepB c u ?_ q') (fun _ z=>z) fun _ _ z=>z
  rcases hc with z|z
  ·rw[z];exact trk b o q
  ·exact trk c _ z
 ·obtain⟨oe,vs,T',oT,ts,he,⟨hc,h0⟩,hd,h1,hnT,hne,hT,hdT,h3⟩:=tr
  have gone:∀o',s.heap.get? T'=some o'→T'=T:=fun o' q=>by
   by_cases hh:T'∈ea::T::frs X.stack
   ·rcases xt.mp hh with y|hh
    ·exact absurd y hne
    ·rcases xt.mp hh with y|hh
     ·exact y
     ·obtain⟨ob,g1,g2⟩:=frS T' hh
      obtain⟨sl,g3⟩:=sm T' ob g1 g2
      rw[hT]at g3;cases g3
      exact absurd hdT (g2 ts)
   ·rw[yz _ q hh]at hnT;cases hnT
  have hT1:H T'=none:=by
   cases q:H T' with
   |none=>rfl
   |some o =>
    obtain⟨o',q'⟩:=(I.hok T' o q).isThere
    rw[gone o' q',n2]at q;cases q
  refine⟨oe,vs,T',oT,ts,a0,he,⟨hc,dx oe he⟩,h0,hd,h1,hne,hT,hdT,h3,n1,hT1,fun b hb'=>?_⟩
  rcases hb' with rfl|rfl
  ·exact hb b (.inl rfl)
  ·cases q:s.heap.get? b with
   |none=>exact I.unlike O q
   |some o'=>exact hb b (.inr (gone o' q))
theorem zi5 {Q:Unit→Shared→Prop}{E':Value→Shared→Prop}{ea:Addr}{C:Value}{d:Option Addr}(O:Own X)(I:Inv X pins σ H s)(f:Fly X pins H ea C d s.heap)
  (h:∀h',Inv X pins σ H {s with heap:=h'}→Fly X pins H ea C d h'→Q () {s with heap:=h'}) :
  wpAny (model X.prog X.w) X.A (noteFrame (.ref ea) X.env) (fun _ s₂=>wpAny (model X.prog X.w) X.A (setFlight (.ref ea) none) Q E' s₂) E' s:=by
 obtain⟨oe,vs,T,oT,ts,a0,he,⟨hc,hx0⟩,h0,hd,h1,hne,hT,hdT,h3,n1,n2,hb⟩:=f
 have hin:∀env∈X.stack,∀b,env.frame=some b→b∈ea::T::frs X.stack:=fun env he' b hb'=>.tail _ (.tail _ (yh.mpr ⟨env,he',hb'⟩))
 have hfl:wI (x8 s.heap (ea::T::frs X.stack)) (X.env::X.outer) ea C a0 s.heap:=by
  rw[←O.stk]
  exact⟨fun b o q=>yM _ q,x9 _ (.head _),yI I.stack hin,
   ⟨oe,vs,T,oT,ts,he,⟨hc,h0⟩,hd,h1,x9 _ (.tail _ (.head _)),hne,hT,hdT,h3⟩⟩
 refine Jq Z3 (wpAny_looks_onW (by rw[←O.stk];exact I.ok.frames) O.fr hfl fun h₄ hheld sm₄ dk1=>?_)
 refine Jq J2 (wpAny_landsW hheld fun h₅ fl₅ sm₅ dk2=>?_)
 obtain⟨I₅,f₅⟩:=zik (oe:=oe) (vs:=vs) (ts:=ts) (oT:=oT) O I n1 n2 hb fl₅.1 (sm₄.trans sm₅) fl₅.2.2.2 (fun o e=>hx0.dk he e (dk1.trans dk2))
 exact h h₅ I₅ f₅
theorem zji {Q:Unit→Shared→Prop}{A':Around}{E':Value→Shared→Prop}{ea:Addr}{C:Value}{d:Option Addr}(O:Own X)(I:Inv X pins σ H s)(f:Fly X pins H ea C d s.heap)
  (h:∀h',Inv X pins σ H {s with heap:=h'}→Fly X pins H ea C d h'→Q () {s with heap:=h'}) :
  wpAny (model X.prog X.w) A' (setFlight (.ref ea) none) Q E' s:=by
 obtain⟨oe,vs,T,oT,ts,a0,he,⟨hc,hx0⟩,h0,hd,h1,hne,hT,hdT,h3,n1,n2,hb⟩:=f
 have hin:∀env∈X.stack,∀b,env.frame=some b→b∈ea::T::frs X.stack:=fun env he' b hb'=>.tail _ (.tail _ (yh.mpr ⟨env,he',hb'⟩))
 have hfl:wI (x8 s.heap (ea::T::frs X.stack)) X.stack ea C a0 s.heap :=
  ⟨fun b o q=>yM _ q,x9 _ (.head _),yI I.stack hin,
   ⟨oe,vs,T,oT,ts,he,⟨hc,h0⟩,hd,h1,x9 _ (.tail _ (.head _)),hne,hT,hdT,h3⟩⟩
 refine Jq J2 (lands_againW hfl fun h₅ fl₅ sm₅ dk2=>?_)
 obtain⟨I₅,f₅⟩:=zik (oe:=oe) (vs:=vs) (ts:=ts) (oT:=oT) O I n1 n2 hb fl₅.1 sm₅ fl₅.2.2.2 (fun o e=>hx0.dk he e dk2)
 exact h h₅ I₅ f₅
end
noncomputable abbrev Cx.mark (X:Cx)(ea:Addr):Cx:={X with A:=X.A.mark (some (.ref ea)),calm:=false}
section
variable {X:Cx}{pins:List (Addr×Obj)}{σ:St}{H:Hp}{s:Shared}{ea:Addr}
theorem Inv.mark (I:Inv X pins σ H s)(ea:Addr):Inv (X.mark ea) pins σ H s :=
 ⟨⟨I.ok.mod,I.ok.kind,I.ok.glob,I.ok.blt,I.ok.above,I.ok.inj,I.ok.has,I.ok.cab,(fun z=>nomatch z),I.ok.frames,I.ok.stk,I.ok.exf,I.ok.bs,I.ok.bsz,I.ok.noex,I.ok.exfs,I.ok.funs,I.ok.frf⟩,
  I.os,I.bare,I.base,I.loc,I.cell,I.free,I.freeC,I.pin,I.hok,I.len⟩
theorem Inv.unmark (ok:X.Ok)(I:Inv (X.mark ea) pins σ H s):Inv X pins σ H s:=⟨ok,I.os,I.bare,I.base,I.loc,I.cell,I.free,I.freeC,I.pin,I.hok,I.len⟩
theorem SP.unmark {D:qY}{f:Flow}(ok:X.Ok)(h:SP (X.mark ea) pins D f s):SP X pins D f s:=by
 cases f with
 |next=>obtain⟨σ',H',I',q⟩:=h;exact⟨σ',H',I'.unmark ok,q⟩
 |brk=>obtain⟨σ',H',I',q⟩:=h;exact⟨σ',H',I'.unmark ok,q⟩
 |cont=>obtain⟨σ',H',I',q⟩:=h;exact⟨σ',H',I'.unmark ok,q⟩
 |ret u=>obtain⟨v,σ',H',I',r,q⟩:=h;exact⟨v,σ',H',I'.unmark ok,r,q⟩
end
noncomputable abbrev TH:=Value→Option Addr→TS
noncomputable def PH (X:Cx)(hs:List ExceptHandler)(t:TH):Prop :=
 ∀(pins:List (Addr×Obj)) (s:Shared) (σ:St) (H:Hp) (D:qY) (ea:Addr) (C:Value) (d:Option Addr),Inv X pins σ H s→Fly X pins H ea C d s.heap→t C d D σ H→wpAny (model X.prog X.w) X.A (handleBy (.ref ea) X.env hs) (SP X pins D) X.xe s
noncomputable def zm2:TH:=fun _ _ _ _ _=>False
section
variable {X:Cx}
theorem zlH:PH X [] zm2:=fun _ _ _ _ _ _ _ _ _ _ h=>h.elim
theorem zjC {st:Stmt}{t:TSx}(h1:PSx X st t):Jl X [st] t:=by
 intro pins s σ H D E I h
 refine wpAny_execs_cons (wpAny_mono (h1 pins s σ H D E I h) (fun f s1 q=>?_) fun _ _ z=>z)
 cases f with
 |next=>exact wpAny_execs_nil q
 |ret v=>exact q
 |brk=>exact q
 |cont=>exact q
noncomputable def zmy (te:TEx):TSx:=fun D E σ H=>te σ H (fun _ H1=>D.nx σ H1) fun C d H1=>E σ C d H1
theorem zj9 {e:Expr}{te:TEx}{pos:Pos}(he:PEx X e te)(hs:swapsWith e none pos.line X.env=pure false:=by rfl):PSx X (.Expr e pos) (zmy te):=by
 intro pins s σ H D E I h
 exact wpAny_Expr_any (wpAny_mono (he pins s σ H _ E I h) (fun v s1 ⟨x,H1,I1,r1,q1⟩=>⟨σ,H1,I1,q1⟩) fun _ _ z=>z) I.quiet hs
noncomputable def zmD (tb:TSx)(th:TH):TS:=fun D σ H=>tb D (fun σ' C d H'=>th C d D σ' H') σ H
theorem zlz {body:List Stmt}{h₀:ExceptHandler}{hs:List ExceptHandler}{tb:TSx}{th:TH}{pos:Pos}(O:Own X)(hb:Jl X body tb)(hh:PH X (h₀::hs) th):PS X (.Try body (h₀::hs) [] [] pos) (zmD tb th):=by
 intro pins s σ H D I h
 refine wpAny_Try_except (wpAny_mono (hb pins s σ H D _ I h) (fun f s1 q=>?_) fun e s1 q=>?_)
 ·cases f with
  |next=>exact wpAny_execs_nil q
  |ret v=>exact q
  |brk=>exact q
  |cont=>exact q
 ·obtain⟨σ',ea,C,d,H',rfl,I',f,q⟩:=q
  exact zi5 O I' f fun h' I'' f''=>hh pins _ σ' H' D ea C d I'' f'' q
theorem zi1 {k:Nat}{f:Addr}{fd:FuncData}{ps:List Str}{sp:Sp}{dvs:List V}{ds:List Value}{x:Str}{p pos:Pos}{e:Expr}{es:List Expr}{t:TA}(O:Own X)(F:Jw X.prog X.w X.K X.mg X.base (CX1 X.prog X.w) k f fd ps sp)(hr:jO k X.A)(hg:Gl X x)(hm:X.mg x=some (.ref f))(hk:xj X.K (.ref f)=true)(hb:ZP X.K fd ps ds)(hd:zH dvs ds)
  (ha:PA X.nox (e::es) t) (hdb:(x==("__debug__":Str))=false:=by decide) (he:starEach (e::es) X.env=(false,eval e X.env)::starEach es X.env:=by rfl) (hpl:(backTo pos (starEach es X.env)).any (·.1)=false:=by rfl) :
  PEx X (.Call (.Name x p) (e::es) [] pos) (fun σ H Q E=>t σ H fun vs H1=>sp (vs++dvs) H1 Q E):=by
 intro pins s σ H Q E I h
 refine wpAny_Call_Name_kw (Zo I hg hm ?_ hdb)
 refine uV (h₀:=X.base) I.ok.mod.kin hk (wpAny_mono (ha pos pins s σ H _ (I.wish _) h) (fun us s1 q=>?_) fun _ _ z=>z.elim) he hpl
 obtain⟨vs,H1,I1,r,q⟩:=q
 have I1:=I1.unwish
 have r2:zH (vs++dvs) (us++ds):=r.append hd
 have hl:(us++ds).length=ps.length:=by rw[←r2.length];exact F.len _ _ _ _ q
 refine⟨I1.kIn,wpAny_call (codeAny_mono (F.run X.A X.stack s1 H1 ⟨us,[]⟩ (us++ds) (vs++dvs) Q _ hr I1.env0 (hb s1 us I1.kIn hl) r2 q) fun r s' hq=>?_)⟩
 cases r with
 |error e =>
  have hq':CX1 X.prog X.w X.stack H1 s1 (fun C d H'=>E σ C d H') e s':=hq
  obtain⟨ea,C,d,H',e1,I',f',q'⟩:=zlN O I1 hq'
  exact⟨σ,ea,C,d,H',e1,I',f',q'⟩
 |ok fl =>
  cases fl with
  |ret u=>exact I1.after hq
  |next=>exact False.elim hq
  |brk=>exact False.elim hq
  |cont=>exact False.elim hq
end
section
variable {P:Program}{w:World}{K:xb}{mg:Str→Option Value}{base:Heap}
theorem Fun.okX {x qual:Str}{st:Stmt}{f:Addr}{fd:FuncData}{N ps:List Str}{k:Nat}{sp:Sp}(F:Fun K x qual st f fd)(S:zu N ps (ze st))(len:∀vs H Q E,sp vs H Q E→vs.length=ps.length)
  (hbody:∀(cdv:Value) (A:Around) (outer:List Env) (s:Shared) (H:Hp) (vs:List V) (Q:VK) (E:XK),jO k (A.deeper (envOfC qual (ze st) s.heap.objs.size f cdv))→sp vs H Q E →
   ∃t,PSs (zr (CX1 P w) P w K mg base N qual (ze st) f cdv A outer s H E) (zm st) t∧t {nx:=fun _ H'=>Q .non H',rt:=Q} (Zq N vs) H):Jw P w K mg base (CX1 P w) (k+1) f fd ps sp:=by
 obtain⟨oc,od,kV,doc,pm,an,cdv,ct,osl,rfl,lk,hcd⟩:=F.ex
 exact zml lk hcd S len fun A outer s H vs Q E hr hsp=>hbody cdv A outer s H vs Q E hr hsp
theorem zdh {N:List Str}{qual:Str}{scope:Scope}{f:Addr}{cd:Value}{A:Around}{outer:List Env}{s:Shared}{H:Hp}{E:XK}:Own (zr (CX1 P w) P w K mg base N qual scope f cd A outer s H E):=⟨rfl,rfl,rfl,rfl⟩
theorem zY {N:List Str}{qual:Str}{scope:Scope}{f:Addr}{cd:Value}{A:Around}{outer:List Env}{s:Shared}{H:Hp}{E:XK} :
  PassesOwn (model P w) (zr (CX1 P w) P w K mg base N qual scope f cd A outer s H E).A (zr (CX1 P w) P w K mg base N qual scope f cd A outer s H E).env (zr (CX1 P w) P w K mg base N qual scope f cd A outer s H E).xe:=PassesOwn.leaving
end
noncomputable def Zl (env:Env):List (Str×NameKind)→List (Str×Addr)→List (Str×Addr)
 | [],cs=>cs
 |(n,k)::r,cs=>if k==.free then(match env.cells.lookup n with|some a=>Zl env r ((n,a)::cs)|none=>Zl env r cs) else Zl env r cs
noncomputable abbrev JR (scope:Scope)(env:Env):List (Str×Addr):=Zl env scope.names []
theorem QS {env:Env}:∀{ns:List (Str×NameKind)} {cs:List (Str×Addr)},(∀n a,(n,a)∈cs→env.cells.lookup n=some a)→∀n a,(n,a)∈Zl env ns cs→env.cells.lookup n=some a
 | [],_,h=>h
 |(m,k)::r,cs,h=>by
  unfold Zl
  split
  ·split
   ·rename_i a e
    exact QS fun n b hb=>by
     rcases xt.mp hb with z|z
     ·cases z;exact e
     ·exact h n b z
   ·exact QS h
  ·exact QS h
theorem QP {env:Env}:∀{ns:List (Str×NameKind)} {cs:List (Str×Addr)} {p:Str×Addr},p∈cs→p∈Zl env ns cs
 | [],_,_,h=>h
 |(m,k)::r,cs,p,h=>by
  unfold Zl
  split
  ·split
   ·exact QP (.tail _ h)
   ·exact QP h
  ·exact QP h
theorem Qd {env:Env}{n:Str}{a:Addr}(e:env.cells.lookup n=some a):∀{ns:List (Str×NameKind)} {cs:List (Str×Addr)},(n,NameKind.free)∈ns→(n,a)∈Zl env ns cs
 |(m,k)::r,cs,h=>by
  unfold Zl
  rcases xt.mp h with z|z
  ·cases z
   rw[if_pos (by rfl),e]
   exact QP (.head _)
  ·split
   ·split
    ·exact Qd e z
    ·exact Qd e z
   ·exact Qd e z
theorem Ql {α:Type}{n:Str}:∀{l:List (Str×α)} {a:α},(n,a)∈l→∃b,l.lookup n=some b
 |(m,c)::r,a,h=>by
  cases e:(n==m) with
  |true=>exact⟨c,by rw[yw,e]⟩
  |false =>
   rcases xt.mp h with z|z
   ·cases z
    rw[beq_self_eq_true]at e;cases e
   ·obtain⟨b,hb⟩:=Ql z
    exact⟨b,by rw[yw,e];exact hb⟩
theorem ZQ {scope:Scope}{env:Env}{n:Str}{c:Addr}(h:(JR scope env).lookup n=some c):env.cells.lookup n=some c :=
 QS (cs:=[]) (by intro _ _ z;cases z) n c (PySem.mem_of_lookup h)
theorem J8 {scope:Scope}{env:Env}(h:∀y∈scope.names,y.2=.free→∃c,env.cells.lookup y.1=some c):closureFor scope env=pure (JR scope env):=by
 have all:∀(ns:List (Str×NameKind)) (cs:List (Str×Addr)),(∀y∈ns,y.2=.free→∃c,env.cells.lookup y.1=some c) →
   (forIn ns cs fun(x:Str×NameKind) (r:List (Str×Addr))=>(match x with|(name,kind)=>if (kind==NameKind.free)=true then(do let c ←cellOf env name;pure (ForInStep.yield ((name,c)::r))) else pure (ForInStep.yield r):Sem (ForInStep (List (Str×Addr)))))=pure (Zl env ns cs):=by
  intro ns
  induction ns with
  |nil=>intro cs _;rfl
  |cons y r ih =>
   intro cs h
   obtain⟨n,k⟩:=y
   rw[vt]
   have hr:∀y∈r,y.2=.free→∃c,env.cells.lookup y.1=some c:=fun y hy=>h y (.tail _ hy)
   by_cases hk:(k==NameKind.free)=true
   ·obtain⟨c,hc⟩:=h (n,k) (.head _) (beq_iff_eq.mp hk)
    have hc':env.cells.lookup n=some c:=hc
    have e1:cellOf env n=pure c:=by unfold cellOf;rw[hc']
    simp only[hk,if_true,e1,pure_bind]
    rw[ih _ hr]
    conv=>rhs;unfold Zl
    rw[if_pos hk,hc']
   ·simp only[hk,if_false,pure_bind,Bool.false_eq_true]
    rw[ih _ hr]
    conv=>rhs;unfold Zl
    rw[if_neg hk]
 have:=all scope.names [] h
 unfold closureFor
 first
  |exact this
  |(simp only[bind_pure];exact this)
  |simpa using this
noncomputable def Cx.comp (X:Cx)(scope:Scope)(C:Addr)(N':List Str)(s:Shared)(H:Hp)(fp:List Addr):Cx where
 prog:=X.prog
 w:=X.w
 K:=X.K
 mg:=X.mg
 base:=X.base
 A:=X.A
 N:=N'
 s₀:=s
 H₀:=H
 env:=compEnvC scope (JR scope X.env) C X.env
 outer:=X.stack
 stack:=X.stack
 ex:=fp
 fn:=fun _=>false
 calm:=X.calm
 pn:=[]
 xe:=fun _ _=>False
noncomputable def jJ (lv:Nat)(caps:List Nat)(σ:St):St:=wA lv none++caps.map fun j=>(σ[j]?).join
noncomputable def ZL (J:It)(g:TG)(te:TE)(σ0:St)(Q:VK)(H1:Hp):Prop:=∀D,H1 D=none→∃W:Nat→Nat→List V→Hp→Prop,(∃m,W 0 m [] (upd H1 D (.lst []))) ∧
 ∀i m ys H,W i m ys H→H D=some (.lst ys)∧ys.length<sizeLine∧((J.stop i H∧Q (.ref D) H)∨(J.go i H∧∀x H',J.yld i H x H'→g x σ0 H' fun σ2 H2=>te σ2 H2 fun v H3=>H3 D=some (.lst ys) ∧
  ∃m',m'<m∧W (i+1) m' (ys++[v]) (upd H3 D (.lst (ys++[v])))))
noncomputable def zfS (wi:TI)(g:TG)(te:TE)(lv:Nat)(caps:List Nat):TE:=fun σ H Q=>wi σ H fun J H1=>ZL J g te (jJ lv caps σ) Q H1
structure zW (X:Cx)(scope:Scope)(lv:Nat)(caps:List Nat)(N':List Str):Prop where
 kind:scope.kind=.function
 cell:∀y∈scope.names,y.2≠.cell
 free:∀y∈scope.names,y.2=.free→X.env.kindOf y.1=some .cell∨X.env.kindOf y.1=some .free
 loc:∀y∈scope.names,y.2=.local→scope.names.lookup y.1=some .local
 len:N'.length=lv+caps.length
 cap:∀(p:Nat) (j:Nat),caps[p]? = some j→∃x,N'[lv+p]? = some x∧X.N[j]? = some x∧scope.names.lookup x=some .free
section
variable {X:Cx}{pins:List (Addr×Obj)}{σ:St}{H:Hp}{s:Shared}
theorem YN {scope:Scope}{env:Env}{x:Str}{k:NameKind}(h:(relabel scope env).names.lookup x=some k)(hc:∀y∈scope.names,y.2≠.cell)(hk:k=.cell∨k=.free):(x,NameKind.free)∈scope.names:=by
 have hm:=PySem.mem_of_lookup h
 obtain⟨⟨n,k'⟩,h1,h2⟩:=xI.mp hm
 dsimp only at h2
 split at h2
 ·rename_i hif
  cases h2
  have:k'=.free:=by
   simp only[yq,beq_iff_eq]at hif
   exact hif.1.1
  subst this
  exact h1
 ·cases h2
  rcases hk with rfl|rfl
  ·exact absurd rfl (hc _ h1)
  ·exact h1
theorem Ze {env:Env}:∀{names:List (Str×NameKind)} {x:Str},names.lookup x=some .free →
  (names.map fun(n,k)=>if (k==NameKind.free&&env.scope.kind==.function&&env.kindOf n==some .cell) then(n,NameKind.cell) else(n,k)).lookup x=some .free ∨
  (names.map fun(n,k)=>if (k==NameKind.free&&env.scope.kind==.function&&env.kindOf n==some .cell) then(n,NameKind.cell) else(n,k)).lookup x=some .cell
 | [],_,h=>by simp at h
 |(n,k)::r,x,h=>by
  have ih:=@Ze env r x
  rw[xW]
  dsimp only
  cases e:(x==n) with
  |true =>
   rw[yw,e]at h
   have hk:k=.free:=Option.some.inj h
   subst hk
   split
   ·exact .inr (by rw[yw,e])
   ·exact .inl (by rw[yw,e])
  |false =>
   rw[yw,e]at h
   split
   ·rw[yw,e];exact ih h
   ·rw[yw,e];exact ih h
theorem Qc {scope:Scope}{lv:Nat}{caps:List Nat}{N':List Str}{fp:List Addr}{h₁:Heap}(ok:zW X scope lv caps N')(I:Inv X pins σ H s)(hf:∀b∈fp,jG X pins H b)
  (hns:h₁.Ns s.heap.objs.size fun _=>none) (hk:∀b o,s.heap.get? b=some o→h₁.get? b=some o) (hfp:∀b∈fp,b<s.heap.objs.size) (t':Nat) :
  Inv (X.comp scope s.heap.objs.size N' s H fp) [] (jJ lv caps σ) H {s with heap:=h₁,toks:=t'}:=by
 have ne:∀{b:Addr} {o:Obj},s.heap.get? b=some o→b≠s.heap.objs.size:=fun e=>xz (xp e)
 refine⟨⟨I.ok.mod,ok.kind,I.ok.glob,I.ok.blt,xr _,fun x y c h1 h2=>I.ok.inj x y c (ZQ h1) (ZQ h2),fun x hx=>?_,(fun x c h=>nomatch h),I.ok.hd,I.ok.frames,.inl rfl,fun b hb=>⟨xz (hfp b hb),fun x c e=>(hf b hb).2.2.2.2.1 x c (ZQ e)⟩,
  I.bs,x6 I.ok.bsz I.sz,fun b o e hb=>?_,fun b hb hfs=>?_,I.stack,I.stkFree⟩,rfl,I.bare,Un.kept hk,⟨_,hns,fun i x v h1 h2 h3=>?_⟩,fun x c e=>?_,I.fresh,fun x c e=>I.freeC x c (ZQ e),fun p hp=>absurd (show p∈([]:List (Addr×Obj)) from hp) (by simp),I.hok.kept hk,?_⟩
 ·have hm:(x,NameKind.free)∈scope.names:=by
   rcases hx with hx|hx
   ·exact YN hx ok.cell (.inl rfl)
   ·exact YN hx ok.cell (.inr rfl)
  obtain⟨c,hc⟩:=I.ok.has x (ok.free _ hm rfl)
  exact Ql (Qd hc hm)
 ·rcases(hf b hb).2.2.2.1 with z|z
  ·exact I.ok.noex b o e z
  ·exact absurd (xy (xp (I.ok.bs b o e).1) z) (yd _)
 ·rcases xt.mp (I.stkSub b hfs)with z|z
  ·exact(hf b hb).2.1 z
  ·exact(hf b hb).2.2.1 z
 ·unfold jJ at h2
  rcases yy i lv with hi|hi
  ·rw[yt (by simpa using hi),uM hi]at h2
   cases h2
  ·rw[ue (by simpa using hi),uy,xK]at h2
   cases hj:caps[i - lv]? with
   |none=>rw[hj]at h2;cases h2
   |some j =>
    rw[hj]at h2
    have h2':(σ[j]?).join=some v:=Option.some.inj h2
    obtain⟨x',e1,e2,e3⟩:=ok.cap (i - lv) j hj
    rw[show lv+(i - lv)=i by omega]at e1
    have h1':N'[i]? = some x:=h1
    rw[h1']at e1;cases e1
    have hσ:σ[j]? = some (some v):=by
     cases q:σ[j]? with
     |none=>rw[q]at h2';cases h2'
     |some o=>rw[q]at h2';cases o with
      |none=>cases h2'
      |some v'=>have:some v'=some v:=h2';cases this;rfl
    have hk':=ok.free (x,.free) (PySem.mem_of_lookup e3) rfl
    obtain⟨m,_,hl⟩:=I.loc
    have hv:Vis X.env.scope x:=by rcases hk' with z|z;exact .inr (.inl z);exact .inr (.inr z)
    obtain⟨u,r,l⟩:=hl j x v e2 hσ hv
    refine⟨u,r,.inr ⟨?_,?_⟩⟩
    ·exact(Ze (env:=X.env) e3).symm
    ·rcases l with⟨k,_⟩|⟨k,c,e,o,ho,hd⟩
     ·rcases hk' with z|z
      ·rw[k]at z;cases z
      ·rw[k]at z;cases z
     ·obtain⟨c',hc'⟩:=Ql (Qd (cs:=[]) e (PySem.mem_of_lookup e3))
      have:=ZQ (scope:=scope) (env:=X.env) hc'
      rw[e]at this;cases this
      exact⟨c,hc',o,hk c o ho,hd⟩
 ·obtain⟨v,o,ho,hd⟩:=I.cell x c (ZQ e)
  exact⟨v,o,hk c o ho,hd⟩
 ·show(jJ lv caps σ).length=N'.length
  unfold jJ
  rw[xw,uy,xa,ok.len]
noncomputable def zfR (σ σ2:St):Prop:=∀(j:Nat) v,σ[j]? = some (some v)→σ2[j]? = some (some v)
noncomputable def J6 (g:TG)(lv:Nat)(caps:List Nat):Prop:=∀(σ:St) (y:V) (H':Hp) (Q:St→Hp→Prop),g y (jJ lv caps σ) H' Q→g y (jJ lv caps σ) H' fun σ2 H2=>Q σ2 H2∧zfR (jJ lv caps σ) σ2
theorem Ym {lv:Nat}{caps:List Nat}{σ σ2:St}{i:Nat}{y:V}(hi:i<lv)(h:zfR (jJ lv caps σ) σ2):zfR (jJ lv caps σ) (σ2.set i (some y)):=by
 intro j v e
 by_cases hj:i=j
 ·subst hj
  unfold jJ at e
  rw[yt (by simpa using hi),uM hi]at e
  cases e
 ·rw[yS hj]
  exact h j v e
theorem zZ {i lv:Nat}{caps:List Nat}(hi:i<lv):J6 (Qi i) lv caps:=fun _ _ _ _ q=>⟨q,Ym hi fun _ _ e=>e⟩
theorem zdF {K:xb}{i k lv n:Nat}{caps:List Nat}(hi:i<lv)(hk:k<lv):J6 (zjK K n (zgj (Qi i) (zgj (Qi k) zlK))) lv caps:=by
 rintro σ y H' Q ⟨a,xs,e1,hq,hl,v,r,e2,v',r',e3,e4,q⟩
 exact⟨a,xs,e1,hq,hl,v,r,e2,v',r',e3,e4,q,Ym hk (Ym hi fun _ _ e=>e)⟩
theorem Z1 {prog:Program}{w:World}{A:Around}{s:Shared}{elt tg iter:Expr}{scope:Scope}{pos:Pos}{it acc:Value}{env:Env}{R:Result→Shared→Prop}(J:Nat→Shared→Prop)
  (turn:∀n s,J n s→wpAny (model prog w) A (pyNext it) (fun r s1=>match r with
   |none=>R (.ok .next) s1
   |some v=>wpAny (model prog w) A (letOwnedTupleGo tg it v) (fun _ s2=>wpAny (model prog w) A (assign tg env v) (fun _ s3=>wpAny (model prog w) A (eval elt env) (fun x s4 =>
     wpAny (model prog w) A (call (.builtin "list.append") [acc,x]) (fun _ s5=>∃m,m<n∧J m s5) (notedBy (model prog w) A env fun e s'=>R (.error e) s') s4) (notedBy (model prog w) A env fun e s'=>R (.error e) s') s3)
     (notedBy (model prog w) A env fun e s'=>R (.error e) s') s2) (notedBy (model prog w) A env fun e s'=>R (.error e) s') s1) (notedBy (model prog w) A env fun e s'=>R (.error e) s') s)
  (n:Nat) (h:J n s):codeAny (model prog w) A (.compLoop (.ListComp elt [⟨tg,iter,[],0⟩] scope pos) 0 it acc env) R s:=by
 refine codeAny_loop rfl J (fun n s hJ=>?_) n h
 show wpAny _ A ((compTurn (.ListComp elt [⟨tg,iter,[],0⟩] scope pos) 0 it acc env).onRaise (fun x=>do noteFrame x env;theTreesLotGoes x)) _ _ s
 refine wpAny_noted ?_;rw[compTurn_list]
 refine wpAny_bind (wpAny_standAt (wpAny_bind (wpAny_mono (turn n s hJ) (fun r s1 h1=>?_) fun _ _ z=>z)))
 match r,h1 with
 |none,h1=>exact wpAny_pure h1
 |some v,h1 =>
  refine wpAny_bind (wpAny_mono h1 (fun _ s2 h2=>?_) fun _ _ z=>z)
  refine wpAny_bind (wpAny_mono h2 (fun _ s3 h3=>wpAny_bind (wpAny_mono (wpAny_tests_nil (Q:=fun ok q=>ok=true∧q=s3) ⟨rfl,rfl⟩) (fun ok q hq=>?_) fun _ _ z=>z)) fun _ _ z=>z)
  obtain⟨e1,e2⟩:=hq
  subst e1 e2
  exact wpAny_bind (wpAny_bind (wpAny_mono h3 (fun x s4 h4=>wpAny_bind (wpAny_mono h4 (fun _ s5 h5=>wpAny_pure (wpAny_pure ⟨rfl,h5⟩)) fun _ _ z=>z)) fun _ _ z=>z))
theorem zhn {elt iter:Expr}{tg:Expr}{pos:Pos}{scope:Scope}{g:TG}{te:TE}{lv:Nat}{caps:List Nat}{N':List Str}{fp:List Addr}{it D C:Addr}{tn:Nat→Heap→Prop}{J:It}{H3:Hp}{s3 s4:Shared}{Q:VK}{W:Nat→Nat→List V→Hp→Prop}{m0:Nat}
  (hc:X.calm=true) (T:Qs X.prog X.w X.K tg J fp it tn) (hC:s3.heap.objs.size≤C) (I3:Inv X pins σ H3 s3) (f3:∀b∈fp,jG X pins H3 b) (hCf:∀b∈fp,b≠C) (I4:Inv (X.comp scope C N' s3 H3 fp) [] (jJ lv caps σ) H3 s4) (st4:tn 0 s4.heap) (w0:W 0 m0 [] H3)
  (turn:∀i m ys H,W i m ys H→H D=some (.lst ys)∧ys.length<sizeLine∧((J.stop i H∧Q (.ref D) H)∨(J.go i H∧∀x H',J.yld i H x H'→g x (jJ lv caps σ) H' fun σ2 H2=>te σ2 H2 fun v H3=>H3 D=some (.lst ys) ∧
   ∃m',m'<m∧W (i+1) m' (ys++[v]) (upd H3 D (.lst (ys++[v]))))))
  (hgk:J6 g lv caps) (hg:PG (X.comp scope C N' s3 H3 fp) tg g) (he:PE (X.comp scope C N' s3 H3 fp) elt te) :
  codeAny (model X.prog X.w) X.A (.compLoop (.ListComp elt [⟨tg,iter,[],0⟩] scope pos) 0 (.ref it) (.ref D) (compEnvC scope (JR scope X.env) C X.env))
   (compPost (model X.prog X.w) X.A X.xe none (EP X pins σ Q) (.ref D) C) s4:=by
 have stat:∀{H':Hp},(∀b∈fp,H' b=none)→∀b∈fp,jG (X.comp scope C N' s3 H3 fp) [] H' b:=fun {H'} hn b hb =>
  ⟨hn b hb,hCf b hb,fun z=>I4.ok.exfs b hb z,.inl hb,fun y c e=>(I4.ok.exf b hb).2 y c e,fun p hp=>absurd (show p∈([]:List (Addr×Obj)) from hp) (by simp)⟩
 refine Z1 (fun n s'=>∃i ys H',Inv (X.comp scope C N' s3 H3 fp) [] (jJ lv caps σ) H' s'∧tn i s'.heap∧(∀b∈fp,H' b=none)∧W i n ys H') ?_ m0 ⟨0,[],_,I4,st4,fun b hb=>(f3 b hb).1,w0⟩
 rintro n s5 ⟨i,ys,H5,I5,st5,fr5,w5⟩
 obtain⟨hD,hlen,hcase⟩:=turn i n ys H5 w5
 rcases hcase with⟨stop,q⟩|⟨go,step⟩
 ·refine thn (T.done (X.comp scope C N' s3 H3 fp) rfl rfl rfl hc i [] s5 _ H5 _ I5 (stat fr5) st5 stop) fun r s6 hr=>?_
  obtain⟨hr,I6⟩:=hr
  subst hr
  obtain⟨m,hn,_⟩:=I6.loc
  refine⟨m,hn,fun h' hs'=>?_⟩
  have ub:=I6.base
  have neC:∀b o,s3.heap.get? b=some o→b≠C:=fun b o q=>xz (xy (xp q) hC)
  refine⟨.ref D,H5,I3.call' (ch:=fp) (s':={s6 with heap:=h'}) I6.os ⟨fun b o q n hb hx=>(hs'.2 b (neC b o q)).trans (ub.keep b o q n hb hx),fun b o q n hb hx=>?_,ub.free,fun b o q hx=>?_,ub.tups,ub.frzs,ub.tbls⟩ ?_ I6.bare (fun b hb=>?_),rfl,q⟩
  ·obtain⟨sl,e⟩:=ub.slot b o q n hb hx
   exact⟨sl,(hs'.2 b (neC b o q)).trans e⟩
  ·obtain⟨o',e⟩:=ub.there b o q hx
   exact⟨o',(hs'.2 b (neC b o q)).trans e⟩
  ·intro b o q
   refine(I6.hok b o q).stay (fun c u hc' q'=>(hs'.2 c ?_).trans q') (fun _ z=>z) fun _ _ z=>z
   intro ec
   have fC:H5 C=none:=I6.free
   rcases hc' with z|z
   ·rw[←z,ec,fC]at q;cases q
   ·rw[ec,fC]at z;cases z
  ·obtain⟨_,y1,_,y3,y4,y5⟩:=f3 b hb
   exact⟨y3,y1,y4,y5⟩
 ·refine thn (T.item (X.comp scope C N' s3 H3 fp) rfl rfl rfl hc i [] s5 _ H5 _ I5 (stat fr5) st5 go) fun r s6 hr=>?_
  obtain⟨u,hr,h6⟩:=hr
  subst hr
  refine thn h6 fun _ s7 h7=>?_
  obtain⟨y,H7,I7,r7,y7,st7,fr7⟩:=h7
  have I7':=I7.pinned (stat fr7) (T.obj _ _ st7)
  refine wpAny_mono (hg _ s7 _ H7 y u _ I7' r7 (hgk σ y H7 _ (step y H7 y7))) (fun _ s8 h8=>?_) (fun _ _ z=>z.elim)
  obtain⟨σ8,H8,I8,q8,ks⟩:=h8
  refine wpAny_mono (he _ s8 σ8 H8 _ I8 q8) (fun v s9 h9=>?_) (fun _ _ z=>z.elim)
  obtain⟨z9,H9,I9,r9,hD9,m',hm',w9⟩:=h9
  refine wpAny_mono (jT (X:=X.comp scope C N' s3 H3 fp) _ s9 σ8 H9 (.ref D) [z9] (.ref D) [v] (fun _ H'=>H'=upd H9 D (.lst (ys++[z9]))) I9 rfl (.cons r9 .nil) ⟨D,ys,z9,rfl,rfl,hD9,hlen,rfl⟩) (fun _ s10 h10=>?_) (fun _ _ z=>z.elim)
  obtain⟨_,H10,I10,_,rfl⟩:=h10
  refine⟨m',hm',i+1,ys++[z9],_,I10.unpinned.weak ?_ ?_,T.keep _ _ _ st7 fun b hb o e=>(I10.pin (b,o) (xu _ (xu _ (jA hb e)))).1,fun b hb=>?_,w9⟩
  ·rw[I10.len];exact I4.len
  ·exact ks
  ·obtain⟨o,e,d⟩:=T.obj _ _ st7 b hb
   exact(I10.pin (b,o) (xu _ (xu _ (jA hb e)))).2.1
theorem Jj {elt iter:Expr}{tg:Expr}{pos:Pos}{scope:Scope}{wi:TI}{g:TG}{te:TE}{lv:Nat}{caps:List Nat}{N':List Str}(hc:X.calm=true)(ok:zW X scope lv caps N')(hgk:J6 g lv caps)(hi:PI X tg iter wi)
  (hg:∀C s H fp,PG (X.comp scope C N' s H fp) tg g) (he:∀C s H fp,PE (X.comp scope C N' s H fp) elt te) (hs:∀y,foldedSetIterable iter X.env y=pure y:=by intro _;rfl) :
  PE X (.ListComp elt [⟨tg,iter,[],0⟩] scope pos) (zfS wi g te lv caps):=by
 intro pins s σ H Q I h
 rw[eval_ListComp]
 refine wpAny_comprehension_free (use:=none) rfl hs (J8 fun y hy hk=>I.ok.has y.1 (ok.free y hy hk)) ok.kind ok.loc (thn (hi pins s σ H _ I h) fun v s1 h1=>thn h1 fun itv s2 h2=>?_)
 obtain⟨it,fp,tn,J,H2,e,I2,T,st2,f2,hW⟩:=h2
 subst e
 have fpl:∀b∈fp,b<s2.heap.objs.size:=fun b hb=>by obtain⟨o,e,_⟩:=T.obj 0 _ st2 b hb;exact xp e
 refine wpAny_newObj_type ?_
 have I3:Inv X pins σ (upd H2 s2.heap.objs.size (.lst [])) {s2 with heap:=s2.heap.push {cls:=.type "list",data:=.seq ([]:List Value).toArray},toks:=s2.toks}:=I2.lnew (its:=[]) .nil (xV _)
 obtain⟨W,⟨m0,w0⟩,turn⟩:=hW s2.heap.objs.size I2.fresh
 refine wpAny_newFunctionEnv ok.cell (by intro y hy;simp at hy) (fun h₁ hns₁ hsb₁=>?_) ok.kind
 have hk3:∀b o,(s2.heap.push {cls:=.type "list",data:=.seq ([]:List Value).toArray}).get? b=some o→h₁.get? b=some o:=fun b o q =>
  (hsb₁.2 b (xz (xp q))).trans (xg _ q)
 have f3:∀b∈fp,jG X pins (upd H2 s2.heap.objs.size (.lst [])) b:=fun b hb=>by
  obtain⟨n,r⟩:=f2 b hb
  exact⟨by rw[zC (xz (fpl b hb))];exact n,r⟩
 have fpl3:∀b∈fp,b<(s2.heap.push {cls:=.type "list",data:=.seq ([]:List Value).toArray}).objs.size:=fun b hb=>by rw[yi];exact ym (fpl b hb)
 have I4:=Qc ok I3 f3 hns₁ hk3 fpl3 (s2.toks+0)
 have st4:tn 0 h₁:=T.keep _ _ _ st2 fun b hb o q=>hk3 b o (xg _ q)
 have loop:=zhn (elt:=elt) (iter:=iter) (pos:=pos) (s4:={s2 with heap:=h₁,toks:=s2.toks+0}) hc T (xr _) I3 f3 (fun b hb=>xz (fpl3 b hb)) I4 st4 w0 turn hgk (hg _ _ _ _) (he _ _ _ _)
 exact codeAny_compStart_list loop (T.self _ 0 _ _ _ st4 loop)
end
section
variable {X:Cx}
theorem zeq:ja X (.builtin "sorted") (fun xs H Q=>∃p,∃ns:List Int,xs=[.ref p]∧SqL X.K H p (ns.map V.int)∧ns.length<64 ∧
  ∀l (ns':List Int),H l=none→ns'.Perm ns→ns'.Pairwise (·≤·)→Q (.ref l) (upd H l (.lst (ns'.map V.int)))):=by
 intro pins s σ H xs us Q I r h
 obtain⟨p,ns,rfl,hq,h64,q⟩:=h
 obtain⟨u,rfl,rx⟩:=qm r
 cases rx
 obtain⟨its,rv,pl,hz⟩:=I.list hq
 have hI:=JB rv
 have hlen:its.length=ns.length:=by rw[←rv.length,xa]
 refine sorted_ints pl.isList hI (by omega) fun out ns' a1 a2 a3=>?_
 obtain⟨e,he⟩:=sortedAll_at s.heap its out
 have hl:s.heap.objs.size≤s.heap.objs.size+1:=wj _
 refine⟨.ref (s.heap.objs.size+1),_,I.laid (t':=s.toks) (o:=.lst (ns'.map V.int)) (fun b o z=>sortedAll_old z) hl ?_,rfl,q _ ns' (I.hok.fresh hl) a2 a3⟩
 have e2:out=out.toList.toArray:=by simp
 refine⟨?_,out.toList,e,YL a1,by rw[←e2];exact he⟩
 rw[xa,a2.length_eq,←hlen]
 have:=YD
 have h2:(64:Nat)≤sizeLine:=by decide
 omega
theorem zim (hc:X.calm=true):ja X (.builtin "min") (fun xs H Q=>∃p,∃ns:List Int,xs=[.ref p]∧SqL X.K H p (ns.map V.int)∧ns≠[]∧∀m,m∈ns→(∀a∈ns,m≤a)→Q (.int m) H):=by
 intro pins s σ H xs us Q I r h
 obtain⟨p,ns,rfl,hq,hne,q⟩:=h
 obtain⟨u,rfl,rx⟩:=qm r
 cases rx
 obtain⟨its,rv,pl,hz⟩:=I.list hq
 have hI:=JB rv
 obtain⟨xs,e⟩:=hI.allInts.items
 have hns:ns=xs.toList.map (·.1):=by rw[←hI.numsOf,←nums_intItems,←e]
 have hsz:0<xs.size:=by
  have h3:0<ns.length:=uR.mpr hne
  rw[hns,xa,xP]at h3;exact h3
 have hl:=pl.isList
 rw[e]at hl
 refine min_intList (I.ok.hd hc) hl hsz fun v h' tk hv hk=>?_
 obtain⟨t,rfl⟩:=intItems_at hv
 obtain⟨h1,h2⟩:=argBest_lt (numAt xs) (xs.size - 1)
 refine⟨.int _,H,I.kept hk,⟨t,rfl⟩,q _ ?_ fun a ha=>?_⟩
 ·rw[hns,numAt_eq];exact PySem.getD_mem (by rw[xa,xP];omega)
 ·rw[hns]at ha
  obtain⟨j,hj,rfl⟩:=mem_getD ha
  rw[xa,xP]at hj
  rw[←numAt_eq];exact h2 j (by omega)
theorem zcl (hc:X.calm=true):ja X (.builtin "max") (fun xs H Q=>∃p,∃ns:List Int,xs=[.ref p]∧SqL X.K H p (ns.map V.int)∧ns≠[]∧∀m,m∈ns→(∀a∈ns,a≤m)→Q (.int m) H):=by
 intro pins s σ H xs us Q I r h
 obtain⟨p,ns,rfl,hq,hne,q⟩:=h
 obtain⟨u,rfl,rx⟩:=qm r
 cases rx
 obtain⟨its,rv,pl,hz⟩:=I.list hq
 have hI:=JB rv
 obtain⟨xs,e⟩:=hI.allInts.items
 have hns:ns=xs.toList.map (·.1):=by rw[←hI.numsOf,←nums_intItems,←e]
 have hsz:0<xs.size:=by
  have h3:0<ns.length:=uR.mpr hne
  rw[hns,xa,xP]at h3;exact h3
 have hl:=pl.isList
 rw[e]at hl
 refine max_intList (I.ok.hd hc) hl hsz fun v h' tk hv hk=>?_
 obtain⟨t,rfl⟩:=intItems_at hv
 obtain⟨h1,h2⟩:=argBest_gt (numAt xs) (xs.size - 1)
 refine⟨.int _,H,I.kept hk,⟨t,rfl⟩,q _ ?_ fun a ha=>?_⟩
 ·rw[hns,numAt_eq];exact PySem.getD_mem (by rw[xa,xP];omega)
 ·rw[hns]at ha
  obtain⟨j,hj,rfl⟩:=mem_getD ha
  rw[xa,xP]at hj
  rw[←numAt_eq];exact h2 j (by omega)
mutual
inductive RdD (K:xb)(H:Hp):V→PyData→Prop where
 |non:RdD K H .non .none
 |bl (b:Bool):RdD K H (.bl b) (.bool b)
 |int (i:Int):RdD K H (.int i) (.int i)
 |str (x:Str):RdD K H (.str x) (.str x)
 |lst {a:Addr} {xs:List V} {ds:List PyData}:SqL K H a xs→Qv K H xs ds→RdD K H (.ref a) (.list ds)
 |tup {a:Addr} {xs:List V} {ds:List PyData}:SqT K H a xs→Qv K H xs ds→RdD K H (.ref a) (.tuple ds)
inductive Qv (K:xb)(H:Hp):List V→List PyData→Prop where
 |nil:Qv K H [] []
 |cons {x:V} {d:PyData} {xs:List V} {ds:List PyData}:RdD K H x d→Qv K H xs ds→Qv K H (x::xs) (d::ds)
end
theorem Qv.ints {K:xb}{H:Hp}:∀ns:List Int,Qv K H (ns.map V.int) (ns.map PyData.int)
 | []=>.nil
 |_::r=>.cons (.int _) (Qv.ints r)
mutual
theorem ZV {pins:List (Addr×Obj)}{σ:St}{H:Hp}{s:Shared}(I:Inv X pins σ H s):∀{x:V} {d:PyData} {u:Value},RdD X.K H x d→zU x u→∃as,Reads s.heap u d as
 |_,_,_,.non,r=>by cases r;exact⟨_,.none⟩
 |_,_,_,.bl b,r=>by cases r;exact⟨_,.bool b⟩
 |_,_,_,.int i,r=>by obtain⟨t,rfl⟩:=r;exact⟨_,.int i t⟩
 |_,_,_,.str x,r=>by obtain⟨t,rfl⟩:=r;exact⟨_,.str x t⟩
 |_,_,_,.lst hq hs,r=>by
  cases r
  obtain⟨its,rv,pl,_⟩:=I.list hq
  obtain⟨o,ho,hc,n,hd⟩:=pl.isList
  obtain⟨as,h⟩:=Yk I hs rv
  exact⟨_,.list ho hc hd (by simpa using h)⟩
 |_,_,_,.tup hq hs,r=>by
  cases r
  obtain⟨its,rv,⟨o,ho,hc,n,hd⟩,_⟩:=I.tuple hq
  obtain⟨as,h⟩:=Yk I hs rv
  exact⟨_,.tuple ho hc hd (by simpa using h)⟩
theorem Yk {pins:List (Addr×Obj)}{σ:St}{H:Hp}{s:Shared}(I:Inv X pins σ H s):∀{xs:List V} {ds:List PyData} {us:List Value},Qv X.K H xs ds→zH xs us→∃as,ReadsAll s.heap us ds as
 |_,_,_,.nil,.nil=>⟨_,.nil⟩
 |_,_,_,.cons h t,.cons r q=>by
  obtain⟨as,h1⟩:=ZV I h r
  obtain⟨bs,h2⟩:=Yk I t q
  exact⟨_,.cons h1 h2⟩
end
inductive ziW (K:xb)(x y:V)(H:Hp)(Q:VK):Prop
 |mk (d e:PyData) (rx:RdD K H x d) (ry:RdD K H y e) (sd:SeqAt.shaped d=true) (se:SeqAt.shaped e=true) (q:Q (.bl (PyData.eqv d e)) H):ziW K x y H Q
inductive zjN (K:xb)(x y:V)(H:Hp)(Q:VK):Prop
 |mk (d e:PyData) (rx:RdD K H x d) (ry:RdD K H y e) (sd:SeqAt.shaped d=true) (se:SeqAt.shaped e=true) (q:Q (.bl (!PyData.eqv d e)) H):zjN K x y H Q
theorem zl2 (hu:X.A.units+64<cLine):OpR X (compareOp .Eq) (ziW X.K):=by
 intro pins s σ H x y v u Q I rx ry h
 obtain⟨d,e,hd,he,s1,s2,q⟩:=h
 obtain⟨as,r1⟩:=ZV I hd rx
 obtain⟨bs,r2⟩:=ZV I he ry
 exact eq_dataH r1 r2 s1 s2 hu ⟨.bl _,H,I,rfl,q⟩
theorem zlv (hu:X.A.units+64<cLine):OpR X (compareOp .NotEq) (zjN X.K):=by
 intro pins s σ H x y v u Q I rx ry h
 obtain⟨d,e,hd,he,s1,s2,q⟩:=h
 obtain⟨as,r1⟩:=ZV I hd rx
 obtain⟨bs,r2⟩:=ZV I he ry
 exact ne_dataH r1 r2 s1 s2 hu ⟨.bl _,H,I,rfl,q⟩
end
inductive Sp1 (f:V→Hp→VK→XK→Prop)(vs:List V)(H:Hp)(Q:VK)(E:XK):Prop
 |mk (a:V) (e:vs=[a]) (h:f a H Q E):Sp1 f vs H Q E
inductive Sp2 (f:V→V→Hp→VK→XK→Prop)(vs:List V)(H:Hp)(Q:VK)(E:XK):Prop
 |mk (a b:V) (e:vs=[a,b]) (h:f a b H Q E):Sp2 f vs H Q E
inductive Sp3 (f:V→V→V→Hp→VK→XK→Prop)(vs:List V)(H:Hp)(Q:VK)(E:XK):Prop
 |mk (a b c:V) (e:vs=[a,b,c]) (h:f a b c H Q E):Sp3 f vs H Q E
inductive Sp4 (f:V→V→V→V→Hp→VK→XK→Prop)(vs:List V)(H:Hp)(Q:VK)(E:XK):Prop
 |mk (a b c d:V) (e:vs=[a,b,c,d]) (h:f a b c d H Q E):Sp4 f vs H Q E
structure Def (K:xb)(mg:Str→Option Value)(x:Str)(st:Stmt):Prop where
 ex:∃f fd,Fun K x x st f fd∧mg x=some (.ref f)
theorem zB {K:xb}{h:Heap}{mg:Str→Option Value}{x:Str}{st:Stmt}{f:Addr}{oc:Value}{od an:Option Addr}{osl:Array (Option Value)}{kV doc pm cdv ct:Value}(X:K.In h)(G:h.Ns mainGlobals mg)
  (a:xh K mainGlobals x=some (some (.ref f))) (l:K.lookup f=some ⟨oc,od,.func (xn x x (zp st) (zm st) (ze st) .none kV doc pm an cdv ct),osl⟩) (c:xk K cdv x=true) (k:xj K (.ref f)=true):Def K mg x st :=
 ⟨f,_,za9 l c k,x5 X G a⟩
structure FnS (P:Program)(w:World)(K:xb)(mg:Str→Option Value)(base:Heap)(x:Str)(ps:List Str)(k:Nat)(sp:Sp):Prop where
 ex:∃f fd,Jw P w K mg base (CX1 P w) k f fd ps sp∧mg x=some (.ref f)∧xj K (.ref f)=true∧ZP K fd ps []
noncomputable def zq (x:Str)(st:Stmt)(ps:List Str):Prop:=∀(kV doc pm:Value) (an:Option Addr) (cdv ct:Value) (us:List Value),us.length=ps.length→bindArgs (xn x x (zp st) (zm st) (ze st) .none kV doc pm an cdv ct) ⟨us,[]⟩=pure (ps.zip us)
section
variable {P:Program}{w:World}{K:xb}{mg:Str→Option Value}{base:Heap}
theorem Def.ok {x:Str}{st:Stmt}{N ps:List Str}{k:Nat}{sp:Sp}(D:Def K mg x st)(S:zu N ps (ze st))(B:zq x st ps)(len:∀vs H Q E,sp vs H Q E→vs.length=ps.length)
  (hbody:∀(f:Addr) (cdv:Value) (A:Around) (outer:List Env) (s:Shared) (H:Hp) (vs:List V) (Q:VK) (E:XK),jO k (A.deeper (envOfC x (ze st) s.heap.objs.size f cdv))→sp vs H Q E →
   ∃t,PSs (zr (CX1 P w) P w K mg base N x (ze st) f cdv A outer s H E) (zm st) t∧t {nx:=fun _ H'=>Q .non H',rt:=Q} (Zq N vs) H):FnS P w K mg base x ps (k+1) sp:=by
 obtain⟨f,fd,F,hm⟩:=D.ex
 exact⟨f,fd,F.okX S len (hbody f),hm,F.kp,F.binds B⟩
theorem FnS.imp {x:Str}{ps:List Str}{k:Nat}{sp sp':Sp}(F:FnS P w K mg base x ps k sp)(h:∀vs H Q E,sp' vs H Q E→sp vs H Q E):FnS P w K mg base x ps k sp':=by
 obtain⟨f,fd,F,hm,hk,hb⟩:=F.ex
 exact⟨f,fd,F.imp h,hm,hk,hb⟩
theorem jC {f:V→Hp→VK→XK→Prop}{a:Str}:∀vs H Q E,Sp1 f vs H Q E→vs.length=[a].length:=fun _ _ _ _ ⟨_,e,_⟩=>by rw[e];rfl
theorem zS {f:V→V→Hp→VK→XK→Prop}{a b:Str}:∀vs H Q E,Sp2 f vs H Q E→vs.length=[a,b].length:=fun _ _ _ _ ⟨_,_,e,_⟩=>by rw[e];rfl
theorem jY {f:V→V→V→Hp→VK→XK→Prop}{a b c:Str}:∀vs H Q E,Sp3 f vs H Q E→vs.length=[a,b,c].length:=fun _ _ _ _ ⟨_,_,_,e,_⟩=>by rw[e];rfl
theorem zbU {f:V→V→V→V→Hp→VK→XK→Prop}{a b c d:Str}:∀vs H Q E,Sp4 f vs H Q E→vs.length=[a,b,c,d].length:=fun _ _ _ _ ⟨_,_,_,_,e,_⟩=>by rw[e];rfl
end
section
variable {X:Cx}
inductive zlS (G:St→Hp→Prop)(t u:TS)(D:qY)(σ:St)(H:Hp):Prop
 |mk (h1:∀σ' H',G σ' H'→u D σ' H') (h2:t {D with nx:=G} σ H):zlS G t u D σ H
theorem zle {st:Stmt}{rest:List Stmt}{t u:TS}(G:St→Hp→Prop)(h1:PS X st t)(h2:PSs X rest u):PSs X (st::rest) (zlS G t u):=by
 intro pins s σ H D I ⟨hA,hB⟩
 refine wpAny_execs_cons (thn (h1 pins s σ H {D with nx:=G} I hB) fun f s1 q=>?_)
 cases f with
 |next =>
  obtain⟨σ',H',I',q⟩:=q
  exact h2 pins s1 σ' H' D I' (hA σ' H' q)
 |ret v=>exact q
 |brk=>exact q
 |cont=>exact q
theorem zmf {x:Str}{ps:List Str}{k k':Nat}{sp:Sp}{E:XK}{p pos:Pos}{e:Expr}{es:List Expr}{t:TA}(F:FnS X.prog X.w X.K X.mg X.base x ps k' sp)(hr:jO k X.A)(hx:Zy (CX1 X.prog X.w) X E)(ha:PA X (e::es) t)(hkk:k'≤k:=by decide)(hg:Gl X x:=by rfl)
  (hdb:(x==("__debug__":Str))=false:=by decide) (he:starEach (e::es) X.env=(false,eval e X.env)::starEach es X.env:=by rfl) (hpl:(backTo pos (starEach es X.env)).any (·.1)=false:=by rfl) :
  PE X (.Call (.Name x p) (e::es) [] pos) (zgh sp [] E t):=by
 obtain⟨f,fd,F,hm,hk,hb⟩:=F.ex
 exact zkx F (hr.mono hkk) hg hm hk hb .nil hx ha hdb he hpl
theorem zlk {x:Str}{ps:List Str}{k k':Nat}{sp:Sp}{p pos:Pos}{e:Expr}{es:List Expr}{t:TA}(O:Own X)(F:FnS X.prog X.w X.K X.mg X.base x ps k' sp)(hr:jO k X.A)(ha:PA X.nox (e::es) t)(hkk:k'≤k:=by decide)(hg:Gl X x:=by rfl)
  (hdb:(x==("__debug__":Str))=false:=by decide) (he:starEach (e::es) X.env=(false,eval e X.env)::starEach es X.env:=by rfl) (hpl:(backTo pos (starEach es X.env)).any (·.1)=false:=by rfl) :
  PEx X (.Call (.Name x p) (e::es) [] pos) (fun σ H Q E=>t σ H fun vs H1=>sp (vs++[]) H1 Q E):=by
 obtain⟨f,fd,F,hm,hk,hb⟩:=F.ex
 exact zi1 O F (hr.mono hkk) hg hm hk hb .nil ha hdb he hpl
end
section
variable {X:Cx}
theorem Z8 {x:Str}{i:Int}{pos:Pos}(h:∃t,X.mg x=some (.int i t))(hg:Gl X x:=by rfl)(hd:(x==("__debug__":Str))=false:=by decide):PE X (.Name x pos) (tC (.int i)):=by
 obtain⟨t,h⟩:=h
 exact qF hg h ⟨t,rfl⟩ hd
theorem zmk {x:Str}{c:String}{pos:Pos}(hg:Gl X x)(hm:X.mg x=none)(hv:bootBuiltins x=some (.type c))(hn:x≠"__name__":=by decide)(hd:(x==("__debug__":Str))=false:=by decide):PE X (.Name x pos) (tC (.ty c)) :=
 zkN (v:=.ty c) hg hm hv rfl hn hd
noncomputable def zmi (i j:Int):Prop:=(-(2^250)<i∧i<2^250)∧(-(2^250)<j∧j<2^250)
theorem zdu {k:Int}(h1:-(2^250)<k)(h2:k<2^250):Builtin.Int.intBits k≤2^20:=by
 have hn:k.natAbs<2^250:=by
  have e:((2^250:Nat):Int)=2^250:=by norm_cast
  omega
 unfold Builtin.Int.intBits
 split
 ·decide
 ·rename_i hz
  have hk:k.natAbs≠0:=by
   intro z
   exact hz (by simpa using z)
  have:=(vz hk).mpr hn
  have h20:(251:Nat)≤2^20:=by decide
  omega
theorem zeU:OpR X (binaryOp .Mult) (rI zmi fun i j=>.int (i*j)):=opI fun _ _ _ _ _ _ _ hc q=>mul_int q (IntMulOk.of_bits (zdu hc.1.1 hc.1.2) (zdu hc.2.1 hc.2.2))
inductive zc0 (K:xb)(x y:V)(H:Hp)(Q:VK):Prop
 |mk (l b:Addr) (xs zs:List V) (ex:x=.ref l) (ey:y=.ref b) (s:SqL K H l xs) (s':SqL K H b zs) (z:xs.length+zs.length≤sizeLine) (q:∀p,H p=none→Q (.ref p) (upd H p (.lst (xs++zs)))):zc0 K x y H Q
theorem zkP:OpR X (binaryOp .Add) (zc0 X.K):=by
 intro pins s σ H x y v u Q I rx ry h
 obtain⟨l,b,xs,zs,rfl,rfl,hH,hB,hz,q⟩:=h
 cases rx
 cases ry
 obtain⟨its,r,pl,z⟩:=I.list hH
 obtain⟨its2,r2,pl2,z2⟩:=I.list hB
 have l1:=r.length
 have l2:=r2.length
 have fin:EP X pins σ Q (.ref s.heap.objs.size) {s with heap:=s.heap.push {cls:=.type "list",data:=.seq (its++its2).toArray}} :=
  ⟨.ref _,_,I.lnew (t':=s.toks) (r.append r2) (by rw[xw];omega),rfl,q _ I.fresh⟩
 obtain⟨⟨c1,dd,d1,sl⟩,ho,hc,n,hd⟩:=pl.isList
 obtain⟨⟨c2,dd2,d2,sl2⟩,ho2,hc2,n2,hd2⟩:=pl2.isList
 cases hc;cases hc2;cases hd;cases hd2
 refine concat_meets ⟨_,ho,rfl⟩ ⟨_,ho2,rfl⟩ noFill_list_add seq_list_add PySem.F.slot_list_add PySem.F.entry_list_add (PySem.F.args_list_add_2 _ _)
  (list_addW l b its.toArray its2.toArray n n2 dd dd2 sl sl2 (by rw[xC,xC];omega)) ⟨ho,ho2,?_⟩
 have ea:its.toArray++its2.toArray=(its++its2).toArray:=by simp
 rw[ea]
 exact fin
theorem zi6 {N' N:List Str}{scope:Scope}{lv:Nat}:∀(p j:Nat),([]:List Nat)[p]? = some j→∃x,N'[lv+p]? = some x∧N[j]? = some x∧scope.names.lookup x=some .free:=fun p j h=>by simp at h
theorem qj {N' N:List Str}{scope:Scope}{lv a:Nat}{x:Str}(h1:N'[lv]? = some x)(h2:N[a]? = some x)(h3:scope.names.lookup x=some .free) :
  ∀(p j:Nat),([a]:List Nat)[p]? = some j→∃x,N'[lv+p]? = some x∧N[j]? = some x∧scope.names.lookup x=some .free:=fun p j h=>by
 cases p with
 |zero=>have e:a=j:=(by simpa using h);subst e;exact⟨x,h1,h2,h3⟩
 |succ p=>simp at h
theorem QR {N' N:List Str}{scope:Scope}{lv a b:Nat}{x y:Str}(h1:N'[lv]? = some x)(h2:N[a]? = some x)(h3:scope.names.lookup x=some .free)(h4:N'[lv+1]? = some y)(h5:N[b]? = some y)(h6:scope.names.lookup y=some .free) :
  ∀(p j:Nat),([a,b]:List Nat)[p]? = some j→∃x,N'[lv+p]? = some x∧N[j]? = some x∧scope.names.lookup x=some .free:=fun p j h=>by
 match p with
 |0=>have e:a=j:=(by simpa using h);subst e;exact⟨x,h1,h2,h3⟩
 |1=>have e:b=j:=(by simpa using h);subst e;exact⟨y,h4,h5,h6⟩
 |p+2=>simp at h
end
noncomputable def qZ (val:Nat→Int):Nat→Nat→Option Int→Option Int
 |_,0,c=>c
 |i,k+1,c=>qZ val (i+1) k (some (match c with|none=>val i|some m=>if val i<m then val i else m))
section
variable {prog:Program}{w:World}{A:Around}{R:Result→Shared→Prop}{I:Addr}{fp wr:List Addr}{n:Nat}{Pi:Nat→Value→Prop}{St:Nat→Heap→Prop}{S:Addr}{dv:Value}
noncomputable def zaQ (h:Heap)(S:Addr)(c:Option Int):Prop:=∃e,match c with
 |none=>h.get? S=some {cls:=.type "list",dict:=none,data:=.seq #[] e,slots:=#[]}
 |some m=>∃t,h.get? S=some {cls:=.type "list",dict:=none,data:=.seq #[.int m t,.int m t] e,slots:=#[]}
noncomputable def zfe (R:Result→Shared→Prop)(dv:Value)(c:Option Int)(s:Shared):Prop:=match c with
 |none=>R (.ok (.ret dv)) s
 |some m=>∀t,R (.ok (.ret (.int m t))) s
theorem zgd (W:Walks prog w A.in1 I fp wr n Pi St)(val:Nat→Int)(hval:∀i v,Pi i v→∃t,v=.int (val i) t)(hSf:S∉fp):∀(k i:Nat) (s:Shared) (c:Option Int),n - i=k→i≤n→St i s.heap→zaQ s.heap S c →
  (∀h' tk,(∀b o,b∉wr→b≠S→s.heap.get? b=some o→h'.get? b=some o)→zfe R dv (qZ val i k c) {s with heap:=h',toks:=tk}) →
  codeAny (model prog w) A (.builtin "min.loop" ⟨[.ref I,.none,.ref S],[(Str.ofString "default",dv)]⟩) R s:=by
 have hSw:S∉wr:=fun h=>hSf (W.sub _ h)
 have hname:(toString "min"++toString ".loop":String)="min.loop":=by decide
 intro k
 induction k with
 |zero =>
  intro i s c hk hi st hb hR
  have e:i=n:=by omega
  subst e
  obtain⟨ep,hb⟩:=hb
  refine codeAny_builtin F.entry_min_loop ?_
  rw[Around.under_plainId F.plain_min_loop _]
  show wpAny _ A.in1 (seqItems? (.ref S) >>= _) _ _ s
  cases c with
  |none =>
   refine wpAny_bind (wpAny_seqItems hb rfl ?_)
   show wpAny _ A.in1 (tryCatch (pyNext (.ref I)) _ >>= _) _ _ s
   refine wpAny_bind (wpAny_tryCatch (W.done s _ _ st fun h' tk hk'=>?_))
   exact wpAny_bind (wpAny_rule (wpAny_pure (hR h' tk fun b o hw _ q=>hk' b o hw q)))
  |some m =>
   obtain⟨t,hb⟩:=hb
   refine wpAny_bind (wpAny_seqItems hb rfl ?_)
   show wpAny _ A.in1 (tryCatch (pyNext (.ref I)) _ >>= _) _ _ s
   refine wpAny_bind (wpAny_tryCatch (W.done s _ _ st fun h' tk hk'=>?_))
   have hb':=hk' S _ hSw hb
   show wpAny _ A.in1 (updateSeq S (fun _=>#[]) >>= _) _ _ _
   refine wpAny_bind (wpAny_updateSeq hb' rfl (wpAny_bind (wpAny_letGo ?_)))
   exact wpAny_pure (hR _ tk (fun b o hw hS q=>(xT _ _ (Ne.symm hS)).trans (hk' b o hw q)) t)
 |succ k ih =>
  intro i s c hk hi st hb hR
  obtain⟨ep,hb⟩:=hb
  have hlt:i<n:=by omega
  refine codeAny_builtin F.entry_min_loop ?_
  rw[Around.under_plainId F.plain_min_loop _]
  show wpAny _ A.in1 (seqItems? (.ref S) >>= _) _ _ s
  cases c with
  |none =>
   refine wpAny_bind (wpAny_seqItems hb rfl ?_)
   show wpAny _ A.in1 (tryCatch (pyNext (.ref I)) _ >>= _) _ _ s
   refine wpAny_bind (wpAny_tryCatch (W.item i s _ _ hlt st fun v h' tk hP st' hk'=>?_))
   obtain⟨t,rfl⟩:=hval i v hP
   have hb':=hk' S _ hSw hb
   show wpAny _ A.in1 (updateSeq S (fun _=>#[.int (val i) t,.int (val i) t]) >>= _) _ _ _
   refine wpAny_bind (wpAny_updateSeq hb' rfl ?_)
   rw[hname]
   refine wpAny_pure ⟨plainId_quiet F.plain_min_loop _,ih (i+1) _ (some (val i)) (by omega) (by omega) (W.frame _ _ _ st' fun b hbf o q=>?_) ⟨_,t,yk _ hb' rfl⟩ fun h'' tk'' hk''=>?_⟩
   ·exact(xT _ _ (fun z:S=b=>hSf (by rw[z];exact hbf))).trans q
   ·exact hR h'' tk'' fun b o hw hS q=>hk'' b o hw hS ((xT _ _ (Ne.symm hS)).trans (hk' b o hw q))
  |some m =>
   obtain⟨t0,hb⟩:=hb
   refine wpAny_bind (wpAny_seqItems hb rfl ?_)
   show wpAny _ A.in1 (tryCatch (pyNext (.ref I)) _ >>= _) _ _ s
   refine wpAny_bind (wpAny_tryCatch (W.item i s _ _ hlt st fun v h' tk hP st' hk'=>?_))
   obtain⟨t,rfl⟩:=hval i v hP
   have hb':=hk' S _ hSw hb
   have cmp:CmpOf prog w A.in1 .Lt (fun j v=>v=(if j=0 then Value.int (val i) t else Value.int m t0)) (fun a b=>decide ((if a=0 then val i else m)<(if b=0 then val i else m))) :=
    CmpOf.ints_lt (fun j=>if j=0 then val i else m) fun j v e=>by
     by_cases hj:j=0
     ·rw[if_pos hj]at e ⊢;exact⟨t,e⟩
     ·rw[if_neg hj]at e ⊢;exact⟨t0,e⟩
   show wpAny _ A.in1 (tryCatch (holding [.int (val i) t,.int (val i) t] (richCompare .Lt (.int (val i) t) (.int m t0) >>= _)) _ >>= _) _ _ _
   refine wpAny_bind (wpAny_tryCatch (wpAny_holding (wpAny_bind (cmp 0 1 _ _ _ _ _ rfl rfl (wpAny_bind (wpAny_holding (wpAny_truthy_bool (wpAny_bind (wpAny_letGo (wpAny_pure ?_))))))))))
   show wpAny _ _ (if decide (val i<m)=true then _ else _) _ _ _
   have last:∀h1:Heap,(∀b o,b≠S→h'.get? b=some o→h1.get? b=some o)→zaQ h1 S (some (if val i<m then val i else m)) →
     codeAny (model prog w) A (.builtin "min.loop" ⟨[.ref I,.none,.ref S],[(Str.ofString "default",dv)]⟩) R {s with heap:=h1,toks:=tk}:=fun h1 k1 hb1 =>
    ih (i+1) _ _ (by omega) (by omega) (W.frame _ _ _ st' fun b hbf o q=>k1 b o (fun z=>hSf (by rw[←z];exact hbf)) q) hb1 fun h'' tk'' hk'' =>
     hR h'' tk'' fun b o hw hS q=>hk'' b o hw hS (k1 b o hS (hk' b o hw q))
   by_cases hlt2:val i<m
   ·rw[decide_eq_true hlt2,if_pos rfl]
    refine wpAny_bind ?_
    refine wpAny_updateSeq hb' rfl (wpAny_bind (wpAny_letGo ?_))
    rw[hname]
    exact wpAny_pure ⟨plainId_quiet F.plain_min_loop _,last _ (fun b o hS q=>(xT _ _ (Ne.symm hS)).trans q) ⟨_,t,by rw[if_pos hlt2];exact yk _ hb' rfl⟩⟩
   ·rw[decide_eq_false hlt2,if_neg xB]
    refine wpAny_bind (wpAny_letGo ?_)
    rw[hname]
    exact wpAny_pure ⟨plainId_quiet F.plain_min_loop _,last _ (fun b o _ q=>q) ⟨ep,t0,by rw[if_neg hlt2];exact hb'⟩⟩
end
theorem zdM (val:Nat→Int):∀(k i:Nat) (c:Option Int) (m:Int),qZ val i k c=some m→(c=some m∨∃j,i≤j∧j<i+k∧m=val j)∧(∀x,c=some x→m≤x)∧∀j,i≤j→j<i+k→m≤val j:=by
 intro k
 induction k with
 |zero=>intro i c m h;exact⟨.inl h,fun x hx=>by rw[show qZ val i 0 c=c from rfl]at h;rw[h]at hx;cases hx;exact wk _,fun j h1 h2=>by omega⟩
 |succ k ih =>
  intro i c m h
  obtain⟨h1,h2,h3⟩:=ih (i+1) _ m h
  have hx:=h2 _ rfl
  cases c with
  |none =>
   refine⟨?_,fun x hx'=>(nomatch hx'),fun j hj1 hj2=>?_⟩
   ·rcases h1 with h1|⟨j,a,b,e⟩
    ·exact .inr ⟨i,xr _,by omega,(Option.some.inj h1).symm⟩
    ·exact .inr ⟨j,by omega,by omega,e⟩
   ·by_cases e:j=i
    ·subst e;exact hx
    ·exact h3 j (by omega) (by omega)
  |some y =>
   dsimp only at h1 hx
   refine⟨?_,fun x hx'=>?_,fun j hj1 hj2=>?_⟩
   ·rcases h1 with h1|⟨j,a,b,e⟩
    ·have h1:=Option.some.inj h1
     by_cases hv:val i<y
     ·rw[if_pos hv]at h1;exact .inr ⟨i,xr _,by omega,h1.symm⟩
     ·rw[if_neg hv]at h1;exact .inl (by rw[h1])
    ·exact .inr ⟨j,by omega,by omega,e⟩
   ·cases hx'
    split at hx<;>omega
   ·by_cases e:j=i
    ·subst e;split at hx<;>omega
    ·exact h3 j (by omega) (by omega)
theorem Qx (val:Nat→Int):∀(k i:Nat) (x:Int),∃m,qZ val i k (some x)=some m
 |0,_,x=>⟨x,rfl⟩
 |k+1,i,x=>Qx val k (i+1) _
theorem zgA (a v:Value):argsOk "min" ⟨[a],[(Str.ofString "default",v)]⟩:=by unfold argsOk;kernel_rfl
section
variable {X:Cx}
noncomputable def zmm (K:xb)(te td:TE):TE:=fun σ H Q=>te σ H fun x H1=>td σ H1 fun y H2=>∃p ns dv,x=.ref p∧y=.int dv∧SqL K H2 p (ns.map V.int)∧∀m:Int,(ns=[]→m=dv)→(ns≠[]→m∈ns∧∀a∈ns,m≤a)→Q (.int m) H2
theorem zgV {pins:List (Addr×Obj)}{σ:St}{H:Hp}{s:Shared}{Q:VK}{p:Addr}{ns:List Int}{dv:Int}{t:Tok}(hc:X.calm=true)(I:Inv X pins σ H s)(hq:SqL X.K H p (ns.map V.int))
  (q:∀m:Int,(ns=[]→m=dv)→(ns≠[]→m∈ns∧∀a∈ns,m≤a)→Q (.int m) H):wpAny (model X.prog X.w) X.A (call (.builtin "min") [.ref p] [(Str.ofString "default",.int dv t)]) (EP X pins σ Q) X.xe s:=by
 have hname:(toString "min"++toString ".loop":String)="min.loop":=by decide
 obtain⟨its,rv,pl,hz⟩:=I.list hq
 have hl:=pl.isList
 have hlt:p<s.heap.objs.size:=by obtain⟨_,e,_⟩:=id hl;exact xp e
 have hlen:its.toArray.size=ns.length:=by rw[xC,←rv.length,xa]
 have hval:∀(i:Nat) v,its.toArray[i]? = some v→∃t,v=Value.int ((ns[i]?).getD 0) t:=fun i v hv=>by
  have hv':its[i]? = some v:=by simpa using hv
  cases hb:ns[i]? with
  |none =>
   have:its[i]? = none:=rv.none_of (by rw[xK,hb];rfl)
   rw[this]at hv';cases hv'
  |some b =>
   obtain⟨u,hu,ru⟩:=rv.get (x:=.int b) (i:=i) (by rw[xK,hb];rfl)
   rw[hv']at hu;cases hu
   exact ru
 refine kmk_tree PySem.F.kind_min PySem.F.plain_min PySem.F.entry_min (zgA _ _) ?_
 show wpAny _ X.A.in1 (Builtin.Builtins.bindParams "min" ["key","default"] 0 ⟨[],[(Str.ofString "default",.int dv t)]⟩ >>= _) _ _ s
 refine wpAny_bind (wpAny_of_eq (show Builtin.Builtins.bindParams "min" ["key","default"] 0 ⟨[],[(Str.ofString "default",.int dv t)]⟩=pure [none,some (.int dv t)] from rfl) ?_)
 refine wpAny_bind (wpAny_pure ?_)
 refine wpAny_bind (wpAny_pyIter_list hl ?_)
 refine wpAny_bind (wpAny_newObj_type ?_)
 rw[hname]
 have W:=Walks.list (prog:=X.prog) (w:=X.w) (A:=X.A.in1) (I.ok.hd hc) s.heap.objs.size p (xz hlt) its.toArray
 have hS:(s.heap.push {cls:=.type "list_iterator",data:=.fields #[.ref p,.int 0 0]}).objs.size=s.heap.objs.size+1:=by rw[yi]
 refine wpAny_pure ⟨plainId_quiet PySem.F.plain_min_loop _,zgd W (fun i=>(ns[i]?).getD 0) hval ?_ its.toArray.size 0 _ none (by omega) (xV _) ?_ ⟨0,xF _ rfl⟩ fun h' tk hk=>?_⟩
 ·rw[hS]
  simp only[xt,xY,or_false,not_or]
  exact⟨uC _,yo (ym hlt)⟩
 ·refine⟨⟨_,xg _ (xF _ rfl),rfl,rfl⟩,(hl.push _).push _⟩
 ·have keep:∀b o,s.heap.get? b=some o→h'.get? b=some o:=fun b o e=>by
   have hb:=xp e
   refine hk b o ?_ ?_ (xg _ (xg _ e))
   ·intro z
    simp only[xt,xY,or_false]at z
    exact xz hb z
   ·rw[hS];exact xz (ym hb)
  have fin:∀m:Int,(ns=[]→m=dv)→(ns≠[]→m∈ns∧∀a∈ns,m≤a)→∀t',EP X pins σ Q (.int m t') {s with heap:=h',toks:=tk}:=fun m h1 h2 t'=>⟨.int m,H,I.kept keep,⟨t',rfl⟩,q m h1 h2⟩
  cases hr:qZ (fun i=>(ns[i]?).getD 0) 0 its.toArray.size none with
  |none =>
   have hn:ns=[]:=by
    cases hcs:ns with
    |nil=>rfl
    |cons x r =>
     rw[hlen,hcs]at hr
     obtain⟨m,e⟩:=Qx (fun i=>((x::r)[i]?).getD 0) r.length 1 (((x::r)[0]?).getD 0)
     rw[show qZ (fun i=>((x::r)[i]?).getD 0) 0 (x::r).length none=qZ (fun i=>((x::r)[i]?).getD 0) 1 r.length (some (((x::r)[0]?).getD 0)) from rfl,e]at hr
     cases hr
   exact fin dv (fun _=>rfl) (fun h=>absurd hn h) t
  |some m =>
   obtain⟨h1,_,h3⟩:=zdM _ _ _ _ _ hr
   rw[hlen]at h1 h3
   have hm:m∈ns:=by
    rcases h1 with h1|⟨j,_,hj,e⟩
    ·cases h1
    ·have hj':j<ns.length:=by omega
     rw[e,xm hj']
     exact uD hj'
   exact fun t'=>fin m (fun e=>by rw[e]at hm;cases hm) (fun _=>⟨hm,fun a ha=>by
    obtain⟨j,hj,e⟩:=uH.mp ha
    have:=h3 j (xV _) (by omega)
    rw[xm hj,e]at this
    exact this⟩) t'
theorem zks {e d:Expr}{te td:TE}{p pos kpos:Pos}(hg:Gl X "min")(hm:X.mg "min"=none)(he:PE X e te)(hd:PE X d td)(hc:X.calm=true:=by rfl)(hs:starEach [e] X.env=[(false,eval e X.env)]:=by rfl) :
  PE X (.Call (.Name "min" p) [e] [⟨some "default",d,kpos⟩] pos) (zmm X.K te td):=by
 intro pins s σ H Q I h
 refine wpAny_Call_Name_kw (JJ I hg hm PyProof.Rows.Boot.«min» ?_)
 refine callWith_kw (he:=by rw[hs];rfl) (hplain:=by rw[hs];rfl) ?_
 refine thn ((zbW he zb (hs:=hs)) pos pins s σ H (fun vs H1=>match vs with | [x]=>td σ H1 fun y H2=>∃p ns dv,x=.ref p∧y=.int dv∧SqL X.K H2 p (ns.map V.int)∧∀m:Int,(ns=[]→m=dv)→(ns≠[]→m∈ns∧∀a∈ns,m≤a)→Q (.int m) H2|_=>False) I h) fun us s1 h1=>?_
 obtain⟨vs,H1,I1,r,q⟩:=h1
 match vs,q with
 | [x],q =>
  obtain⟨u,rfl,rx⟩:=qm r
  refine thn ((zfo hd zhI) pos pins s1 σ H1 (fun zs H2=>match zs with | [y]=>∃p ns dv,x=.ref p∧y=.int dv∧SqL X.K H2 p (ns.map V.int)∧∀m:Int,(ns=[]→m=dv)→(ns≠[]→m∈ns∧∀a∈ns,m≤a)→Q (.int m) H2|_=>False) I1 q) fun ws s2 h2=>?_
  obtain⟨zs,H2,I2,r2,q2⟩:=h2
  match zs,q2 with
  | [y],⟨p,ns,dv,e1,e2,hq,q3⟩ =>
   subst e1;subst e2
   obtain⟨v,rfl,t,rfl⟩:=qm r2
   cases rx
   exact zgV hc I2 hq q3
end
noncomputable def ql:Expr→Bool
 | .Starred ..=>false
 |_=>true
theorem jH {e:Expr}{es:List Expr}{env:Env}(h:ql e=true):starEach (e::es) env=(false,eval e env)::starEach es env:=by
 cases e<;>first|rfl|cases h
theorem Jv {env:Env}{pos:Pos}:∀{es:List Expr},es.all ql=true→(backTo pos (starEach es env)).any (·.1)=false
 | [],_=>rfl
 |e::es,h=>by
  rw[uz,yq]at h
  rw[jH h.1]
  show(false||(backTo pos (starEach es env)).any (·.1))=false
  rw[Jv h.2];rfl
section
variable {X:Cx}{e:Expr}{es:List Expr}{te:TE}{t:TA}{x:Str}{p pos:Pos}{id T:String}{r:List V→Hp→VK→Prop}
theorem ac (ha:PE X e te)(hr:PA X es t)(hs:ql e=true:=by rfl):PA X (e::es) (Qf te t):=zbW ha hr (jH hs)
theorem cBi (hc:ja X (.builtin id) r)(hg:Gl X x)(hm:X.mg x=none)(hv:bootBuiltins x=some (.builtin id))(ha:PA X (e::es) t)(hs:ql e=true:=by rfl)(hp:es.all ql=true:=by rfl)(hn:x≠"__name__":=by decide)(hdb:(x==("__debug__":Str))=false:=by decide) :
  PE X (.Call (.Name x p) (e::es) [] pos) (tCB r t):=zjh hc hg hm hv ha hn hdb (jH hs) (Jv hp)
theorem cTy (hc:ja X (.type T) r)(hg:Gl X x)(hm:X.mg x=none)(hv:bootBuiltins x=some (.type T))(ha:PA X (e::es) t)(hs:ql e=true:=by rfl)(hp:es.all ql=true:=by rfl)(hn:x≠"__name__":=by decide)(hdb:(x==("__debug__":Str))=false:=by decide) :
  PE X (.Call (.Name x p) (e::es) [] pos) (tCB r t):=zhB hc hg hm hv ha hn hdb (jH hs) (Jv hp)
theorem cFn {ps:List Str}{k k':Nat}{sp:Sp}{E:XK}(F:FnS X.prog X.w X.K X.mg X.base x ps k' sp)(hr:jO k X.A)(hx:Zy (CX1 X.prog X.w) X E)(ha:PA X (e::es) t)(hkk:k'≤k:=by decide)(hg:Gl X x:=by rfl)
  (hs:ql e=true:=by rfl) (hp:es.all ql=true:=by rfl) (hdb:(x==("__debug__":Str))=false:=by decide):PE X (.Call (.Name x p) (e::es) [] pos) (zgh sp [] E t) :=
 zmf F hr hx ha hkk hg hdb (jH hs) (Jv hp)
theorem xFn {ps:List Str}{k k':Nat}{sp:Sp}(O:Own X)(F:FnS X.prog X.w X.K X.mg X.base x ps k' sp)(hr:jO k X.A)(ha:PA X.nox (e::es) t)(hkk:k'≤k:=by decide)(hg:Gl X x:=by rfl)
  (hs:ql e=true:=by rfl) (hp:es.all ql=true:=by rfl) (hdb:(x==("__debug__":Str))=false:=by decide) :
  PEx X (.Call (.Name x p) (e::es) [] pos) (fun σ H Q E=>t σ H fun vs H1=>sp (vs++[]) H1 Q E):=zlk O F hr ha hkk hg hdb (jH hs) (Jv hp)
theorem zW.alone {scope:Scope}{lv:Nat}{N':List Str}(kind:scope.kind=.function)(h:∀y∈scope.names,y.2≠.cell∧y.2≠.free)(loc:∀y∈scope.names,y.2=.local→scope.names.lookup y.1=some .local)(len:N'.length=lv):zW X scope lv [] N' :=
 ⟨kind,fun y hy=>(h y hy).1,fun y hy hz=>absurd hz (h y hy).2,loc,len,zi6⟩
theorem zfz (K:xb)(hu:X.A.units+64<cLine)(h:X.K=K:=by rfl):OpR X (compareOp .Eq) (ziW K):=h▸zl2 hu
theorem zbQ (K:xb)(hu:X.A.units+64<cLine)(h:X.K=K:=by rfl):OpR X (compareOp .NotEq) (zjN K):=h▸zlv hu
end
noncomputable def zmP (P:Program)(w:World)(K:xb)(mg:Str→Option Value)(base:Heap)(N:List Str)(x:Str)(st:Stmt)(k:Nat)(sp:Sp):Prop :=
 ∀(f:Addr) (cdv:Value) (A:Around) (outer:List Env) (s:Shared) (H:Hp) (vs:List V) (Q:VK) (E:XK),jO k (A.deeper (envOfC x (ze st) s.heap.objs.size f cdv))→sp vs H Q E →
  ∃t,PSs (zr (CX1 P w) P w K mg base N x (ze st) f cdv A outer s H E) (zm st) t∧t {nx:=fun _ H'=>Q .non H',rt:=Q} (Zq N vs) H
theorem zj4 {P:Program}{w:World}(H:Hp)(s:Shared)(e:Value)(s':Shared):CX1 P w [] H s (fun _ _ _=>False) e s'→False:=fun⟨_,_,_,_,_,_,_,_,_,_,h⟩=>h.elim
section
variable {X:Cx}{pins:List (Addr×Obj)}{σ:List (Option V)}{H:Hp}{s:Shared}{h':Heap}
theorem Inv.turnedL {t':Nat}{fp:List Addr}(I:Inv X pins σ H s)(k:∀b o,b∉fp→s.heap.get? b=some o→h'.get? b=some o)(hf:∀b∈fp,jG X pins H b):Inv X pins σ H {s with heap:=h',toks:=t'}:=by
 have away:∀b u,H b=some u→b∉fp:=fun b u e z=>by rw[(hf b z).1]at e;cases e
 have hL:X.env.locals∉fp:=fun z=>(hf _ z).2.1 rfl
 refine I.step (g':=s.gens) (d':=s.drawn) (ch:=fp) (fun b hb=>?_) (fun b o _ _ hc e _=>k b o hc e) (fun b o _ _ hc e _=>⟨o.slots,k b o hc e⟩) (fun _ _ _ _ n=>n)
  (fun b o hc e=>⟨o,k b o hc e⟩) (fun _ _ e=>e) (fun _ _ _ e=>e) (fun b ps e=>⟨#[],by rw[e];simp⟩) (fun m hm=>?_) (fun b u e=>?_) I.bare
 ·obtain⟨_,h0,_,h1,h2,h3⟩:=hf b hb
  exact⟨h1,h0,h2,h3⟩
 ·obtain⟨o,es,ep,ho,r⟩:=hm
  exact⟨o,es,ep,k _ o hL ho,r⟩
 ·refine(I.hok b u e).stay (fun c v hc q=>k c v ?_ q) (fun _ q=>q) fun _ _ q=>q
  rcases hc with z|z
  ·rw[z];exact away b u e
  ·exact away c _ z
end
inductive Knd|L|T
noncomputable def Knd.seq (k:Knd)(h:Heap)(a:Addr)(xs:Array Value):Prop:=match k with
 | .L=>h.IsList a xs
 | .T=>h.IsTuple a xs
noncomputable def Knd.it (k:Knd)(h:Heap)(j a:Addr)(n:Nat):Prop:=match k with
 | .L=>h.IsListIter j a n
 | .T=>h.IsTupleIter j a n
noncomputable def Knd.nm:Knd→String
 | .L=>"list_iterator"
 | .T=>"tuple_iterator"
noncomputable def Knd.sq (k:Knd)(K:xb)(H:Hp)(a:Addr)(xs:List V):Prop:=match k with
 | .L=>SqL K H a xs
 | .T=>SqT K H a xs
theorem Knd.seq_at {k:Knd}{h h':Heap}{a:Addr}{xs:Array Value}(x:k.seq h a xs)(e:∀o,h.get? a=some o→h'.get? a=some o):k.seq h' a xs:=by
 cases k<;>exact let ⟨o,ho,r⟩:=x;⟨o,e _ ho,r⟩
theorem Knd.it_at {k:Knd}{h h':Heap}{j a:Addr}{n:Nat}(x:k.it h j a n)(e:∀o,h.get? j=some o→h'.get? j=some o):k.it h' j a n:=by
 cases k<;>exact let ⟨o,ho,r⟩:=x;⟨o,e _ ho,r⟩
theorem Knd.it_obj {k:Knd}{h:Heap}{j a:Addr}{n:Nat}(x:k.it h j a n):∃o,h.get? j=some o∧o.cls=.type k.nm∧o.data=.fields #[.ref a,.int n 0]:=by
 cases k<;>exact x
section
variable {prog:Program}{w:World}{A:Around}{E:Value→Shared→Prop}{s:Shared}
theorem zf1 {j u:Addr}{n:Nat}{its:Array Value}{v:Value}{Q:Value→Shared→Prop}(hit:s.heap.IsTupleIter j u n)(ht:s.heap.IsTuple u its)(hx:its[n]? = some v)
  (hQ:∀h',h'.IsTupleIter j u (n+1)→yF j s.heap h'→Q v {s with heap:=h'}):wpAny (model prog w) A (Builtin.SmallTypes.nextOf (.ref j)) Q E s:=by
 obtain⟨o,ho,hc,hd⟩:=id hit
 obtain⟨ou,hou,_,nu,hdu⟩:=ht
 unfold Builtin.SmallTypes.nextOf;refine wpAny_bind (wpAny_callSpecial?_slot (name:=Str.ofString "__next__") hit.typeIs F.slot_tuple_iterator_next (wpAny_call_entry F.slot_tuple_iterator_next hit.typeIs F.entry_tuple_iterator_next ?_ (F.args_tuple_iterator_next_1 _)))
 show wpAny _ _ (field (.ref j) 0 >>= _) _ _ s;refine wpAny_bind (wpAny_field ho hd (x:=.ref u) rfl ?_)
 show wpAny _ _ (if (Value.ref u==Value.none)=true then _ else _) _ _ s;rw[if_neg (show ¬((Value.ref u==Value.none)=true) from xB)]
 show wpAny _ _ (field (.ref j) 1 >>= _) _ _ s;refine wpAny_bind (wpAny_field ho hd (x:=.int n 0) rfl ?_)
 show wpAny _ _ (seqItems? (.ref u) >>= _) _ _ s;refine wpAny_bind (wpAny_seqItems hou hdu ?_);simp only[xQ,hx]
 refine wpAny_bind (wpAny_setField ho hd (by simp) (wpAny_pure ⟨v,rfl,wpAny_pure (hQ _ ?_ (yF.update ..))⟩));refine⟨_,yk _ ho (Obj.isFreed_of_fields (Obj.data_mapFields hd _)),(Obj.cls_mapFields ..).trans hc,?_⟩
 rw[Obj.data_mapFields hd];simp[rawInt]
theorem zbR {j u:Addr}{n:Nat}{its:Array Value}{Q:Value→Shared→Prop}(hh:A.handled=none)(hit:s.heap.IsTupleIter j u n)(ht:s.heap.IsTuple u its)(hx:its[n]? = none)
  (hE:∀h' e,wP j s.heap h'→(∃o,h'.get? e=some o∧o.cls=.type "StopIteration")→E (.ref e) {s with heap:=h'}):wpAny (model prog w) A (Builtin.SmallTypes.nextOf (.ref j)) Q E s:=by
 obtain⟨o,ho,hc,hd⟩:=id hit
 obtain⟨ou,hou,_,nu,hdu⟩:=ht
 unfold Builtin.SmallTypes.nextOf;refine wpAny_bind (wpAny_callSpecial?_slot (name:=Str.ofString "__next__") hit.typeIs F.slot_tuple_iterator_next (wpAny_call_entry F.slot_tuple_iterator_next hit.typeIs F.entry_tuple_iterator_next ?_ (F.args_tuple_iterator_next_1 _)))
 show wpAny _ _ (field (.ref j) 0 >>= _) _ _ s;refine wpAny_bind (wpAny_field ho hd (x:=.ref u) rfl ?_)
 show wpAny _ _ (if (Value.ref u==Value.none)=true then _ else _) _ _ s;rw[if_neg (show ¬((Value.ref u==Value.none)=true) from xB)]
 show wpAny _ _ (field (.ref j) 1 >>= _) _ _ s;refine wpAny_bind (wpAny_field ho hd (x:=.int n 0) rfl ?_)
 show wpAny _ _ (seqItems? (.ref u) >>= _) _ _ s;refine wpAny_bind (wpAny_seqItems hou hdu ?_);simp only[xQ,hx]
 refine wpAny_bind (wpAny_rule (wpAny_bind (wpAny_setField ho hd (by simp) ?_)));show wpAny _ _ (newExc (.type "StopIteration") [] >>= _) _ _ _
 refine wpAny_bind ?_;simp only[newExc,newTuple];refine wpAny_bind (wpAny_newObj_type ?_ (by size_fits));refine wpAny_bind (m:=firstArgMember _ _) (wpAny_of_eq (a:=Value.none) (by first|rfl|(simp only[firstArgMember];rfl)) ?_)
 refine wpAny_newObj_type ?_ (by size_fits);simp only[raiseNew];refine wpAny_bind (wpAny_handled ?_)
 first|rw[show A.in1.handled=none from hh];refine wpAny_bind (wpAny_pure (wpAny_throw ?_))|rw[hh];refine wpAny_bind (wpAny_pure (wpAny_throw ?_))
 exact hE _ _ (((yF.update ..).extBut.push _).push _) ⟨_,xF _ rfl,rfl⟩
theorem Knd.next {k:Knd}{j u:Addr}{n:Nat}{its:Array Value}{v:Value}{Q:Value→Shared→Prop}(hit:k.it s.heap j u n)(ht:k.seq s.heap u its)(hx:its[n]? = some v)
  (hQ:∀h',k.it h' j u (n+1)→yF j s.heap h'→Q v {s with heap:=h'}):wpAny (model prog w) A (Builtin.SmallTypes.nextOf (.ref j)) Q E s:=by
 cases k with
 |L=>exact wpAny_nextOf_list_item hit ht hx hQ
 |T=>exact zf1 hit ht hx hQ
theorem Knd.done {k:Knd}{j u:Addr}{n:Nat}{its:Array Value}{Q:Value→Shared→Prop}(hh:A.handled=none)(hit:k.it s.heap j u n)(ht:k.seq s.heap u its)(hx:its[n]? = none)
  (hE:∀h' e,wP j s.heap h'→(∃o,h'.get? e=some o∧o.cls=.type "StopIteration")→E (.ref e) {s with heap:=h'}):wpAny (model prog w) A (Builtin.SmallTypes.nextOf (.ref j)) Q E s:=by
 cases k with
 |L=>exact wpAny_nextOf_list_end hh hit ht hx hE
 |T=>exact zbR hh hit ht hx hE
structure ZAt (h:Heap)(k1 k2:Knd)(n a1 a2:Addr)(i:Nat)(f0:Value):Prop where
 z:IsZip h (n+4) (n+2) (n+3) f0
 ti:IsPair h (n+2) (.ref n) (.ref (n+1))
 to:∃a b,IsPair h (n+3) a b
 i1:k1.it h n a1 i
 i2:k2.it h (n+1) a2 i
noncomputable def zfp (n:Addr):List Addr:=[n+4,n+2,n+3,n,n+1]
theorem ziJ {k1 k2:Knd}{n a1 a2:Addr}{i:Nat}{xs ys:Array Value}{x y:Value}{Q:Option Value→Shared→Prop}(Z:ZAt s.heap k1 k2 n a1 a2 i .none)(d1:a1∉zfp n)(d2:a2∉zfp n)(h1:k1.seq s.heap a1 xs)(h2:k2.seq s.heap a2 ys)(hx:xs[i]? = some x)(hy:ys[i]? = some y)
  (hQ:∀h',ZAt h' k1 k2 n a1 a2 (i+1) (rawInt s.heap.objs.size)→IsPair h' s.heap.objs.size x y→(∀c o,c∉zfp n→s.heap.get? c=some o→h'.get? c=some o)→Q (some (.ref s.heap.objs.size)) {s with heap:=h'}) :
  wpAny (model prog w) A (pyNext (.ref (n+4))) Q E s:=by
 obtain⟨hz,hTI,⟨a,b,hTO⟩,g1,g2⟩:=Z
 have nz:n≠n+4:=xz (yp (by decide))
 have n1z:n+1≠n+4:=by intro e;have:=yf e;exact absurd this (by decide)
 have n2z:n+2≠n+4:=by intro e;have:=yf e;exact absurd this (by decide)
 have n3z:n+3≠n+4:=by intro e;have:=yf e;exact absurd this (by decide)
 have n3n:n+3≠n:=yo (yp (by decide))
 have n31:n+3≠n+1:=by intro e;have:=yf e;exact absurd this (by decide)
 have n32:n+3≠n+2:=by intro e;have:=yf e;exact absurd this (by decide)
 have n2n:n+2≠n:=yo (yp (by decide))
 have n21:n+2≠n+1:=by intro e;have:=yf e;exact absurd this (by decide)
 have n1n:n+1≠n:=yo (yp (by decide))
 have m1:∀c,c∈zfp n→a1≠c:=fun c hc e=>d1 (by rw[e];exact hc)
 have m2:∀c,c∈zfp n→a2≠c:=fun c hc e=>d2 (by rw[e];exact hc)
 have p4:n+4∈zfp n:=.head _
 have p3:n+3∈zfp n:=.tail _ (.tail _ (.head _))
 have p0:n∈zfp n:=.tail _ (.tail _ (.tail _ (.head _)))
 have p1:n+1∈zfp n:=.tail _ (.tail _ (.tail _ (.tail _ (.head _))))
 have ty:s.TypeIs (.ref (n+4)) "zip":=⟨_,hz,rfl⟩
 unfold pyNext
 refine wpAny_bind (wpAny_attempt (wpAny_callSpecial?_slot (name:=Str.ofString "__next__") ty F.slot_zip_next (wpAny_call_entry F.slot_zip_next ty F.entry_zip_next ?_ (F.args_zip_next_1 _))))
 show wpAny _ _ (field (.ref (n+4)) 2 >>= _) _ _ _;refine wpAny_bind (wpAny_field hz rfl (x:=.bool false) rfl ?_)
 show wpAny _ _ (field (.ref (n+4)) 3 >>= _) _ _ _;refine wpAny_bind (wpAny_field hz rfl (x:=.ref (n+2)) rfl ?_)
 refine wpAny_bind (wpAny_seqItems hTI rfl ?_);show wpAny _ _ (Builtin.SmallTypes.ownedTupleIsFree (.ref (n+4)) >>= _) _ _ _
 refine wpAny_bind ?_;unfold Builtin.SmallTypes.ownedTupleIsFree;refine wpAny_bind (wpAny_field hz rfl (x:=.none) rfl (wpAny_pure ?_));simp only[if_true]
 refine wpAny_bind (wpAny_rule ?_);refine wpAny_bind (wpAny_field hz rfl (x:=.ref (n+3)) rfl ?_)
 refine wpAny_bind (wpAny_setField_rec hz (by simp) fun q1 hz1 s1=>?_)
 replace hz1:IsZip q1 (n+4) (n+2) (n+3) .ellipsis:=hz1
 refine wpAny_bind ?_;simp only[wm,wv,vt,wB]
 refine wpAny_bind (wpAny_bind (wpAny_onRaise ?_));show wpAny _ _ (Builtin.SmallTypes.nextOf (.ref n) >>= _) _ _ _
 refine wpAny_bind (Knd.next (Knd.it_at (k:=k1) g1 fun o e=>s1.extBut _ _ nz e) (Knd.seq_at (k:=k1) h1 fun o e=>s1.extBut _ _ (m1 _ p4) e) hx fun q2 f2 s2=>wpAny_pure ?_)
 have hT2:IsPair q2 (n+3) a b:=s2.extBut _ _ n3n (s1.extBut _ _ n3z hTO)
 refine wpAny_bind (wpAny_seqItems hT2 rfl ?_);refine wpAny_bind (wpAny_updateSeq_pair hT2 fun q3 hT3 s3=>?_)
 replace hT3:IsPair q3 (n+3) x b:=hT3
 refine wpAny_bind (wpAny_letGo (wpAny_pure ?_))
 refine wpAny_bind (wpAny_bind (wpAny_onRaise ?_));show wpAny _ _ (Builtin.SmallTypes.nextOf (.ref (n+1)) >>= _) _ _ _
 refine wpAny_bind (Knd.next (Knd.it_at (k:=k2) g2 fun o e=>s3.extBut _ _ n31.symm (s2.extBut _ _ n1n (s1.extBut _ _ n1z e))) (Knd.seq_at (k:=k2) h2 fun o e=>s3.extBut _ _ (m2 _ p3) (s2.extBut _ _ (m2 _ p0) (s1.extBut _ _ (m2 _ p4) e))) hy fun q4 f4 s4=>wpAny_pure ?_)
 have hT4:IsPair q4 (n+3) x b:=s4.extBut _ _ n31 hT3
 refine wpAny_bind (wpAny_seqItems hT4 rfl ?_);refine wpAny_bind (wpAny_updateSeq_pair hT4 fun q5 hT5 s5=>?_)
 replace hT5:IsPair q5 (n+3) x y:=hT5
 refine wpAny_bind (wpAny_letGo (wpAny_pure (wpAny_pure ?_)));refine wpAny_bind (wpAny_seqItems hT5 rfl ?_);refine wpAny_bind (wpAny_newTuple ?_)
 have hsz:q5.objs.size=s.heap.objs.size:=by rw[s5.1,s4.1,s3.1,s2.1,s1.1]
 have hz5:IsZip q5 (n+4) (n+2) (n+3) .ellipsis:=s5.extBut _ _ n3z.symm (s4.extBut _ _ n1z.symm (s3.extBut _ _ n3z.symm (s2.extBut _ _ nz.symm hz1)))
 have keep5:∀c o,c∉zfp n→s.heap.get? c=some o→q5.get? c=some o:=fun c o hc e =>
  s5.extBut _ _ (fun z=>hc (by rw[z];exact p3)) (s4.extBut _ _ (fun z=>hc (by rw[z];exact p1)) (s3.extBut _ _ (fun z=>hc (by rw[z];exact p3)) (s2.extBut _ _ (fun z=>hc (by rw[z];exact p0)) (s1.extBut _ _ (fun z=>hc (by rw[z];exact p4)) e))))
 have ti5:IsPair q5 (n+2) (.ref n) (.ref (n+1)):=s5.extBut _ _ n32.symm (s4.extBut _ _ n21 (s3.extBut _ _ n32.symm (s2.extBut _ _ n2n (s1.extBut _ _ n2z hTI))))
 have g15:k1.it q5 n a1 (i+1):=Knd.it_at (k:=k1) f2 fun o e=>s5.extBut _ _ n3n.symm (s4.extBut _ _ n1n.symm (s3.extBut _ _ n3n.symm e))
 have g25:k2.it q5 (n+1) a2 (i+1):=Knd.it_at (k:=k2) f4 fun o e=>s5.extBut _ _ n31.symm e
 have zlt:n+4<q5.objs.size:=xp hz5
 show wpAny _ _ (Builtin.SmallTypes.ownedTupleHandOut (.ref (n+4)) (.ref q5.objs.size) >>= _) _ _ _
 refine wpAny_bind ?_;unfold Builtin.SmallTypes.ownedTupleHandOut
 have hz6:IsZip (q5.push {cls:=.type "tuple",data:=.seq #[x,y]}) (n+4) (n+2) (n+3) .ellipsis:=xg _ hz5
 refine wpAny_bind (wpAny_setField_rec hz6 (by simp) fun q7 hz7 s7=>?_)
 replace hz7:IsZip q7 (n+4) (n+2) (n+3) (rawInt q5.objs.size):=hz7
 refine wpAny_setField_rec hz7 (by simp) fun q8 hz8 s8=>?_
 replace hz8:IsZip q8 (n+4) (n+2) (n+3) (rawInt q5.objs.size):=hz8
 have up:∀c o,c≠n+4→q5.get? c=some o→q8.get? c=some o:=fun c o hc e=>s8.extBut _ _ hc (s7.extBut _ _ hc (xg _ e))
 have hT8:IsPair q8 q5.objs.size x y:=s8.extBut _ _ (yo zlt) (s7.extBut _ _ (yo zlt) (xF _ rfl))
 rw[hsz]at hz8 hT8
 refine wpAny_pure ⟨_,rfl,wpAny_pure ?_⟩
 show Q (some (.ref q5.objs.size)) _;rw[hsz]
 exact hQ q8 ⟨hz8,up _ _ n2z ti5,⟨_,_,up _ _ n3z hT5⟩,Knd.it_at (k:=k1) g15 fun o e=>up _ o nz e,Knd.it_at (k:=k2) g25 fun o e=>up _ o n1z e⟩ hT8 fun c o hc e=>up c o (fun z=>hc (by rw[z];exact p4)) (keep5 c o hc e)
theorem zkz {k1 k2:Knd}{n a1 a2:Addr}{i:Nat}{xs ys:Array Value}{Q:Option Value→Shared→Prop}(hh:A.handled=none)(Z:ZAt s.heap k1 k2 n a1 a2 i .none)(d1:a1∉zfp n)(d2:a2∉zfp n)(h1:k1.seq s.heap a1 xs)(h2:k2.seq s.heap a2 ys)(hend:xs[i]? = none∨ys[i]? = none)
  (hQ:∀h',(∀c o,c∉zfp n→s.heap.get? c=some o→h'.get? c=some o)→Q none {s with heap:=h'}):wpAny (model prog w) A (pyNext (.ref (n+4))) Q E s:=by
 obtain⟨hz,hTI,⟨a,b,hTO⟩,g1,g2⟩:=Z
 have nz:n≠n+4:=xz (yp (by decide))
 have n1z:n+1≠n+4:=by intro e;have:=yf e;exact absurd this (by decide)
 have n3z:n+3≠n+4:=by intro e;have:=yf e;exact absurd this (by decide)
 have n3n:n+3≠n:=yo (yp (by decide))
 have n31:n+3≠n+1:=by intro e;have:=yf e;exact absurd this (by decide)
 have n1n:n+1≠n:=yo (yp (by decide))
 have m1:∀c,c∈zfp n→a1≠c:=fun c hc e=>d1 (by rw[e];exact hc)
 have m2:∀c,c∈zfp n→a2≠c:=fun c hc e=>d2 (by rw[e];exact hc)
 have p4:n+4∈zfp n:=.head _
 have p3:n+3∈zfp n:=.tail _ (.tail _ (.head _))
 have p0:n∈zfp n:=.tail _ (.tail _ (.tail _ (.head _)))
 have p1:n+1∈zfp n:=.tail _ (.tail _ (.tail _ (.tail _ (.head _))))
 have ty:s.TypeIs (.ref (n+4)) "zip":=⟨_,hz,rfl⟩
 unfold pyNext
 refine wpAny_bind (wpAny_attempt (wpAny_callSpecial?_slot (name:=Str.ofString "__next__") ty F.slot_zip_next (wpAny_call_entry F.slot_zip_next ty F.entry_zip_next ?_ (F.args_zip_next_1 _))))
 have fin:∀h' e,(∀c o,c∉zfp n→s.heap.get? c=some o→h'.get? c=some o)→(∃o,h'.get? e=some o∧o.cls=.type "StopIteration") →
   wpAny (model prog w) A (isInstance (.ref e) (.type "StopIteration") >>= fun b=>if b=true then pure none else throw (.ref e)) Q E {s with heap:=h'}:=fun h' e hk ⟨o,ho,hc⟩ =>
  wpAny_bind (wpAny_isInstance (T:="StopIteration") (b:=true) ⟨o,ho,hc⟩ isSubtype_stop (wpAny_pure (hQ _ hk)))
 show wpAny _ _ (field (.ref (n+4)) 2 >>= _) _ _ _;refine wpAny_bind (wpAny_field hz rfl (x:=.bool false) rfl ?_)
 show wpAny _ _ (field (.ref (n+4)) 3 >>= _) _ _ _;refine wpAny_bind (wpAny_field hz rfl (x:=.ref (n+2)) rfl ?_)
 refine wpAny_bind (wpAny_seqItems hTI rfl ?_);show wpAny _ _ (Builtin.SmallTypes.ownedTupleIsFree (.ref (n+4)) >>= _) _ _ _
 refine wpAny_bind ?_;unfold Builtin.SmallTypes.ownedTupleIsFree;refine wpAny_bind (wpAny_field hz rfl (x:=.none) rfl (wpAny_pure ?_));simp only[if_true]
 refine wpAny_bind (wpAny_rule ?_);refine wpAny_bind (wpAny_field hz rfl (x:=.ref (n+3)) rfl ?_)
 refine wpAny_bind (wpAny_setField_rec hz (by simp) fun q1 hz1 s1=>?_)
 replace hz1:IsZip q1 (n+4) (n+2) (n+3) .ellipsis:=hz1
 refine wpAny_bind ?_;simp only[wm,wv,vt,wB]
 refine wpAny_bind (wpAny_bind (wpAny_onRaise ?_));show wpAny _ _ (Builtin.SmallTypes.nextOf (.ref n) >>= _) _ _ _
 have G1:=Knd.it_at (k:=k1) g1 fun o e=>s1.extBut _ _ nz e
 have S1:=Knd.seq_at (k:=k1) h1 fun o e=>s1.extBut _ _ (m1 _ p4) e
 cases hx:xs[i]? with
 |none =>
  refine wpAny_bind (Knd.done hh G1 S1 hx fun q2 e s2 he=>?_)
  obtain⟨oe,hoe,hce⟩:=he
  have hz2:IsZip q2 (n+4) (n+2) (n+3) .ellipsis:=s2 _ _ nz.symm hz1
  have hez:e≠n+4:=fun z=>by subst z;rw[hz2]at hoe;cases hoe;simp at hce
  refine wpAny_setField_rec hz2 (by simp) fun q3 _ s3=>fin q3 e (fun c o hc z=>s3.extBut _ _ (fun z=>hc (by rw[z];exact p4)) (s2 _ _ (fun z=>hc (by rw[z];exact p0)) (s1.extBut _ _ (fun z=>hc (by rw[z];exact p4)) z))) ⟨oe,s3.extBut _ _ hez hoe,hce⟩
 |some x =>
  have hy:ys[i]? = none:=by rcases hend with h|h;rw[hx]at h;cases h;exact h
  refine wpAny_bind (Knd.next G1 S1 hx fun q2 f2 s2=>wpAny_pure ?_)
  have hT2:IsPair q2 (n+3) a b:=s2.extBut _ _ n3n (s1.extBut _ _ n3z hTO)
  refine wpAny_bind (wpAny_seqItems hT2 rfl ?_);refine wpAny_bind (wpAny_updateSeq_pair hT2 fun q3 hT3 s3=>?_)
  refine wpAny_bind (wpAny_letGo (wpAny_pure ?_))
  refine wpAny_bind (wpAny_bind (wpAny_onRaise ?_));show wpAny _ _ (Builtin.SmallTypes.nextOf (.ref (n+1)) >>= _) _ _ _
  refine wpAny_bind (Knd.done hh (Knd.it_at (k:=k2) g2 fun o e=>s3.extBut _ _ n31.symm (s2.extBut _ _ n1n (s1.extBut _ _ n1z e))) (Knd.seq_at (k:=k2) h2 fun o e=>s3.extBut _ _ (m2 _ p3) (s2.extBut _ _ (m2 _ p0) (s1.extBut _ _ (m2 _ p4) e))) hy fun q4 e s4 he=>?_)
  obtain⟨oe,hoe,hce⟩:=he
  have hz4:IsZip q4 (n+4) (n+2) (n+3) .ellipsis:=s4 _ _ n1z.symm (s3.extBut _ _ n3z.symm (s2.extBut _ _ nz.symm hz1))
  have hez:e≠n+4:=fun z=>by subst z;rw[hz4]at hoe;cases hoe;simp at hce
  refine wpAny_setField_rec hz4 (by simp) fun q5 _ s5=>fin q5 e (fun c o hc z=>s5.extBut _ _ (fun z=>hc (by rw[z];exact p4)) (s4 _ _ (fun z=>hc (by rw[z];exact p1)) (s3.extBut _ _ (fun z=>hc (by rw[z];exact p3)) (s2.extBut _ _ (fun z=>hc (by rw[z];exact p0)) (s1.extBut _ _ (fun z=>hc (by rw[z];exact p4)) z))))) ⟨oe,s5.extBut _ _ hez hoe,hce⟩
end
noncomputable abbrev zh1 (h:Heap)(k1:Knd)(a1:Addr):Heap:=h.push {cls:=.type k1.nm,data:=.fields #[.ref a1,.int 0 0]}
noncomputable abbrev zh2 (h:Heap)(k1 k2:Knd)(a1 a2:Addr):Heap:=(zh1 h k1 a1).push {cls:=.type k2.nm,data:=.fields #[.ref a2,.int 0 0]}
noncomputable abbrev zh3 (h:Heap)(k1 k2:Knd)(a1 a2:Addr):Heap:=(zh2 h k1 k2 a1 a2).push {cls:=.type "tuple",data:=.seq #[.ref h.objs.size,.ref (zh1 h k1 a1).objs.size]}
noncomputable abbrev zh4 (h:Heap)(k1 k2:Knd)(a1 a2:Addr):Heap:=(zh3 h k1 k2 a1 a2).push {cls:=.type "tuple",data:=.seq #[.none,.none]}
noncomputable abbrev zh5 (h:Heap)(k1 k2:Knd)(a1 a2:Addr):Heap:=(zh4 h k1 k2 a1 a2).push {cls:=.type "zip",data:=.fields #[.none,.bool false,.bool false,.ref (zh2 h k1 k2 a1 a2).objs.size,.ref (zh3 h k1 k2 a1 a2).objs.size]}
theorem zkc (k1 k2:Knd)(a1 a2:Addr)(xs ys:Array Value) :
  Meets (Builtin.«zip.__new__» ⟨[.type "zip",.ref a1,.ref a2],[]⟩) (fun _ R s=>k1.seq s.heap a1 xs∧k2.seq s.heap a2 ys ∧
   R (.ok (.ret (.ref (zh4 s.heap k1 k2 a1 a2).objs.size))) {s with heap:=zh5 s.heap k1 k2 a1 a2}) :=
 .of_wp fun prog w A R s h=>by
  obtain⟨hp,g,d,tk,os⟩:=s;obtain⟨e1,e2,h⟩:=h;have sub:=sub_zip
  cases k1<;>cases k2
  ·have L1:uE (Shared.heap ⟨hp,g,d,tk,os⟩) a1 xs:=e1
   have L2:uE (Shared.heap ⟨hp.push {cls:=.type "list_iterator",data:=.fields #[.ref a1,.int 0 0]},g,d,tk,os⟩) a2 ys:=uE.push e2 _
   wp_walk using wpAny_pyIter_list L1,wpAny_pyIter_list L2
   exact⟨_,rfl,h⟩
  ·have L1:uE (Shared.heap ⟨hp,g,d,tk,os⟩) a1 xs:=e1
   have L2:uu (Shared.heap ⟨hp.push {cls:=.type "list_iterator",data:=.fields #[.ref a1,.int 0 0]},g,d,tk,os⟩) a2 ys:=uu.push e2 _
   wp_walk using wpAny_pyIter_list L1,wpAny_pyIter_tuple L2
   exact⟨_,rfl,h⟩
  ·have L1:uu (Shared.heap ⟨hp,g,d,tk,os⟩) a1 xs:=e1
   have L2:uE (Shared.heap ⟨hp.push {cls:=.type "tuple_iterator",data:=.fields #[.ref a1,.int 0 0]},g,d,tk,os⟩) a2 ys:=uE.push e2 _
   wp_walk using wpAny_pyIter_tuple L1,wpAny_pyIter_list L2
   exact⟨_,rfl,h⟩
  ·have L1:uu (Shared.heap ⟨hp,g,d,tk,os⟩) a1 xs:=e1
   have L2:uu (Shared.heap ⟨hp.push {cls:=.type "tuple_iterator",data:=.fields #[.ref a1,.int 0 0]},g,d,tk,os⟩) a2 ys:=uu.push e2 _
   wp_walk using wpAny_pyIter_tuple L1,wpAny_pyIter_tuple L2
   exact⟨_,rfl,h⟩
theorem zj8 {prog:Program}{w:World}{A:Around}{E:Value→Shared→Prop}{s:Shared}{k1 k2:Knd}{a1 a2:Addr}{xs ys:Array Value}{Q:Value→Shared→Prop}(h1:k1.seq s.heap a1 xs)(h2:k2.seq s.heap a2 ys)
  (h:∀h',ZAt h' k1 k2 s.heap.objs.size a1 a2 0 .none→(∀c o,s.heap.get? c=some o→h'.get? c=some o)→Q (.ref (s.heap.objs.size+4)) {s with heap:=h'}) :
  wpAny (model prog w) A (call (.type "zip") [.ref a1,.ref a2]) Q E s:=by
 refine callType_new F.called_zip (by decide) (F.typeCall_zip_2 _ _) (F.newCall_zip_2 _ _) (fun obj=>F.args_object_init_3 obj _ _) F.entry_zip_new (zkc k1 k2 a1 a2 xs ys) ⟨h1,h2,?_⟩
 have z1:(zh1 s.heap k1 a1).objs.size=s.heap.objs.size+1:=yi ..
 have z2:(zh2 s.heap k1 k2 a1 a2).objs.size=s.heap.objs.size+2:=by rw[yi,z1]
 have z3:(zh3 s.heap k1 k2 a1 a2).objs.size=s.heap.objs.size+3:=by rw[yi,z2]
 have z4:(zh4 s.heap k1 k2 a1 a2).objs.size=s.heap.objs.size+4:=by rw[yi,z3]
 have g5:(zh5 s.heap k1 k2 a1 a2).get? (zh4 s.heap k1 k2 a1 a2).objs.size=some _:=xF _ rfl
 have g4:(zh5 s.heap k1 k2 a1 a2).get? (zh3 s.heap k1 k2 a1 a2).objs.size=some _:=xg _ (xF _ rfl)
 have g3:(zh5 s.heap k1 k2 a1 a2).get? (zh2 s.heap k1 k2 a1 a2).objs.size=some _:=xg _ (xg _ (xF _ rfl))
 have g2:(zh5 s.heap k1 k2 a1 a2).get? (zh1 s.heap k1 a1).objs.size=some _:=xg _ (xg _ (xg _ (xF _ rfl)))
 have g1:(zh5 s.heap k1 k2 a1 a2).get? s.heap.objs.size=some _:=xg _ (xg _ (xg _ (xg _ (xF _ rfl))))
 show _∧_
 rw[z2,z3,z4]at g5
 rw[z1,z2]at g3
 rw[z3]at g4;rw[z1]at g2;rw[z4]
 refine⟨⟨_,g5,rfl⟩,h _ ⟨g5,g3,⟨_,_,g4⟩,?_,?_⟩ fun c o x=>xg _ (xg _ (xg _ (xg _ (xg _ x))))⟩
 ·cases k1<;>exact⟨_,g1,rfl,rfl⟩
 ·cases k2<;>exact⟨_,g2,rfl,rfl⟩
section
variable {X:Cx}{pins:List (Addr×Obj)}{σ:St}{H:Hp}{s:Shared}
theorem zcW {k:Knd}{a b:Addr}{xs:List V}(I:Inv X pins σ H s)(f:jG X pins H b)(h:k.sq X.K H a xs):a≠b:=by
 rintro rfl
 have kb:∀o,X.K.lookup a=some o→False:=fun o e=>by
  have e':=I.ok.mod.kin a o e
  rcases f.2.2.2.1 with h|h
  ·exact I.ok.noex a o e' h
  ·exact absurd (xy (xp e') (x6 I.ok.bsz h)) (yd _)
 cases k
 ·rcases h with(h|⟨o,h⟩)|⟨o,its,n,hk,r⟩
  ·have h':=f.1;rw[h]at h';cases h'
  ·have h':=f.1;rw[h]at h';cases h'
  ·exact kb o hk
 ·rcases h with(h|⟨o,h⟩)|⟨o,its,n,hk,r⟩
  ·have h':=f.1;rw[h]at h';cases h'
  ·have h':=f.1;rw[h]at h';cases h'
  ·exact kb o hk
theorem Inv.knd {k:Knd}{a:Addr}{xs:List V}(I:Inv X pins σ H s)(h:k.sq X.K H a xs):∃its:List Value,zH xs its∧k.seq s.heap a its.toArray:=by
 cases k
 ·obtain⟨its,r,p,_⟩:=I.list h
  exact⟨its,r,p.isList⟩
 ·obtain⟨its,r,p,_⟩:=I.tuple h
  exact⟨its,r,p⟩
theorem Inv.knd_inj {k:Knd}{a:Addr}{xs ys:List V}(I:Inv X pins σ H s)(h:k.sq X.K H a xs)(h':k.sq X.K H a ys):xs=ys:=by
 cases k
 ·exact I.list_inj h h'
 ·exact I.tuple_inj h h'
end
noncomputable def Itz (K:xb)(k1 k2:Knd)(a1 a2:Addr):It :=
 ⟨fun i H=>∃xs ys x y,k1.sq K H a1 xs∧k2.sq K H a2 ys∧xs[i]? = some x∧ys[i]? = some y,
  fun i H x H'=>∃p u v,x=.ref p∧H p=none∧H'=upd H p (.tup [u,v])∧(∀xs,k1.sq K H a1 xs→xs[i]? = some u)∧∀ys,k2.sq K H a2 ys→ys[i]? = some v,
  fun i H=>∃xs ys,k1.sq K H a1 xs∧k2.sq K H a2 ys∧(xs.length≤i∨ys.length≤i)⟩
theorem zjF {P:Program}{w:World}{K:xb}{els:List Expr}{x1:Nat}{tpos:Pos}(k1 k2:Knd)(n a1 a2:Addr) :
  Qs P w K (.Tuple els x1 tpos) (Itz K k1 k2 a1 a2) (zfp n) (n+4) (fun i h=>ZAt h k1 k2 n a1 a2 i .none) where
 mem:=.head _
 obj:=fun i h Z b hb=>by
  obtain⟨hz,hTI,⟨a,b',hTO⟩,g1,g2⟩:=Z
  obtain⟨o1,e1,_,d1⟩:=Knd.it_obj (k:=k1) g1
  obtain⟨o2,e2,_,d2⟩:=Knd.it_obj (k:=k2) g2
  unfold zfp at hb
  simp only[xt,xY,or_false]at hb
  rcases hb with rfl|rfl|rfl|rfl|rfl
  ·exact⟨_,hz,fun v z=>by cases z⟩
  ·exact⟨_,hTI,fun v z=>by cases z⟩
  ·exact⟨_,hTO,fun v z=>by cases z⟩
  ·exact⟨_,e1,fun v z=>by rw[d1]at z;cases z⟩
  ·exact⟨_,e2,fun v z=>by rw[d2]at z;cases z⟩
 keep:=fun i h h' Z k=>by
  obtain⟨hz,hTI,⟨a,b',hTO⟩,g1,g2⟩:=Z
  have p0:n∈zfp n:=.tail _ (.tail _ (.tail _ (.head _)))
  have p1:n+1∈zfp n:=.tail _ (.tail _ (.tail _ (.tail _ (.head _))))
  exact⟨k _ (.head _) _ hz,k _ (.tail _ (.head _)) _ hTI,⟨a,b',k _ (.tail _ (.tail _ (.head _))) _ hTO⟩,Knd.it_at (k:=k1) g1 fun o e=>k _ p0 o e,Knd.it_at (k:=k2) g2 fun o e=>k _ p1 o e⟩
 item:=by
  intro X hP hw hK hc i pins s σ H E I hf Z hg
  subst hP hw hK
  obtain⟨xs,ys,x,y,q1,q2,hx,hy⟩:=hg
  obtain⟨its,r1,e1⟩:=I.knd q1
  obtain⟨jts,r2,e2⟩:=I.knd q2
  obtain⟨u,hu,ru⟩:=r1.get hx
  obtain⟨v,hv,rv⟩:=r2.get hy
  have fl:∀b∈zfp n,b<s.heap.objs.size:=fun b hb=>by
   obtain⟨hz,hTI,⟨a,b',hTO⟩,g1,g2⟩:=id Z
   obtain⟨o1,e1,_⟩:=Knd.it_obj (k:=k1) g1
   obtain⟨o2,e2,_⟩:=Knd.it_obj (k:=k2) g2
   unfold zfp at hb
   simp only[xt,xY,or_false]at hb
   rcases hb with rfl|rfl|rfl|rfl|rfl
   ·exact xp hz
   ·exact xp hTI
   ·exact xp hTO
   ·exact xp e1
   ·exact xp e2
  refine ziJ Z (fun hb=>zcW I (hf _ hb) q1 rfl) (fun hb=>zcW I (hf _ hb) q2 rfl) e1 e2 (x:=u) (y:=v) (by simpa using hu) (by simpa using hv) fun h' Z' hT hk=>?_
  refine⟨.ref s.heap.objs.size,rfl,wpAny_letOwnedTupleGo_zip (s:={s with heap:=h'}) Z'.z fun h'' z'' sb=>?_⟩
  have I1:Inv X pins σ (upd H s.heap.objs.size (.tup [x,y])) {s with heap:=s.heap.push {cls:=.type "tuple",data:=.seq #[u,v]},toks:=s.toks} :=
   I.laid (fun b o e=>xg _ e) (xr _) ⟨by show 2≤sizeLine;decide,[u,v],.cons ru (.cons rv .nil),⟨_,xF _ rfl,rfl,_,rfl⟩⟩
  have none':∀b∈zfp n,upd H s.heap.objs.size (.tup [x,y]) b=none:=fun b hb=>by
   rw[zC (xz (fl b hb))];exact(hf b hb).1
  have I2:Inv X pins σ (upd H s.heap.objs.size (.tup [x,y])) {s with heap:=h''}:=Inv.turnedL (s:={s with heap:=s.heap.push {cls:=.type "tuple",data:=.seq #[u,v]},toks:=s.toks}) (fp:=zfp n) (t':=s.toks) I1 (fun b o hb e=>by
   have hb4:b≠n+4:=fun z=>hb (by rw[z];exact .head _)
   refine sb.extBut _ _ hb4 ?_
   rcases uI e with⟨z,z2⟩|e
   ·rw[z,z2];exact hT
   ·exact hk b o hb e) fun b hb=>⟨none' b hb,(hf b hb).2⟩
  obtain⟨_,zt,⟨a,b',zo⟩,g1,g2⟩:=Z'
  have ne:∀k:Nat,k<4→n+k≠n+4:=fun k hk e=>absurd (yf e) (xz hk)
  exact⟨.ref s.heap.objs.size,_,I2,rfl,⟨_,x,y,rfl,I.fresh,rfl,fun zs hz=>by rw[I.knd_inj hz q1];exact hx,fun zs hz=>by rw[I.knd_inj hz q2];exact hy⟩,
   ⟨z'',sb.extBut _ _ (ne 2 (by decide)) zt,⟨a,b',sb.extBut _ _ (ne 3 (by decide)) zo⟩,Knd.it_at (k:=k1) g1 fun o e=>sb.extBut _ _ (ne 0 (by decide)) e,Knd.it_at (k:=k2) g2 fun o e=>sb.extBut _ _ (ne 1 (by decide)) e⟩,none'⟩
 done:=by
  intro X hP hw hK hc i pins s σ H E I hf Z hg
  subst hP hw hK
  obtain⟨xs,ys,q1,q2,hx⟩:=hg
  obtain⟨its,r1,e1⟩:=I.knd q1
  obtain⟨jts,r2,e2⟩:=I.knd q2
  have l1:=r1.length
  have l2:=r2.length
  refine zkz (I.ok.hd hc) Z (fun hb=>zcW I (hf _ hb) q1 rfl) (fun hb=>zcW I (hf _ hb) q2 rfl) e1 e2 (hx.imp (fun h=>by simp;omega) (fun h=>by simp;omega)) fun h' hk=>⟨rfl,I.turnedL (t':=s.toks) hk hf⟩
 self:=fun _ _ _ _ _ Z h=>wpAny_pyIter_zip Z.z h
section
variable {X:Cx}{els:List Expr}{x1:Nat}{tpos:Pos}
noncomputable def zm0 (k1 k2:Knd)(K:xb)(ta:TA):TI:=fun σ H R=>ta σ H fun vs H1=>∃a1 a2,vs=[.ref a1,.ref a2]∧(∃xs,k1.sq K H1 a1 xs)∧(∃ys,k2.sq K H1 a2 ys)∧R (Itz K k1 k2 a1 a2) H1
theorem zbw (k1 k2:Knd){a b:Expr}{ta:TA}{p pos:Pos}(hg:Gl X "zip")(hm:X.mg "zip"=none)(ha:PA X [a,b] ta)(hs:ql a=true:=by rfl)(hs2:ql b=true:=by rfl) :
  PI X (.Tuple els x1 tpos) (.Call (.Name "zip" p) [a,b] [] pos) (zm0 k1 k2 X.K ta):=by
 intro pins s σ H R I h
 refine wpAny_Call_Name_kw (JJ I hg hm PyProof.Rows.Boot.«zip» ?_)
 refine PyProof.Rows.callWith_type1 (thn (ha pos pins s σ H _ I h) fun us s1 h1=>?_) (jH hs) (Jv (by rw[uz,hs2];rfl))
 obtain⟨vs,H1,I1,r,a1,a2,rfl,⟨xs,q1⟩,⟨ys,q2⟩,q⟩:=h1
 obtain⟨u,v,rfl,ru,rv⟩:=zgt r
 cases ru;cases rv
 obtain⟨its,r1,e1⟩:=I1.knd q1
 obtain⟨jts,r2,e2⟩:=I1.knd q2
 refine zj8 e1 e2 fun h' Z hk=>wpAny_pyIter_zip Z.z ?_
 refine⟨s1.heap.objs.size+4,zfp s1.heap.objs.size,_,_,H1,rfl,I1.kept (t':=s1.toks) hk,zjF k1 k2 _ a1 a2,Z,fun b hb=>?_,q⟩
 have hle:s1.heap.objs.size≤b:=by
  unfold zfp at hb
  simp only[xt,xY,or_false]at hb
  rcases hb with rfl|rfl|rfl|rfl|rfl
  ·exact ug _ _
  ·exact ug _ _
  ·exact ug _ _
  ·exact xr _
  ·exact ug _ _
 exact I1.fpOk hle (I1.hok.fresh hle)
end
theorem zd.new {H:Hp}{p:Addr}{o:HO}(h:H p=none):zd H (L2.upd H p o):=fun b u e=>by
 rw[zC (jN e h)];exact e
theorem zd.upd {H H1:Hp}{p:Addr}{o:HO}(s:zd H H1)(h:H p=none):zd H (L2.upd H1 p o):=fun b u e=>by
 rw[zC (jN e h)];exact s b u e
theorem zd.knd {k:Knd}{K:xb}{H H':Hp}{a:Addr}{xs:List V}(S:zd H H')(h:k.sq K H a xs):k.sq K H' a xs:=by
 cases k<;>rcases h with(h|⟨o,h⟩)|h<;>first|exact .inl (.inl (S _ _ h))|exact .inl (.inr ⟨o,S _ _ h⟩)|exact .inr h
section
variable {X:Cx}
theorem zW.caps {scope sc:Scope}{lv:Nat}{caps:List Nat}{N':List Str}(kind:scope.kind=.function)(h:∀y∈scope.names,y.2≠.cell)(hf:∀y∈scope.names,y.2=.free→sc.names.lookup y.1=some .cell∨sc.names.lookup y.1=some .free)
  (loc:∀y∈scope.names,y.2=.local→scope.names.lookup y.1=some .local) (e:X.env.scope=sc) (len:N'.length=lv+caps.length)
  (cap:∀(p:Nat) (j:Nat),caps[p]? = some j→∃x,N'[lv+p]? = some x∧X.N[j]? = some x∧scope.names.lookup x=some .free):zW X scope lv caps N' :=
 ⟨kind,h,fun y hy hz=>by have:=hf y hy hz;rw[←e]at this;exact this,loc,len,cap⟩
theorem ze6 {es:List Expr}{k:Nat}{t:TGs}{n:Nat}{pos:Pos}(K:xb)(hc:X.calm=true)(h:PGs X es t)(hK:X.K=K:=by rfl)
  (hn:(assignEach es X.env).length=n:=by rfl) (hst:(assignEach es X.env).findIdx? (·.1)=none:=by rfl):PG X (.Tuple es k pos) (zjK K n t):=hK▸Qw hc h hn hst
end
section
variable {K:xb}{g:TG}{te:TE}{σ0:St}{H1:Hp}{Q:VK}
theorem YB {J:It}(n:Nat)(hl:n<sizeLine)(f:Nat→V)(go:∀i H',i<n→zd H1 H'→J.go i H')(stop:∀H',zd H1 H'→J.stop n H')
  (step:∀i x (H' H'':Hp) (Q':VK),i<n→zd H1 H'→J.yld i H' x H''→(∀H2,zd H' H2→Q' (f i) H2)→g x σ0 H'' fun σ2 H2=>te σ2 H2 Q')
  (fin:∀D H',H1 D=none→zd H1 H'→H' D=some (.lst ((xH n).map f))→Q (.ref D) H'):ZL J g te σ0 Q H1:=by
 intro D hD
 refine⟨fun i m ys H'=>i≤n∧m=n - i∧ys=(xH i).map f∧zd H1 H'∧H' D=some (.lst ys),⟨_,xV _,rfl,rfl,zd.new hD,zc⟩,?_⟩
 rintro i m ys H' ⟨hi,rfl,rfl,S,e⟩
 refine⟨e,by rw[xa,xZ];omega,?_⟩
 by_cases hlt:i<n
 ·refine .inr ⟨go i H' hlt S,fun x H'' hy=>step i x H' H'' _ hlt S hy fun H2 S2=>⟨S2 _ _ e,n - (i+1),by omega,hlt,rfl,?_,(S.trans S2).upd hD,zc⟩⟩
  rw[yQ,xE];rfl
 ·have ei:i=n:=by omega
  subst ei
  exact .inl ⟨stop H' S,fin D H' hD S e⟩
theorem zef {k:Knd}{J:It}{a:Addr}{xs:List V}(hJ:J=match k with | .L=>Itl K a | .T=>Itt K a)(hq:k.sq K H1 a xs)(hl:xs.length<sizeLine)(f:V→V)
  (step:∀x∈xs,∀(H':Hp) (Q':VK),zd H1 H'→(∀H2,zd H' H2→Q' (f x) H2)→g x σ0 H' fun σ2 H2=>te σ2 H2 Q')
  (fin:∀D H',H1 D=none→zd H1 H'→H' D=some (.lst (xs.map f))→Q (.ref D) H'):ZL J g te σ0 Q H1:=by
 have hm:(xH xs.length).map (fun i=>f (xs.getD i .non))=xs.map f:=by
  apply yZ
  intro i
  simp only[xK,yG,xA]
  by_cases h:i<xs.length
  ·rw[xm h,yG h];simp[h]
  ·rw[xX (show(xH xs.length).length≤i by rw[xZ];omega),xX (show xs.length≤i by omega)];rfl
 have at':∀{i:Nat} (h:i<xs.length),xs[i]? = some (xs.getD i .non):=fun {i} h=>by rw[xA,xm h];rfl
 subst hJ
 cases k
 ·refine YB xs.length hl (fun i=>f (xs.getD i .non)) (fun i H' h S=>⟨xs,_,S.knd (k:=.L) hq,at' h⟩) (fun H' S=>⟨xs,S.knd (k:=.L) hq,xr _⟩) (fun i x H' H'' Q' h S hy q=>?_) (fun D H' hD S e=>fin D H' hD S (by rw[←hm];exact e))
  obtain⟨rfl,hx⟩:=hy
  have hx:=hx xs (S.knd (k:=.L) hq)
  have e:xs.getD i .non=x:=by rw[xA,hx];rfl
  rw[e]at q
  exact step x (xq hx) _ Q' S q
 ·refine YB xs.length hl (fun i=>f (xs.getD i .non)) (fun i H' h S=>⟨xs,_,S.knd (k:=.T) hq,at' h⟩) (fun H' S=>⟨xs,S.knd (k:=.T) hq,xr _⟩) (fun i x H' H'' Q' h S hy q=>?_) (fun D H' hD S e=>fin D H' hD S (by rw[←hm];exact e))
  obtain⟨rfl,hx⟩:=hy
  have hx:=hx xs (S.knd (k:=.T) hq)
  have e:xs.getD i .non=x:=by rw[xA,hx];rfl
  rw[e]at q
  exact step x (xq hx) _ Q' S q
theorem Zw {a:Addr}{xs:List V}(hq:SqL K H1 a xs)(hl:xs.length<sizeLine)(f:V→V)
  (step:∀x∈xs,∀(H':Hp) (Q':VK),zd H1 H'→(∀H2,zd H' H2→Q' (f x) H2)→g x σ0 H' fun σ2 H2=>te σ2 H2 Q')
  (fin:∀D H',H1 D=none→zd H1 H'→H' D=some (.lst (xs.map f))→Q (.ref D) H'):ZL (Itl K a) g te σ0 Q H1:=zef (k:=.L) rfl hq hl f step fin
theorem ziB {a:Addr}{xs:List V}(hq:SqT K H1 a xs)(hl:xs.length<sizeLine)(f:V→V)
  (step:∀x∈xs,∀(H':Hp) (Q':VK),zd H1 H'→(∀H2,zd H' H2→Q' (f x) H2)→g x σ0 H' fun σ2 H2=>te σ2 H2 Q')
  (fin:∀D H',H1 D=none→zd H1 H'→H' D=some (.lst (xs.map f))→Q (.ref D) H'):ZL (Itt K a) g te σ0 Q H1:=zef (k:=.T) rfl hq hl f step fin
theorem zj2 {k1 k2:Knd}{a1 a2:Addr}{xs ys:List V}(q1:k1.sq K H1 a1 xs)(q2:k2.sq K H1 a2 ys)(hle:xs.length=ys.length)(hl:xs.length<sizeLine)(f:Nat→V)
  (step:∀i x y,xs[i]? = some x→ys[i]? = some y→∀(p:Addr) (H':Hp) (Q':VK),zd H1 H'→H' p=some (.tup [x,y])→(∀H2,zd H' H2→Q' (f i) H2)→g (.ref p) σ0 H' fun σ2 H2=>te σ2 H2 Q')
  (fin:∀D H',H1 D=none→zd H1 H'→H' D=some (.lst ((xH xs.length).map f))→Q (.ref D) H'):ZL (Itz K k1 k2 a1 a2) g te σ0 Q H1:=by
 refine YB xs.length hl f (fun i H' h S=>⟨xs,ys,_,_,S.knd q1,S.knd q2,xm h,xm (by omega)⟩) (fun H' S=>⟨xs,ys,S.knd q1,S.knd q2,.inl (xr _)⟩) (fun i x H' H'' Q' h S hy q=>?_) fin
 obtain⟨p,u,v,rfl,hp,rfl,hu,hv⟩:=hy
 have N:=zd.new (o:=.tup [u,v]) hp
 exact step i u v (hu xs (S.knd q1)) (hv ys (S.knd q2)) p _ Q' (S.trans N) zc fun H2 S2=>q H2 (N.trans S2)
end
end L2
namespace RF
theorem zc9 (a b:Int):Int.gcd a b=Int.gcd b (a%b):=by
 have e:a=a%b+(a/b)*b:=by rw[yO];exact(vA a b).symm
 rw[wJ a b]
 conv=>lhs;rw[e]
 rw[Int.gcd_add_mul_right_right]
noncomputable abbrev Cop (a b:Int):Prop:=Int.gcd a b=1
theorem Cop.symm {a b:Int}(h:Cop a b):Cop b a:=by unfold Cop;rw[wJ];exact h
theorem ze8 (a:Int):Cop 1 a:=Int.gcd_one_left a
theorem YR {a b c:Int}:Cop (a*b) c↔Cop a c∧Cop b c:=by
 unfold Cop
 constructor
 ·intro h
  constructor
  ·have:a.gcd c∣(a*b).gcd c:=Int.gcd_dvd_gcd_mul_right_left a c b
   rw[h]at this
   exact wQ.mp this
  ·have:b.gcd c∣(a*b).gcd c:=Int.gcd_dvd_gcd_mul_left_left b c a
   rw[h]at this
   exact wQ.mp this
 ·intro⟨h1,h2⟩
  have h1':uX a.natAbs c.natAbs:=h1
  have h2':uX b.natAbs c.natAbs:=h2
  have:=uX.mul_left h1' h2'
  show Nat.gcd (a*b).natAbs c.natAbs=1
  rw[wC];exact this
noncomputable def zy:List Int→Int
 | []=>1
 |d::r=>d*zy r
theorem JG (a b:List Int):zy (a++b)=zy a*zy b:=by
 induction a with
 |nil=>simp[zy]
 |cons x r ih=>simp only[List.cons_append,zy,ih,vL]
theorem zas {c:Int}:∀{l:List Int},Cop (zy l) c↔∀d∈l,Cop d c
 | []=>by simp only[zy,xY,false_imp_iff,implies_true,iff_true];exact ze8 c
 |x::r=>by rw[zy,YR,zas (l:=r)];simp
structure zv (kept spare:List Int):Prop where
 k1:1≤kept.length
 k6:kept.length≤6
 s4:spare.length≤4
 rng:∀d∈kept++spare,2≤d∧d≤1000000
 cop:(kept++spare).Pairwise Cop
 lt:∀k∈kept,∀s∈spare,k<s
noncomputable def jE:Int→List Int→Bool
 |_,[]=>false
 |p,d::r=>if Int.gcd p d=1 then jE (p*d) r else true
theorem Yc:∀(l:List Int) (p:Int),jE p l=false↔(∀d∈l,Cop p d)∧l.Pairwise Cop
 | [],p=>by simp[jE]
 |d::r,p=>by
  unfold jE
  by_cases h:Int.gcd p d=1
  ·rw[if_pos h,Yc r (p*d),yV]
   constructor
   ·intro⟨h1,h2⟩
    refine⟨fun e he=>?_,fun e he=>(YR.mp (h1 e he)).2,h2⟩
    rcases xt.mp he with rfl|he
    ·exact h
    ·exact(YR.mp (h1 e he)).1
   ·intro⟨h1,h2,h3⟩
    exact⟨fun e he=>YR.mpr ⟨h1 e (xx _ he),h2 e he⟩,h3⟩
  ·rw[if_neg h]
   simp only[Bool.true_eq_false,false_iff]
   intro⟨h1,_⟩
   exact h (h1 d xD)
theorem Ya (l:List Int):jE 1 l=false↔l.Pairwise Cop:=by
 rw[Yc]
 constructor
 ·exact fun h=>h.2
 ·exact fun h=>⟨fun d _=>ze8 d,h⟩
theorem Z7 {d:Int}(h:2≤d):¬Cop d d:=by
 unfold Cop
 rw[Int.gcd_self]
 omega
theorem zlc {l:List Int}(h2:∀d∈l,2≤d)(hc:l.Pairwise Cop)(hs:l.Pairwise (·≤·)):l.Pairwise (·<·):=by
 have:=hc.and hs
 refine this.imp_of_mem ?_
 intro a b ha hb ⟨h1,h2'⟩
 have:a≠b:=by
  rintro rfl
  exact Z7 (h2 a ha) h1
 omega
theorem zj6 {l:List Int}{n at':Nat}{rev:Bool}(h2:∀d∈l,2≤d∧d≤1000000)(hc:l.Pairwise Cop)(hs:l.Pairwise (·<·))(hn:1≤n)(hn6:n≤6)(hl:n≤l.length)(hl4:l.length≤n+4) :
  zv ((l.take n).drop at'++(l.take n).take at') (if rev then(l.drop n).reverse else l.drop n):=by
 have p1:((l.take n).drop at'++(l.take n).take at').Perm (l.take n):=by
  have:=List.perm_append_comm (l₁:=(l.take n).drop at') (l₂:=(l.take n).take at')
  rw[y0]at this
  exact this
 have p2:(if rev then(l.drop n).reverse else l.drop n).Perm (l.drop n):=by
  cases rev
  ·exact List.Perm.refl _
  ·exact List.reverse_perm _
 have p:((l.take n).drop at'++(l.take n).take at'++(if rev then(l.drop n).reverse else l.drop n)).Perm l:=by
  have:=p1.append p2
  rw[y0]at this
  exact this
 have l1:=p1.length_eq
 have l2:=p2.length_eq
 rw[ye]at l1
 rw[yB]at l2
 refine⟨by omega,by omega,by omega,fun d hd=>h2 d (p.mem_iff.mp hd),?_,fun k hk s hs'=>?_⟩
 ·exact(p.pairwise_iff (fun h=>Cop.symm h)).mpr hc
 ·have hk':=p1.mem_iff.mp hk
  have hs'':=p2.mem_iff.mp hs'
  have hp:(l.take n++l.drop n).Pairwise (·<·):=by rw[y0];exact hs
  exact(yT.mp hp).2.2 k hk' s hs''
noncomputable def Qz (n:Int):List Int:=[[2,4,8,64].getD (n%4).toNat 0,[3,9,27].getD (n/4%3).toNat 0,[5,25,625].getD (n/12%3).toNat 0]++[7,11,13,17,19,23,29,101,997,9973,999983]
theorem zl7 (n:Int):(∀d∈Qz n,2≤d∧d≤1000000)∧(Qz n).Pairwise Cop∧(Qz n).length=14:=by
 have all:∀i j k:Nat,i<4→j<3→k<3→(∀d∈[[2,4,8,64].getD i (0:Int),[3,9,27].getD j 0,[5,25,625].getD k 0]++[7,11,13,17,19,23,29,101,997,9973,999983],2≤d∧d≤1000000) ∧
   ([[2,4,8,64].getD i (0:Int),[3,9,27].getD j 0,[5,25,625].getD k 0]++[7,11,13,17,19,23,29,101,997,9973,999983]).Pairwise Cop:=by
  intro i j k hi hj hk
  have:∀i∈xH 4,∀j∈xH 3,∀k∈xH 3,(∀d∈[[2,4,8,64].getD i (0:Int),[3,9,27].getD j 0,[5,25,625].getD k 0]++[7,11,13,17,19,23,29,101,997,9973,999983],2≤d∧d≤1000000) ∧
   ([[2,4,8,64].getD i (0:Int),[3,9,27].getD j 0,[5,25,625].getD k 0]++[7,11,13,17,19,23,29,101,997,9973,999983]).Pairwise Cop:=by decide +kernel
  exact this i (yu.mpr hi) j (yu.mpr hj) k (yu.mpr hk)
 have h1:(n%4).toNat<4:=by omega
 have h2:(n/4%3).toNat<3:=by omega
 have h3:(n/12%3).toNat<3:=by omega
 obtain⟨a,b⟩:=all _ _ _ h1 h2 h3
 exact⟨a,b,rfl⟩
theorem zh7 {n:Int}{l:List Int}(hp:l.Perm (Qz n))(hs:l.Pairwise (·≤·)):(∀d∈l,2≤d∧d≤1000000)∧l.Pairwise Cop∧l.Pairwise (·<·)∧l.length=14:=by
 obtain⟨a,b,c⟩:=zl7 n
 have a':∀d∈l,2≤d∧d≤1000000:=fun d hd=>a d (hp.mem_iff.mp hd)
 have b':l.Pairwise Cop:=(hp.pairwise_iff (fun h=>Cop.symm h)).mpr b
 exact⟨a',b',zlc (fun d hd=>(a' d hd).1) b' hs,by rw[hp.length_eq,c]⟩
theorem Qg {x y d:Int}:x%d=y%d↔d∣x - y:=Int.emod_eq_emod_iff_emod_sub_eq_zero.trans ⟨ve,Int.emod_eq_zero_of_dvd⟩
theorem zbE {a b x:Int}(h:Cop a b)(ha:a∣x)(hb:b∣x):a*b∣x:=by
 obtain⟨k,rfl⟩:=ha
 have:b∣k:=by
  have h':Int.gcd b a=1:=h.symm
  exact vB.mp (uX.dvd_of_dvd_mul_left (show uX b.natAbs a.natAbs from h') (by rw[←wC];exact vB.mpr hb))
 exact Int.mul_dvd_mul_left a this
theorem zdT {x:Int}:∀{l:List Int},l.Pairwise Cop→(∀d∈l,d∣x)→zy l∣x
 | [],_,_=>Int.one_dvd x
 |d::r,hc,h=>by
  rw[yV]at hc
  have h1:d∣x:=h d xD
  have h2:zy r∣x:=zdT hc.2 fun e he=>h e (xx _ he)
  exact zbE (Cop.symm (zas.mpr fun e he=>(hc.1 e he).symm)) h1 h2
theorem ZF {l:List Int}{x y lo:Int}(hc:l.Pairwise Cop)(h:∀d∈l,x%d=y%d)(hx:lo≤x)(hx':x<lo+zy l)(hy:lo≤y)(hy':y<lo+zy l):x=y:=by
 have hd:zy l∣x - y:=zdT hc fun d hd=>Qg.mp (h d hd)
 obtain⟨k,hk⟩:=hd
 have hP:0<zy l:=by omega
 have:k=0:=by
  rcases Int.lt_trichotomy k 0 with h1|h1|h1
  ·have:zy l*k≤zy l*(-1):=xG (by omega) (by omega)
   omega
  ·exact h1
  ·have:zy l*1≤zy l*k:=xG (by omega) (by omega)
   omega
 subst this
 omega
theorem qw:∀{l:List Int},(∀d∈l,2≤d)→0<zy l
 | [],_=>by decide
 |d::r,h=>by
  have h1:=h d xD
  have h2:=qw fun e he=>h e (xx _ he)
  exact wR (by omega) h2
theorem zaA {d:Int}:∀{l:List Int},d∈l→d∣zy l
 |x::r,h=>by
  rcases xt.mp h with rfl|h
  ·exact v7 _ _
  ·exact Int.dvd_trans (zaA h) (Int.dvd_mul_left _ _)
structure zaY (n d v:Int):Prop where
 lo:1≤v
 hi:v<d
 one:(n*v)%d=1
theorem zfi {n d:Int}(hd:2≤d)(h:Cop n d):n%d≠0:=fun e=>by
 have:d∣n:=ve e
 obtain⟨k,rfl⟩:=this
 unfold Cop at h
 have:=Int.gcd_mul_left d k 1
 rw[uo,Int.gcd_one_right,Nat.mul_one]at this
 rw[this]at h
 omega
theorem zkF {n d:Int}(hd:2≤d)(h:n%d=1):zaY n d 1:=⟨by omega,by omega,by rw[uo];exact h⟩
theorem zl1 {n d v:Int}(hd:2≤d)(hl:2≤n%d)(h:zaY d (n%d) v):zaY n d ((d*(n%d - v)+1)/(n%d)):=by
 obtain⟨h1,h2,h3⟩:=h
 have hlt:n%d<d:=xU n (by omega)
 generalize hL:n%d=L at *
 have hdv:L∣d*(L - v)+1:=by
  have e:d*(L - v)+1=L*d - (d*v - 1):=by rw[wn,yO d L];omega
  rw[e]
  refine Int.dvd_sub (v7 L d) ?_
  exact Qg.mp (by rw[h3,y8 (by omega) (by omega)])
 obtain⟨k,hk⟩:=hdv
 rw[hk,Int.mul_ediv_cancel_left _ (by omega)]
 have hpos:0<L*k:=by
  rw[←hk]
  have:0<d*(L - v):=wR (by omega) (by omega)
  omega
 have hk1:1≤k:=by
  rcases uN k 1 with h|h
  ·have:L*k≤L*0:=xG (by omega) (by omega)
   rw[wK]at this
   omega
  ·exact h
 refine⟨hk1,?_,?_⟩
 ·rcases uN k d with h|h
  ·exact h
  ·have a:L*d≤L*k:=xG h (by omega)
   have b:d*(L - v)≤d*(L - 1):=xG (by omega) (by omega)
   have c:d*(L - 1)=L*d - d:=by rw[wn,yO d L,uo]
   omega
 ·have e:n*k%d=(L*k)%d:=by rw[←hL,uO n k,uO (n%d) k,uJ n (vZ d)]
  rw[e,←hk,Int.add_comm,uY,y8 (by omega) (by omega)]
theorem zjI {n d:Int}(h:Cop n d):Cop d (n%d):=by unfold Cop;rw[←zc9];exact h
theorem zhW {d L:Int}{j:Nat}(h0:2≤L)(hlt:L<d)(h:d*L<2^(j+1)):L*(d%L)<2^j:=by
 have hr0:0≤d%L:=yc d (by omega)
 have hr1:d%L<L:=xU d (by omega)
 have hr2:2*(d%L)<d:=by
  have e:=vA d L
  have hq:1≤d/L:=by
   rcases uN (d/L) 1 with h|h
   ·have:L*(d/L)≤L*0:=xG (by omega) (by omega)
    rw[wK]at this
    omega
   ·exact h
  have:L*1≤L*(d/L):=xG hq (by omega)
  omega
 have a:L*(2*(d%L))<L*d:=Int.mul_lt_mul_of_pos_left hr2 (by omega)
 have b:L*(2*(d%L))=2*(L*(d%L)):=by rw[uw]
 have c:L*d=d*L:=yO L d
 have e2:(2:Int)^(j+1)=2*2^j:=by rw[wL,yO]
 omega
structure zaB (kept fig:List Int)(i:Nat)(number step:Int):Prop where
 st:step=zy (kept.take i)
 lo:0≤number
 hi:number<step
 rs:∀j,j<i→∀d r,kept[j]? = some d→fig[j]? = some r→number%d=r
theorem zcw (kept fig:List Int):zaB kept fig 0 0 1:=⟨rfl,by omega,by omega,fun j h=>absurd h (yX j)⟩
theorem JC {l:List Int}{i:Nat}{d:Int}(h:l[i]? = some d):zy (l.take (i+1))=zy (l.take i)*d:=by
 rw[yn,h,JG]
 show zy (l.take i)*(d*1)=_
 rw[uo]
theorem zcn {kept fig:List Int}{i:Nat}{number step d r v:Int}(h2:∀x∈kept,2≤x)(u:zaB kept fig i number step)(hd:kept[i]? = some d)(hr:fig[i]? = some r)(hr0:0≤r)(hr1:r<d)(hv:zaY step d v) :
  zaB kept fig (i+1) (number+((r - number)*v%d)*step) (step*d):=by
 obtain⟨hst,hlo,hhi,hrs⟩:=u
 have hd2:2≤d:=h2 d (xq hd)
 have s0:0≤(r - number)*v%d:=yc _ (by omega)
 have s1:(r - number)*v%d<d:=xU _ (by omega)
 have hstep:0<step:=by omega
 refine⟨by rw[JC hd,hst],?_,?_,fun j hj d' r' hd' hr'=>?_⟩
 ·have:=wD s0 (v0 hstep)
  omega
 ·generalize (r - number)*v%d=k at *
  have a:k*step≤(d - 1)*step:=yD (by omega) (by omega)
  have b:(d - 1)*step=step*d - step:=by rw[Int.sub_mul,yO d step,Int.one_mul]
  omega
 ·rcases yy j i with h|h
  ·have hdv:d'∣step:=by
    rw[hst]
    exact zaA (xq (by rw[yU h];exact hd'))
   obtain⟨q,rfl⟩:=hdv
   rw[show number+((r - number)*v%d)*(d'*q)=number+d'*((r - number)*v%d*q) by rw[uw];,uY]
   exact hrs j h d' r' hd' hr'
  ·have e:j=i:=by omega
   subst e
   rw[hd]at hd';cases hd'
   rw[hr]at hr';cases hr'
   have e1:((r - number)*v%d*step)%d=(r - number)%d:=by
    have h3:=hv.one
    rw[yO step v]at h3
    rw[uO,uJ _ (vZ d),←uO,vL,uO,h3,uo,uJ _ (vZ d)]
   rw[wM,e1,←wM,show number+(r - number)=r by omega,y8 hr0 hr1]
theorem zdW {kept:List Int}{i:Nat}{d:Int}(hc:kept.Pairwise Cop)(hd:kept[i]? = some d):Cop (zy (kept.take i)) d:=by
 refine zas.mpr fun e he=>?_
 have hlt:=(xv.mp hd).1
 have:=yT.mp (show(kept.take i++kept.drop i).Pairwise Cop by rw[y0];exact hc)
 refine this.2.2 e he d ?_
 have e0:kept.drop i=d::kept.drop (i+1):=by
  rw[u7 hlt,(xv.mp hd).2]
 rw[e0];exact xD
noncomputable def jD (kept:List Int):Int:=-((zy kept - 1)/2)
noncomputable def jm (kept:List Int):Int:=zy kept/2
theorem Q5 (kept:List Int):jm kept=jD kept+zy kept - 1:=by
 unfold jm jD;omega
noncomputable def zF (all:List Int)(x:Int):List Int:=all.map fun d=>x%d
end RF
set_option maxHeartbeats 4000000
namespace RF
open PySem L2
theorem zb3:∀(ns:List Int) (i:Nat),(ns.map V.int).eraseIdx i=(ns.eraseIdx i).map V.int
 | [],_=>rfl
 |_::_,0=>rfl
 |x::r,i+1=>by
  show V.int x::(r.map V.int).eraseIdx i=V.int x::(r.eraseIdx i).map V.int
  rw[zb3 r i]
theorem qp {ns:List Int}{i:Int}(h0:0≤i)(h1:i<ns.length):atI (ns.map V.int) i=some (.int (ns.getD i.toNat 0)):=by
 have e:i=(i.toNat:Int):=by omega
 have hl:i.toNat<ns.length:=by omega
 generalize i.toNat=k at e hl
 subst e
 refine zfN ?_
 rw[xK,xA,xm hl]
 rfl
theorem zbq {ns:List Int}{k:Int}(h:0≤k):JP (ns.map V.int) none (some k)=(ns.take k.toNat).map V.int:=by
 have e:k=(k.toNat:Int):=by omega
 unfold JP
 rw[HT.sIx_none,e,HT.sIx_nat,vH,v3,xQ,vM]
 rcases uP k.toNat (ns.map V.int).length with hl|hl
 ·rw[uq hl]
 ·rw[yJ hl,xS,yK hl]
theorem Q1 {ns:List Int}{k:Int}(h:0≤k):JP (ns.map V.int) (some k) none=(ns.drop k.toNat).map V.int:=by
 have e:k=(k.toNat:Int):=by omega
 unfold JP
 rw[HT.sIx_none,e,HT.sIx_nat,xQ,wG]
 rcases uP k.toNat (ns.map V.int).length with hl|hl
 ·rw[uq hl]
  exact yK (by rw[yB];exact xr _)
 ·rw[yJ hl,vb,vv hl]
  simp
theorem zl5 {n:Nat}{i:Int}(h0:0≤i)(h1:i<n):seqIndex? i n=some i.toNat:=(zbZ (by unfold ixN;rw[if_pos h0,if_pos h1])).1
structure ZC (H:Hp)(t:Addr)(kept spare:List Int):Prop where
 ex:∃t1 t2,H t=some (.tup [.ref t1,.ref t2])∧H t1=some (.tup (kept.map V.int))∧H t2=some (.tup (spare.map V.int))
inductive Y2 (a:V)(H:Hp)(Q:VK)(E:XK):Prop
 |mk (n:Int) (h0:a=.int n) (q:∀kept spare t H',zv kept spare→zd H H'→H t=none→ZC H' t kept spare→Q (.ref t) H'):Y2 a H Q E
noncomputable def zbk:Sp:=Sp1 (Y2)
inductive zb7 (a b:V)(H:Hp)(Q:VK)(E:XK):Prop
 |mk (n k:Int) (h0:a=.int n) (h1:b=.int k) (h2:0≤k) (h3:k≤1000) (q:∀m:Int,0≤m→m<998244353→Q (.int m) H):zb7 a b H Q E
noncomputable def ZZ:Sp:=Sp2 (zb7)
theorem QH {a b:Int}(h:decide (V.int a=V.int b)=true):a=b:=by have:=of_decide_eq_true h;injection this
theorem YZ {a b:Int}(h:¬decide (V.int a=V.int b)=true):a≠b:=fun e=>h (by rw[e];exact decide_eq_true rfl)
theorem getD_mem {l:List Int}{i:Nat}(h:i<l.length):l.getD i 0∈l:=by
 rw[xA,xm h]
 exact uD h
noncomputable def Bas (H:Hp)(a:V)(kept spare:List Int):Prop:=(∃t,a=V.ref t∧ZC H t kept spare)∧zv kept spare
theorem ZC.up {H H':Hp}{t:Addr}{kept spare:List Int}(B:ZC H t kept spare)(S:zd H H'):ZC H' t kept spare:=by
 obtain⟨t1,t2,a,b,c⟩:=B.ex
 exact⟨t1,t2,S _ _ a,S _ _ b,S _ _ c⟩
theorem Bas.up {H H':Hp}{a:V}{kept spare:List Int}(B:Bas H a kept spare)(S:zd H H'):Bas H' a kept spare:=by
 obtain⟨⟨t,e,b⟩,g⟩:=B
 exact⟨⟨t,e,b.up S⟩,g⟩
theorem zv.ne {kept spare:List Int}(g:zv kept spare):kept.map V.int≠[]:=fun z=>by
 have:=congrArg wf z
 have:=g.k1
 simp only[xa,vw]at *
 omega
theorem zv.room {kept spare:List Int}(g:zv kept spare):(kept.map V.int).length+(spare.map V.int).length≤sizeLine:=by
 have h1:=g.k6
 have h2:=g.s4
 rw[xa,xa]
 exact x6 (show _≤10 by omega) (by decide)
theorem zv.many {kept spare:List Int}(g:zv kept spare):((kept++spare).map V.int).length<sizeLine:=by
 have h1:=g.k6
 have h2:=g.s4
 rw[xa,xw]
 exact ut (show _≤10 by omega) (by decide)
theorem zv.span {kept spare:List Int}(g:zv kept spare):0<zy kept:=qw fun d hd=>(g.rng d (xJ _ hd)).1
theorem j7 {ns:List Int}{i:Nat}{x:V}(h:(ns.map V.int)[i]? = some x):∃d,ns[i]? = some d∧x=.int d:=by
 rw[xK]at h
 cases hi:ns[i]? with
 |none=>rw[hi]at h;cases h
 |some d=>rw[hi]at h;cases h;exact⟨d,rfl,rfl⟩
noncomputable def zM (kept:List Int)(n:Int):Prop:=jD kept≤n∧n≤jm kept
noncomputable instance (kept:List Int) (n:Int):Decidable (zM kept n):=inferInstanceAs (Decidable (_∧_))
noncomputable def zfV (n:Int):V→V
 | .int d=>.int (n%d)
 |_=>.non
theorem zcA (n:Int)(ds:List Int):(ds.map V.int).map (zfV n)=(zF ds n).map V.int:=by
 unfold zF
 rw[yj,yj];rfl
inductive zdx (a:V)(H:Hp)(Q:VK)(E:XK):Prop
 |mk (kept:List Int) (spare:List Int) (h0:Bas H a kept spare) (q:∀p H',zd H H'→H' p=some (.tup ((kept++spare).map V.int))→Q (.ref p) H'):zdx a H Q E
noncomputable def QE:Sp:=Sp1 (zdx)
inductive zdB (a:V)(H:Hp)(Q:VK)(E:XK):Prop
 |mk (kept:List Int) (spare:List Int) (h0:Bas H a kept spare) (q:Q (.int (zy kept)) H):zdB a H Q E
noncomputable def ZS:Sp:=Sp1 (zdB)
inductive zeW (a:V)(H:Hp)(Q:VK)(E:XK):Prop
 |mk (kept:List Int) (spare:List Int) (h0:Bas H a kept spare) (q:Q (.int (jD kept)) H):zeW a H Q E
noncomputable def zhv:Sp:=Sp1 (zeW)
inductive zem (a:V)(H:Hp)(Q:VK)(E:XK):Prop
 |mk (kept:List Int) (spare:List Int) (h0:Bas H a kept spare) (q:Q (.int (jm kept)) H):zem a H Q E
noncomputable def zfG:Sp:=Sp1 (zem)
inductive zdH (a b:V)(H:Hp)(Q:VK)(E:XK):Prop
 |mk (kept:List Int) (spare:List Int) (n:Int) (h0:Bas H a kept spare) (h1:b=.int n) (q:Q (.bl (decide (zM kept n))) H):zdH a b H Q E
noncomputable def zbO:Sp:=Sp2 (zdH)
inductive zcq (a b:V)(H:Hp)(Q:VK)(E:XK):Prop
 |mk (kept:List Int) (spare:List Int) (n:Int) (h0:Bas H a kept spare) (h1:b=.int n) (q:∀l H',zd H H'→H l=none→H' l=some (.lst ((zF (kept++spare) n).map V.int))→Q (.ref l) H'):zcq a b H Q E
noncomputable def Zj:Sp:=Sp2 (zcq)
inductive zac (K:xb)(a b:V)(H:Hp)(Q:VK)(E:XK):Prop
 |mk (l:Addr) (ns:List Int) (i:Int) (h0:a=.ref l) (h1:b=.int i) (h2:SqL K H l (ns.map V.int)) (h3:0≤i) (q:∀m:Int,Q (.int m) H):zac K a b H Q E
noncomputable def zbc (K:xb):Sp:=Sp2 (zac K)
inductive zae (a b:V)(H:Hp)(Q:VK)(E:XK):Prop
 |mk (kept:List Int) (spare:List Int) (c:Int) (h0:Bas H a kept spare) (h1:b=.int c) (q:∀m:Int,jD kept≤m→m≤jm kept→Q (.int m) H):zae a b H Q E
noncomputable def zbn:Sp:=Sp2 (zae)
inductive zaL (cT:Addr)(a b:V)(H:Hp)(Q:VK)(E:XK):Prop
 |mk (kept:List Int) (spare:List Int) (n:Int) (h0:Bas H a kept spare) (h1:b=.int n) (q:(zM kept n→∀l H',zd H H'→H l=none→H' l=some (.lst ((zF (kept++spare) n).map V.int))→Q (.ref l) H')∧(¬zM kept n→∀H',zd H H'→E (.ref cT) none H')):zaL cT a b H Q E
noncomputable def qb (cT:Addr):Sp:=Sp2 (zaL cT)
inductive zfa (K:xb)(a:V)(H:Hp)(Q:VK)(E:XK):Prop
 |mk (l:Addr) (ns:List Int) (h0:a=.ref l) (h1:SqL K H l (ns.map V.int)) (h2:ns.length≤63) (q:∀H',Q (.bl true) H'):zfa K a H Q E
noncomputable def zbi (K:xb):Sp:=Sp1 (zfa K)
theorem md0 (a:Int){n:Int}(h:0<n):0≤a%n:=yc _ (Int.ne_of_gt h)
theorem md1 (a:Int){n:Int}(h:0<n):a%n<n:=xU _ h
theorem zbz {ns:List Int}(a:Int){m:Int}(hm:(ns.length:Int)=m)(h:0<m):atI (ns.map V.int) (a%m)=some (.int (ns.getD (a%m).toNat 0)):=qp (md0 a h) (by rw[hm];exact md1 a h)
theorem zjG {M:Int}(h:1≤M):0<M:=h
theorem nn1 {M:Int}(h:1≤M):0≤M:=v0 (zjG h)
theorem zki (a:Int):1≤1+a%6∧1+a%6≤6:=by omega
theorem zmJ {M:Int}(h:M≤6)(a:Int):M+a%5≤((14:Nat):Int):=by omega
theorem zk4 {M x:Int}(m1:1≤M){a:Int}(h:M+a%5<x):0<x:=by omega
theorem ziV {x:Int}{n:Nat}(h0:0≤x)(h1:x<n):x.toNat<n:=by omega
theorem zio {x:Int}{n:Nat}(h0:0≤x)(h1:x<n)(hn:n≤14):-(2^63)≤x∧x<2^63:=by omega
theorem zmO {n:Nat}(h:0<(n:Int)):n - 1<n:=by omega
theorem zkW {x:Int}{n:Nat}(h:x<n)(h':0<(n:Int)):x≤((n - 1:Nat):Int):=by omega
theorem zmn {M a:Int}{len:Nat}(m1:1≤M)(m2:M≤6)(h:(len:Int)=M+a%5):(1≤M.toNat∧M.toNat≤6)∧M.toNat≤len∧len≤M.toNat+4:=by omega
theorem zjo (ns:List Int)(m k a:Nat)(h:ns.length≤14):(((ns.take m).drop a).map V.int).length+(((ns.take k).take a).map V.int).length≤sizeLine:=by
 simp only[xa,yB,ye]
 have:(30:Nat)≤sizeLine:=by decide
 omega
theorem zby {d:Int}(h:2≤d):0<d:=by omega
theorem d64 {d:Int}(h2:2≤d)(h6:d≤1000000):-(2^64)<d∧d<2^64:=by omega
theorem v64 {v d:Int}(h0:0≤v)(h1:v<d)(h6:d≤1000000):-(2^64)<v∧v<2^64:=by omega
theorem zlm {d s:Int}(h2:2≤d)(h6:d≤1000000)(m1:s<d):d*s<2^40:=by
 have a:=xG (show s≤1000000 by omega) (show 0≤d by omega)
 have b:(2:Int)^40=1099511627776:=by decide
 omega
theorem zlu {x:Int}(h0:0≤x)(h1:x≠0)(h2:x≠1):2≤x:=by omega
theorem zmS {x d:Int}(h2:2≤x)(h:x<d)(h6:d≤1000000):(x≤1000000)∧(0<x∧x<1073741824):=by omega
theorem zv.r20 {kept spare:List Int}(g:zv kept spare)(n:Int):(zF (kept++spare) n).length≤20:=by
 have h1:=g.k6
 have h2:=g.s4
 unfold zF
 rw[xa,xw];omega
end RF
set_option maxHeartbeats 2000000
namespace L2
open PySem PySem.Spec PyProof.Rows
theorem zbN {K:xb}{k1 k2:Knd}{a1 a2:Addr}{xs ys:List V}{g:TG}{tb:TS}{D:qY}{σ:St}{H:Hp}(Pv:Nat→St→Hp→Prop)(h0:Pv 0 σ H)(hl:∀i σ H,Pv i σ H→k1.sq K H a1 xs∧k2.sq K H a2 ys)
  (hs:∀i x y p σ H,xs[i]? = some x→ys[i]? = some y→Pv i σ H→H p=none→g (.ref p) σ (upd H p (.tup [x,y])) fun σ2 H2=>tb {D with nx:=Pv (i+1),ct:=Pv (i+1),bk:=D.nx} σ2 H2)
  (hd:∀σ H,Pv (min xs.length ys.length) σ H→D.nx σ H) :
  ∃W:Nat→Nat→St→Hp→Prop,(∃m,W 0 m σ H)∧∀i m σ H,W i m σ H →
   ((Itz K k1 k2 a1 a2).stop i H∧D.nx σ H)∨((Itz K k1 k2 a1 a2).go i H∧∃N:St→Hp→Prop,(∀σ' H',N σ' H'→∃m',m'<m∧W (i+1) m' σ' H')∧∀x H',(Itz K k1 k2 a1 a2).yld i H x H'→g x σ H' fun σ2 H2=>tb {D with nx:=N,ct:=N,bk:=D.nx} σ2 H2):=by
 refine⟨fun i m σ H=>m=min xs.length ys.length - i∧i≤min xs.length ys.length∧Pv i σ H,⟨_,rfl,xV _,h0⟩,?_⟩
 rintro i m σ H ⟨rfl,hi,p⟩
 obtain⟨q1,q2⟩:=hl i σ H p
 by_cases hlt:i<min xs.length ys.length
 ·have l1:i<xs.length:=xy hlt (Nat.min_le_left ..)
  have l2:i<ys.length:=xy hlt (Nat.min_le_right ..)
  refine .inr ⟨⟨xs,ys,_,_,q1,q2,xm l1,xm l2⟩,Pv (i+1),fun σ' H' n=>⟨_,by omega,rfl,hlt,n⟩,fun x H' hy=>?_⟩
  obtain⟨a,u,v,rfl,ha,rfl,hu,hv⟩:=hy
  exact hs i u v a σ H (hu xs q1) (hv ys q2) p ha
 ·have e:i=min xs.length ys.length:=by omega
  subst e
  refine .inl ⟨⟨xs,ys,q1,q2,?_⟩,hd σ H p⟩
  rcases uP xs.length ys.length with h|h
  ·exact .inl (by rw[uq h];exact xr _)
  ·exact .inr (by rw[yJ h];exact xr _)
section
variable {X:Cx}
noncomputable def FnV (P:Program)(w:World)(K:xb)(mg:Str→Option Value)(base:Heap)(f:Addr)(ps:List Str)(k:Nat)(sp:Sp):Prop :=
 ∃fd,Jw P w K mg base (CX1 P w) k f fd ps sp∧xj K (.ref f)=true∧ZP K fd ps []
theorem qJ {x:Str}{ps:List Str}{k:Nat}{sp:Sp}{pos:Pos}(F:FnS X.prog X.w X.K X.mg X.base x ps k sp)(hg:Gl X x:=by rfl)(hd:(x==("__debug__":Str))=false:=by decide) :
  PE X (.Name x pos) (fun σ H Q=>∀f,FnV X.prog X.w X.K X.mg X.base f ps k sp→Q (.ref f) H):=by
 obtain⟨f,fd,F,hm,hk,hb⟩:=F.ex
 exact fun _ _ _ H _ I h=>Zo I hg hm ⟨.ref f,H,I,rfl,h f ⟨fd,F,hk,hb⟩⟩ hd
end
end L2
namespace RF
structure jP (kept fig:List Int)(v:Int):Prop where
 fits:zM kept v
 rs:∀(j:Nat) (d r:Int),kept[j]? = some d→fig[j]? = some r→v%d=r
structure zK (ds fig:List Int):Prop where
 len:fig.length=ds.length
 rng:∀(j:Nat) (d r:Int),ds[j]? = some d→fig[j]? = some r→0≤r∧r<d
theorem zv.copK {kept spare:List Int}(g:zv kept spare):kept.Pairwise Cop:=(yT.mp g.cop).1
theorem Qr {kept spare fig:List Int}(g:zv kept spare)(hl:kept.length≤fig.length){v u:Int}(a:jP kept fig v)(b:jP kept fig u):v=u:=by
 have lh:=Q5 kept
 refine ZF g.copK (lo:=jD kept) (fun d hd=>?_) a.fits.1 (by have:=a.fits.2;omega) b.fits.1 (by have:=b.fits.2;omega)
 obtain⟨j,hj,e⟩:=uH.mp hd
 have h1:kept[j]? = some d:=by rw[xm hj,e]
 have h2:fig[j]? = some fig[j]:=xm (by omega)
 rw[a.rs j d _ h1 h2,b.rs j d _ h1 h2]
theorem zcG {kept:List Int}{d x:Int}(hd:d∈kept):(x - zy kept)%d=x%d:=by
 obtain⟨k,e⟩:=zaA hd
 rw[e,Int.sub_mul_emod_self_left]
theorem zec {kept fig:List Int}{number step:Int}(u:zaB kept fig kept.length number step)(h:¬jm kept<number):jP kept fig number:=by
 refine⟨⟨?_,by omega⟩,fun j d r hd hr=>u.rs j (xv.mp hd).1 d r hd hr⟩
 have:=u.lo
 have h2:0<zy kept:=by
  have:=u.st
  rw[xS]at this
  have:=u.hi
  omega
 unfold jD
 omega
theorem zcC {kept fig:List Int}{number step:Int}(u:zaB kept fig kept.length number step)(h:jm kept<number):jP kept fig (number - zy kept):=by
 have hs:=u.st
 rw[xS]at hs
 have hi:=u.hi
 have lh:=Q5 kept
 refine⟨⟨by omega,?_⟩,fun j d r hd hr=>by rw[zcG (xq hd)];exact u.rs j (xv.mp hd).1 d r hd hr⟩
 have h0:=u.lo
 have:0≤jm kept:=by unfold jm;omega
 omega
theorem Jo {ds:List Int}{n:Int}{j:Nat}{d:Int}(h:ds[j]? = some d):(zF ds n)[j]? = some (n%d):=by
 unfold zF;rw[xK,h];rfl
theorem qv (ds:List Int)(n:Int):(zF ds n).length=ds.length:=xa ..
theorem JH {ds:List Int}(h2:∀d∈ds,2≤d)(n:Int):zK ds (zF ds n):=by
 refine⟨qv _ _,fun j d r hd hr=>?_⟩
 rw[Jo hd]at hr
 cases hr
 have:=h2 d (xq hd)
 exact⟨yc _ (by omega),xU _ (by omega)⟩
theorem zcE {kept spare:List Int}{n v:Int}(hf:zM kept v)(e:∀d∈kept,v%d=n%d):jP kept (zF (kept++spare) n) v:=by
 refine⟨hf,fun j d r hd hr=>?_⟩
 have hj:=(xv.mp hd).1
 rw[Jo (show(kept++spare)[j]? = some d by rw[yt hj];exact hd)]at hr
 cases hr
 exact e d (xq hd)
theorem Zb {kept spare:List Int}{n:Int}(hf:zM kept n):jP kept (zF (kept++spare) n) n:=zcE hf fun _ _=>rfl
theorem zj3 {ds fig:List Int}{x:Int}(h:fig.length=ds.length):¬zK ds (fig++[x]):=fun v=>by
 have:=v.len
 rw[xw]at this
 simp only[uA]at this
 omega
theorem zgZ {ds fig:List Int}(h:fig.length=ds.length)(h1:1≤ds.length):¬zK ds (fig.take (fig.length - 1)):=fun v=>by
 have:=v.len
 rw[ye]at this
 omega
theorem zhZ {ds fig:List Int}{j:Nat}{d x:Int}(hl:fig.length=ds.length)(hd:ds[j]? = some d)(hx:x<0∨d≤x):¬zK ds (fig.set j x):=fun v=>by
 have hj:=(xv.mp hd).1
 have:=v.rng j d x hd (by rw[yH (by omega)])
 omega
theorem zK.kept_len {kept spare ns:List Int}(v:zK (kept++spare) ns):kept.length≤ns.length:=by
 have:=v.len
 rw[xw]at this
 omega
theorem zK.kept_rng {kept spare ns:List Int}(v:zK (kept++spare) ns):∀(j:Nat) (d r:Int),kept[j]? = some d→ns[j]? = some r→0≤r∧r<d:=fun j d r hd hr =>
 v.rng j d r (by rw[yt (xv.mp hd).1];exact hd) hr
open PySem L2
theorem Ji (a:List Int):SeqAt.shaped (.list (a.map .int))=true:=by
 simp[SeqAt.shaped,PyData.canLay0,PyData.canLayAll0,PyData.depth,PyData.depthAll,vC,vN]
theorem Q4:∀a b:List Int,PyData.eqv (.list (a.map .int)) (.list (b.map .int))=decide (a=b):=by
 have all:∀a b:List Int,PyData.eqvAll (a.map .int) (b.map .int)=decide (a=b):=by
  intro a
  induction a with
  |nil=>intro b;cases b<;>simp[PyData.eqvAll]
  |cons x r ih =>
   intro b
   cases b with
   |nil=>simp[PyData.eqvAll]
   |cons y q =>
    simp only[xW,PyData.eqvAll,PyData.eqv,ih q]
    by_cases h:x=y<;>by_cases h2:r=q<;>simp[h,h2]
 intro a b
 simp only[PyData.eqv,all]
theorem rdL {K:xb}{H:Hp}{l:Addr}{xs:List Int}(h:H l=some (.lst (xs.map V.int))):RdD K H (.ref l) (.list (xs.map .int)):=.lst (SqL.of h) (.ints xs)
inductive zfK (j:Nat)(a b:V)(H:Hp)(Q:VK)(E:XK):Prop
 |mk (n d:Int) (h0:a=.int n) (h1:b=.int d) (h2:2≤d) (h3:d≤1000000) (h4:Cop n d) (h5:d*(n%d)<2^j) (q:∀v,zaY n d v→Q (.int v) H):zfK j a b H Q E
noncomputable def zde (j:Nat):Sp:=Sp2 (zfK j)
inductive Y5 (a b:V)(H:Hp)(Q:VK)(E:XK):Prop
 |mk (kept spare:List Int) (l:Addr) (ns:List Int) (h0:Bas H a kept spare) (h1:b=.ref l) (h2:H l=some (.lst (ns.map V.int))) (h3:kept.length≤ns.length) (h4:(∀(j:Nat) (d r:Int),kept[j]? = some d→ns[j]? = some r→0≤r∧r<d)) (q:∀v H',jP kept ns v→zd H H'→Q (.int v) H'):Y5 a b H Q E
noncomputable def Q2:Sp:=Sp2 (Y5)
inductive zbt (cB:Addr)(a b:V)(H:Hp)(Q:VK)(E:XK):Prop
 |mk (kept spare:List Int) (l:Addr) (ns:List Int) (h0:Bas H a kept spare) (h1:b=.ref l) (h2:H l=some (.lst (ns.map V.int))) (q:(zK (kept++spare) ns→∀H',zd H H'→Q .non H')∧(¬zK (kept++spare) ns→∀H',zd H H'→E (.ref cB) none H')):zbt cB a b H Q E
noncomputable def Zv (cB:Addr):Sp:=Sp2 (zbt cB)
inductive Yn (cB:Addr)(a b:V)(H:Hp)(Q:VK)(E:XK):Prop
 |mk (kept spare:List Int) (l:Addr) (ns:List Int) (h0:Bas H a kept spare) (h1:b=.ref l) (h2:H l=some (.lst (ns.map V.int))) (q:(zK (kept++spare) ns→∀v H',jP kept ns v→zd H H'→Q (.bl (decide (zF (kept++spare) v=ns))) H')∧(¬zK (kept++spare) ns→∀H',zd H H'→E (.ref cB) none H')):Yn cB a b H Q E
noncomputable def Qt (cB:Addr):Sp:=Sp2 (Yn cB)
inductive Ye (cB cW:Addr)(a b:V)(H:Hp)(Q:VK)(E:XK):Prop
 |mk (kept spare:List Int) (l:Addr) (ns:List Int) (h0:Bas H a kept spare) (h1:b=.ref l) (h2:H l=some (.lst (ns.map V.int))) (q:(zK (kept++spare) ns→∀v H',jP kept ns v→zF (kept++spare) v=ns→zd H H'→Q (.int v) H')∧(zK (kept++spare) ns→∀v H',jP kept ns v→zF (kept++spare) v≠ns→zd H H'→E (.ref cW) none H')∧(¬zK (kept++spare) ns→∀H',zd H H'→E (.ref cB) none H')):Ye cB cW a b H Q E
noncomputable def zR (cB cW:Addr):Sp:=Sp2 (Ye cB cW)
theorem zjB {ns:List Int}(h:1≤ns.length):JP (ns.map V.int) none (some (-1))=(ns.take (ns.length - 1)).map V.int:=by
 unfold JP
 rw[HT.sIx_none,xa]
 have e:HT.sIx ns.length ns.length (some (-1))=ns.length - 1:=by
  show(if (-1:Int)<0 then(-1+(ns.length:Int)).toNat else min (-1:Int).toNat ns.length)=_
  rw[if_pos (by decide)];omega
 rw[e,vH,v3,vM]
inductive zb1 (a:V)(H:Hp)(Q:VK)(E:XK):Prop
 |mk (t:Addr) (ds:List Int) (h0:a=.ref t) (h1:H t=some (.tup (ds.map V.int))) (h2:(∀d∈ds,2≤d∧d≤1000000)) (q:Q (.int (zy ds)) H):zb1 a H Q E
noncomputable def zdV:Sp:=Sp1 (zb1)
inductive Yr (a b:V)(H:Hp)(Q:VK)(E:XK):Prop
 |mk (t l:Addr) (ds ns:List Int) (h0:a=.ref t) (h1:b=.ref l) (h2:H t=some (.tup (ds.map V.int))) (h3:H l=some (.lst (ns.map V.int))) (h4:(∀d∈ds,2≤d∧d≤1000000)) (h5:ds.Pairwise Cop) (h6:ds.length≤ns.length) (h7:(∀(j:Nat) (d r:Int),ds[j]? = some d→ns[j]? = some r→0≤r∧r<d)) (q:∀v H',jP ds ns v→zd H H'→Q (.int v) H'):Yr a b H Q E
noncomputable def zaa:Sp:=Sp2 (Yr)
theorem zic {kept ns:List Int}{v:Int}(h:jP kept (ns.take kept.length) v):jP kept ns v :=
 ⟨h.fits,fun j d r hd hr=>h.rs j d r hd (by rw[yU (xv.mp hd).1];exact hr)⟩
theorem zjm {kept ns:List Int}(h:∀(j:Nat) (d r:Int),kept[j]? = some d→ns[j]? = some r→0≤r∧r<d):∀(j:Nat) (d r:Int),kept[j]? = some d→(ns.take kept.length)[j]? = some r→0≤r∧r<d:=fun j d r hd hr =>
 h j d r hd (by rw[yU (xv.mp hd).1]at hr;exact hr)
theorem zds {cB cW:Addr}{H:Hp}{a:V}{l:Addr}{kept spare:List Int}{n:Int}{Q:VK}{E:XK}(B:Bas H a kept spare)(el:H l=some (.lst ((zF (kept++spare) n).map V.int)))(hf:zM kept n)
  (q:∀H',zd H H'→Q (.int n) H'):zR cB cW [a,.ref l] H Q E:=by
 have h2:∀d∈kept++spare,2≤d:=fun d hd=>(B.2.rng d hd).1
 have hv:zK (kept++spare) (zF (kept++spare) n):=JH h2 n
 have un:∀v,jP kept (zF (kept++spare) n) v→v=n:=fun v hk=>Qr B.2 hv.kept_len hk (Zb hf)
 exact⟨a,.ref l,rfl,kept,spare,l,_,B,rfl,el,fun _ v H' hk _ S=>by rw[un v hk];exact q H' S,fun _ v H' hk he S=>absurd (by rw[un v hk]) he,fun z=>absurd hv z⟩
end RF
namespace L2
open PySem PySem.Spec PyProof.Rows
noncomputable def Ite (K:xb)(a:Addr):It :=
 ⟨fun i H=>∃xs x,SqL K H a xs∧xs[i]? = some x,
  fun i H x H'=>∃p u,x=.ref p∧H p=none∧H'=upd H p (.tup [.int (i:Int),u])∧∀xs,SqL K H a xs→xs[i]? = some u,
  fun i H=>∃xs,SqL K H a xs∧xs.length≤i⟩
structure EAt (h:Heap)(n a:Addr)(i:Nat):Prop where
 en:∃old,IsEnum h (n+1) n (i:Int) old
 it:h.IsListIter n a i
noncomputable def efp (n:Addr):List Addr:=[n+1,n]
theorem zgU {P:Program}{w:World}{K:xb}{els:List Expr}{x1:Nat}{tpos:Pos}(n a:Addr) :
  Qs P w K (.Tuple els x1 tpos) (Ite K a) (efp n) (n+1) (fun i h=>EAt h n a i) where
 mem:=.head _
 obj:=fun i h Z b hb=>by
  obtain⟨⟨old,he⟩,oi,hi,_,di⟩:=Z
  unfold efp at hb
  simp only[xt,xY,or_false]at hb
  rcases hb with rfl|rfl
  ·exact⟨_,he,fun v z=>by cases z⟩
  ·exact⟨_,hi,fun v z=>by rw[di]at z;cases z⟩
 keep:=fun i h h' Z k=>by
  obtain⟨⟨old,he⟩,oi,hi,r⟩:=Z
  exact⟨⟨old,k _ (.head _) _ he⟩,oi,k _ (.tail _ (.head _)) _ hi,r⟩
 item:=by
  intro X hP hw hK hc i pins s σ H E I hf Z hg
  subst hP hw hK
  obtain⟨xs,x,q1,hx⟩:=hg
  obtain⟨its,r1,e1⟩:=I.knd (k:=.L) q1
  obtain⟨u,hu,ru⟩:=r1.get hx
  have fl:∀b∈efp n,b<s.heap.objs.size:=fun b hb=>by
   obtain⟨⟨old,he⟩,oi,hi,_⟩:=id Z
   unfold efp at hb
   simp only[xt,xY,or_false]at hb
   rcases hb with rfl|rfl
   ·exact xp he
   ·exact xp hi
  obtain⟨⟨old,he⟩,hit⟩:=id Z
  refine wpAny_pyNext_enum_item he hit e1 (x:=u) (by simpa using hu) (uC n) fun h' ho hit' hT hz hk=>?_
  refine⟨.ref s.heap.objs.size,rfl,wpAny_letOwnedTupleGo_enum (s:={s with heap:=h',toks:=s.toks+1}) ho fun h'' he'' sb=>?_⟩
  have sb:yF (n+1) h' h'':=sb
  have n1:n+1∈efp n:=.head _
  have n0:n∈efp n:=.tail _ (.head _)
  have I1:Inv X pins σ (upd H s.heap.objs.size (.tup [.int (i:Int),x])) {s with heap:=s.heap.push {cls:=.type "tuple",data:=.seq #[.int i s.toks,u]},toks:=s.toks} :=
   I.laid (fun b o e=>xg _ e) (xr _) ⟨by show 2≤sizeLine;decide,[.int i s.toks,u],.cons ⟨_,rfl⟩ (.cons ru .nil),⟨_,xF _ rfl,rfl,_,rfl⟩⟩
  have none':∀b∈efp n,upd H s.heap.objs.size (.tup [.int (i:Int),x]) b=none:=fun b hb=>by
   rw[zC (xz (fl b hb))];exact(hf b hb).1
  have I2:Inv X pins σ (upd H s.heap.objs.size (.tup [.int (i:Int),x])) {s with heap:=h'',toks:=s.toks+1}:=Inv.turnedL (s:={s with heap:=s.heap.push {cls:=.type "tuple",data:=.seq #[.int i s.toks,u]},toks:=s.toks}) (fp:=efp n) (t':=s.toks+1) I1 (fun b o hb e=>by
   have hb4:b≠n+1:=fun z=>hb (by rw[z];exact n1)
   have hb0:b≠n:=fun z=>hb (by rw[z];exact n0)
   refine sb.extBut _ _ hb4 ?_
   rcases uI e with⟨z,z2⟩|e
   ·rw[z,z2];exact hT
   ·exact hk b o hb4 hb0 e) fun b hb=>⟨none' b hb,(hf b hb).2⟩
  exact⟨.ref s.heap.objs.size,_,I2,rfl,⟨_,x,rfl,I.fresh,rfl,fun zs hz=>by rw[I.knd_inj (k:=.L) hz q1];exact hx⟩,⟨⟨_,he''⟩,hit'.extBut sb.extBut (Ne.symm (uC n))⟩,none'⟩
 done:=by
  intro X hP hw hK hc i pins s σ H E I hf Z hg
  subst hP hw hK
  obtain⟨xs,q1,hx⟩:=hg
  obtain⟨its,r1,e1⟩:=I.knd (k:=.L) q1
  have l1:=r1.length
  obtain⟨⟨old,he⟩,hit⟩:=id Z
  refine wpAny_pyNext_enum_end (I.ok.hd hc) he hit e1 (by simp;omega) fun h' hk=>⟨rfl,I.turnedL (fp:=efp n) (t':=s.toks) (fun b o hb e=>hk b o (fun z=>hb (by rw[z];exact .tail _ (.head _))) e) hf⟩
 self:=fun _ _ _ _ _ Z h=>by
  obtain⟨⟨old,he⟩,_⟩:=Z
  exact wpAny_pyIter_enum he h
section
variable {X:Cx}{els:List Expr}{x1:Nat}{tpos:Pos}
noncomputable def zmu (K:xb)(ta:TA):TI:=fun σ H R=>ta σ H fun vs H1=>∃a,vs=[.ref a]∧(∃xs,SqL K H1 a xs)∧R (Ite K a) H1
theorem zkM {a:Expr}{ta:TA}{p pos:Pos}(hg:Gl X "enumerate")(hm:X.mg "enumerate"=none)(ha:PA X [a] ta)(hs:ql a=true:=by rfl) :
  PI X (.Tuple els x1 tpos) (.Call (.Name "enumerate" p) [a] [] pos) (zmu X.K ta):=by
 intro pins s σ H R I h
 refine wpAny_Call_Name_kw (JJ I hg hm PyProof.Rows.Boot.«enumerate» ?_)
 refine PyProof.Rows.callWith_type1 (thn (ha pos pins s σ H _ I h) fun us s1 h1=>?_) (jH hs) (Jv rfl)
 obtain⟨vs,H1,I1,r,a1,rfl,⟨xs,q1⟩,q⟩:=h1
 obtain⟨u,rfl,ru⟩:=qm r
 cases ru
 obtain⟨its,r1,e1⟩:=I1.knd (k:=.L) q1
 refine call_enumerate_list e1 fun h' he hit hz hk=>wpAny_pyIter_enum he ?_
 refine⟨s1.heap.objs.size+1,efp s1.heap.objs.size,_,_,H1,rfl,I1.kept (t':=s1.toks) hk,zgU _ a1,⟨⟨_,he⟩,hit⟩,fun b hb=>?_,q⟩
 have hle:s1.heap.objs.size≤b:=by
  unfold efp at hb
  simp only[xt,xY,or_false]at hb
  rcases hb with rfl|rfl
  ·exact ug _ _
  ·exact xr _
 exact I1.fpOk hle (I1.hok.fresh hle)
end
section
variable {M:Model}{A:Around}{E:Value→Shared→Prop}{s:Shared}
theorem zi4 {base:Heap}{l:List Env}{e:Addr}{cls a0 fl:Value}{fo:Option Addr}{Q:Unit→Shared→Prop}(hkb:base.StaysIn s.heap)(hl:s.heap.FunFrames base l)(ht:s.heap.TracedAtW base e cls a0 fl)
  (h:∀h' fl',base.StaysIn h'→h'.FunFrames base l→h'.TracedAtW base e cls a0 fl'→s.heap.UpToSlots h'→Q () {s with heap:=h'}):wpAny M A (setFlight (.ref e) fo) Q E s:=by
 obtain⟨oe,vs,T,oT,ts,he,hcls,hd,h1,hnT,hTe,hT,hdT,h3⟩:=ht
 have z3:3<ts.size:=(yN.mp h3).1
 have ot:∀b,b≠T→(s.heap.update T (Obj.mapFields (·.setIfInBounds 3 (fo.elim Value.none fun f=>rawInt f)))).get? b=s.heap.get? b:=fun b hb=>xT _ _ (Ne.symm hb)
 have nr:∀b o,s.heap.get? b=some o→(∀vs,o.data≠.fields vs)→b≠T:=fun b o hb hnf q=>by rw[q,hT]at hb;cases hb;exact hnf ts hdT
 unfold setFlight;refine wpAny_bind (wpAny_field he hd h1 ?_);rw[if_pos (show(Value.ref T != Value.none)=true from by simp)]
 refine wpAny_setField hT hdT z3 (h _ (fo.elim Value.none fun f=>rawInt f) (fun b o hbo=>(ot b fun q=>by rw[q,hnT]at hbo;cases hbo).trans (hkb b o hbo)) (hl.of_keeps fun b o hb hnf=>⟨o,(ot b (nr b o hb hnf)).trans hb,rfl⟩) ?_ fun b o hb hnf=>⟨o.slots,(ot b (nr b o hb hnf)).trans hb⟩)
 exact⟨oe,vs,T,_,_,(ot e (Ne.symm hTe)).trans he,hcls,hd,h1,hnT,hTe,yk _ hT (Obj.isFreed_of_fields (Obj.data_mapFields hdT _)),Obj.data_mapFields hdT _,by simp[z3]⟩
theorem zia {α:Type}{what:String}{cenv:Env}{base:Heap}{l:List Env}{e:Addr}{cls a0 fl:Value}{Q:α→Shared→Prop}(hkb:base.StaysIn s.heap)(hl:s.heap.FunFrames base l)(ht:s.heap.TracedAtW base e cls a0 fl)
  (h:∀h' fl',base.StaysIn h'→h'.FunFrames base l→h'.TracedAtW base e cls a0 fl'→s.heap.UpToSlots h'→E (.ref e) {s with heap:=h'}):wpAny M A (PySem.passOn what (.ref e) cenv:Sem α) Q E s:=by
 obtain⟨oe,vs,T,oT,ts,he,hcls,hd,h1,hnT,hTe,hT,hdT,h3⟩:=id ht
 unfold PySem.passOn
 refine wpAny_bind (wpAny_field he hd h1 ?_)
 rw[if_neg (show ¬((Value.ref T==Value.none)=true) from xB)]
 exact wpAny_bind (zi4 hkb hl ht fun h' fl' k1 k2 k3 k4=>wpAny_throw (h h' fl' k1 k2 k3 k4))
theorem zgs {base:Heap}{env:Env}{outer:List Env}{L e:Addr}{cls a0 fl:Value}{Q:Unit→Shared→Prop}(hfr:A.frames=some (env::outer))(hf:env.frame=some L)(hkb:base.StaysIn s.heap)(hen:base.get? e=none)
  (hl:s.heap.FunFrames base (env::outer)) (ht:s.heap.TracedAtW base e cls a0 fl) (hQ:∀h',base.StaysIn h'→h'.TracedW base e cls a0→s.heap.UpToSlots h'→Q () {s with heap:=h'}):wpAny M A (leaving env (.ref e)) Q E s:=by
 obtain⟨oe,vs,T,oT,ts,he,⟨hcls,h0⟩,hd,h1,hnT,hTe,hT,hdT,h3⟩:=id ht
 unfold leaving
 by_cases hq:(fl==rawInt L)=true
 ·refine wpAny_bind ?_
  unfold noteFrame;simp only[hf]
  refine wpAny_bind (wpAny_field he hd h1 ?_);rw[if_pos (show(Value.ref T != Value.none)=true from by simp)]
  refine wpAny_bind (wpAny_field hT hdT h3 ?_);rw[if_pos hq]
  exact wpAny_pure (wpAny_setFlight_noneW hkb hl ht fun h' k1 k2 k3 k4=>hQ h' k1 k3 fun b o hb hn=>⟨o.slots,k4 b o hb hn⟩)
 ·subst hcls
  unfold noteFrame;simp only[hf]
  refine wpAny_bind (wpAny_bind (wpAny_field he hd h1 ?_));rw[if_pos (show(Value.ref T != Value.none)=true from by simp)]
  refine wpAny_bind (wpAny_field hT hdT h3 ?_);rw[if_neg hq]
  refine wpAny_bind (wpAny_setField hT hdT (yN.mp h3).1 ?_)
  have ot:∀b,b≠T→(s.heap.update T (Obj.mapFields (·.setIfInBounds 3 Value.none))).get? b=s.heap.get? b:=fun b hb=>xT _ _ (Ne.symm hb)
  have nr:∀b o,s.heap.get? b=some o→(∀vs,o.data≠.fields vs)→b≠T:=fun b o hb hnf q=>by rw[q,hT]at hb;cases hb;exact hnf ts hdT
  exact wpAny_newEntryW hfr (hl.of_keeps fun b o hb hnf=>⟨o,(ot b (nr b o hb hnf)).trans hb,rfl⟩) hf ((ot e (Ne.symm hTe)).trans he) (fun b o hbo=>(ot b fun q=>by rw[q,hnT]at hbo;cases hbo).trans (hkb b o hbo)) hen hd (yN.mp h1).1 h0
   fun h' ⟨x1,x2,x3,x4⟩=>hQ h' x1 x3 fun b o hb hnf=>x4 b o ((ot b (nr b o hb hnf)).trans hb) hnf
end
section
variable {P:Program}{w:World}{K:xb}{mg:Str→Option Value}{base:Heap}{N:List Str}{qual:Str}{scope:Scope}{f:Addr}{cd:Value}{A:Around}{outer:List Env}{s s1:Shared}{H H1:Hp}{E:XK}
 {pins:List (Addr×Obj)} {σ:St} {hid:List Addr} {h':Heap} {ea:Addr} {C a0:Value} {d:Option Addr}
theorem zi8 (I:Inv (zr (CX1 P w) P w K mg base N qual scope f cd A outer s H E) pins σ H1 s1)(hf:∀b∈frs (zr (CX1 P w) P w K mg base N qual scope f cd A outer s H E).stack,b∈hid)
  (hh:∀b∈hid,b∈frs (zr (CX1 P w) P w K mg base N qual scope f cd A outer s H E).stack∨(s.heap.get? b=none∧H1 b=none))
  (st:(x8 s1.heap hid).StaysIn h') (sm:∀b∈frs (zr (CX1 P w) P w K mg base N qual scope f cd A outer s H E).stack,∀o,s1.heap.get? b=some o→(∀vs,o.data≠.fields vs)→∃sl,h'.get? b=some {o with slots:=sl})
  (tr:h'.TracedW (x8 s1.heap hid) ea C a0) (hea:ea∈hid∨s1.heap.get? ea=none) (dx:∀o,h'.get? ea=some o→Dx o d) (e:E C d H1):CX1 P w outer H s E (.ref ea) {s1 with heap:=h'}:=by
 have old:∀b o,s.heap.get? b=some o→∃o',s1.heap.get? b=some o':=fun b o q=>I.base.there b o q (fun z=>nomatch z)
 have frS:=fun b hb=>(I.stack.mem (b:=b) hb).2
 have keepB:∀b o,b∉hid→s1.heap.get? b=some o→h'.get? b=some o:=fun b o hb q=>st b o (yz hid q hb)
 have trk:∀b o,H1 b=some o→b∉hid:=fun b o q hb=>by
  rcases hh b hb with z|⟨_,z⟩
  ·rw[I.stkFree b z]at q;cases q
  ·rw[z]at q;cases q
 have fr2:∀b o,s.heap.get? b=some o→b∈hid→b∈frs outer:=fun b o q hb=>by
  rcases hh b hb with z|⟨z,_⟩
  ·rcases xt.mp (I.stkSub b z)with y|y
   ·exact absurd (xy (xp q) I.ok.above) (by rw[y];exact yd _)
   ·exact y
  ·rw[z]at q;cases q
 have inStk:∀b,b∈frs outer→b∈frs (zr (CX1 P w) P w K mg base N qual scope f cd A outer s H E).stack:=fun b hb=>xx _ hb
 obtain⟨oe,vs,T,oT,ts,he,⟨hc,h0⟩,hd,h1,hnT,hne,hT,hdT,h3⟩:=tr
 have gone:∀b o',(x8 s1.heap hid).get? b=none→s1.heap.get? b=some o'→b∈hid:=fun b o' z q=>by
  by_cases hb:b∈hid
  ·exact hb
  ·rw[yz hid q hb]at z;cases z
 have fields:∀b o ws,h'.get? b=some o→o.data=.fields ws→b∈frs (zr (CX1 P w) P w K mg base N qual scope f cd A outer s H E).stack→False:=fun b o ws q d hb=>by
  obtain⟨ob,g1,g2⟩:=frS b hb
  obtain⟨sl,g3⟩:=sm b hb ob g1 g2
  rw[q]at g3;cases g3;exact g2 ws d
 have hT0:s.heap.get? T=none:=by
  cases q:s.heap.get? T with
  |none=>rfl
  |some o =>
   obtain⟨o',q'⟩:=old T o q
   exact(fields T oT ts hT hdT (inStk _ (fr2 T o q (gone T o' hnT q')))).elim
 have hT1:H1 T=none:=by
  cases q:H1 T with
  |none=>rfl
  |some o =>
   obtain⟨o',q'⟩:=(I.hok T o q).isThere
   exact absurd (gone T o' hnT q') (trk T o q)
 have he0:s.heap.get? ea=none:=by
  cases q:s.heap.get? ea with
  |none=>rfl
  |some o =>
   rcases hea with z|z
   ·exact(fields ea oe vs he hd (inStk _ (fr2 ea o q z))).elim
   ·obtain⟨o',q'⟩:=old ea o q
    rw[z]at q';cases q'
 have he1:H1 ea=none:=by
  cases q:H1 ea with
  |none=>rfl
  |some o =>
   rcases hea with z|z
   ·exact absurd z (trk ea o q)
   ·obtain⟨o',q'⟩:=(I.hok ea o q).isThere
    rw[z]at q';cases q'
 refine⟨ea,C,d,H1,rfl,I.os,I.bare,⟨fun b o q n hb _=>?_,fun b o q n hb _=>?_,fun b o q n _=>?_,fun b o q _=>?_,I.base.tups,I.base.frzs,I.base.tbls⟩,fun b o q=>?_,
  ⟨oe,vs,T,oT,ts,a0,he,⟨hc,dx oe he⟩,h0,hd,h1,hne,hT,hdT,h3,he1,hT1,he0,hT0⟩,e⟩
 ·exact keepB b o (fun z=>hb (fr2 b o q z)) (I.base.keep b o q n hb (fun z=>nomatch z))
 ·obtain⟨sl,q1⟩:=I.base.slot b o q n hb (fun z=>nomatch z)
  obtain⟨ob,g1,g2⟩:=frS b (inStk b hb)
  rw[q1]at g1;cases g1
  obtain⟨sl',q2⟩:=sm b (inStk b hb) _ q1 g2
  exact⟨sl',q2⟩
 ·exact I.base.free b o q n (fun z=>nomatch z)
 ·obtain⟨o',q1⟩:=old b o q
  by_cases hb:b∈hid
  ·obtain⟨ob,g1,g2⟩:=frS b (inStk b (fr2 b o q hb))
   obtain⟨sl,q2⟩:=sm b (inStk b (fr2 b o q hb)) ob g1 g2
   exact⟨_,q2⟩
  ·exact⟨o',keepB b o' hb q1⟩
 ·refine(I.hok b o q).stay (fun c u hc q'=>keepB c u ?_ q') (fun _ z=>z) fun _ _ z=>z
  rcases hc with z|z
  ·rw[z];exact trk b o q
  ·exact trk c _ z
end
noncomputable def Z5 (X:Cx)(E:XK)(scope:Scope)(C:Addr)(N':List Str)(s:Shared)(H:Hp)(fp:List Addr):Value→Shared→Prop:=fun e s' =>
 ∃pins σ H1 s1,Inv (X.comp scope C N' s H fp) pins σ H1 s1∧CX1 X.prog X.w X.stack H1 s1 E e s'
theorem zaG {X:Cx}{E:XK}{scope:Scope}{C:Addr}{N':List Str}{s:Shared}{H:Hp}{fp:List Addr}:Zy (CX1 X.prog X.w) ((X.comp scope C N' s H fp).wish (Z5 X E scope C N' s H fp)) E :=
 fun pins σ H1 s1 e s' I hx=>⟨pins,σ,H1,s1,I.unwish,hx⟩
section
variable {P:Program}{w:World}{K:xb}{mg:Str→Option Value}{base:Heap}{N:List Str}{qual:Str}{scope:Scope}{f:Addr}{cd:Value}{A:Around}{outer:List Env}{s:Shared}{H:Hp}{E:XK}
theorem ZX {pins:List (Addr×Obj)}{σ:St}{H3:Hp}{s3:Shared}{scope':Scope}{C:Addr}{N':List Str}{fp:List Addr}{Q:Value→Shared→Prop}{acc e:Value}{s':Shared}
  (I3:Inv (zr (CX1 P w) P w K mg base N qual scope f cd A outer s H E) pins σ H3 s3) (f3:∀b∈fp,jG (zr (CX1 P w) P w K mg base N qual scope f cd A outer s H E) pins H3 b) (hC:s3.heap.objs.size≤C)
  (hx:Z5 (zr (CX1 P w) P w K mg base N qual scope f cd A outer s H E) E scope' C N' s3 H3 fp e s') :
  notedBy (model P w) (zr (CX1 P w) P w K mg base N qual scope f cd A outer s H E).A (compEnvC scope' (JR scope' (zr (CX1 P w) P w K mg base N qual scope f cd A outer s H E).env) C (zr (CX1 P w) P w K mg base N qual scope f cd A outer s H E).env)
   (fun e s'=>compPost (model P w) (zr (CX1 P w) P w K mg base N qual scope f cd A outer s H E).A (zr (CX1 P w) P w K mg base N qual scope f cd A outer s H E).xe none Q acc C (.error e) s') e s':=by
 obtain⟨pins1,σ1,H1,s1,I,ea,Cc,d,H',rfl,os,bare,un,hok,⟨oe,vs,T,oT,ts,a0,he,⟨hc,hx0⟩,h0,hd,h1,hne,hT,hdT,h3,n1,n2,g1,g2⟩,hE⟩:=hx
 have I':Inv ((zr (CX1 P w) P w K mg base N qual scope f cd A outer s H E).comp scope' C N' s3 H3 fp) pins1 σ1 H' s':=I.call' (ch:=[]) os un hok bare (fun _ z=>nomatch z)
 have IX:Inv (zr (CX1 P w) P w K mg base N qual scope f cd A outer s H E) pins σ H' s':=by
  refine I3.call' (ch:=fp) I'.os I'.base I'.hok I'.bare fun b hb=>?_
  obtain⟨_,y1,_,y3,y4,y5⟩:=f3 b hb
  exact⟨y3,y1,y4,y5⟩
 obtain⟨mC,hnC,_⟩:=I'.loc
 have hnC:s'.heap.Ns C mC:=hnC
 have cF:∀o,s'.heap.get? C=some o→∀ws,o.data≠.fields ws:=fun o ho ws hw=>by
  obtain⟨o',es,ep,ho',hd',_⟩:=hnC
  rw[ho]at ho';cases ho'
  rw[hd']at hw;cases hw
 have nOld:∀b,s1.heap.get? b=none→s.heap.get? b=none:=fun b z=>by
  cases q:s.heap.get? b with
  |none=>rfl
  |some o =>
   obtain⟨o',q'⟩:=I3.base.there b o q (fun z=>nomatch z)
   obtain⟨o2,q2⟩:=I.base.there b o' q' (fun hb=>by
    rcases(f3 b hb).2.2.2.1 with y|y
    ·exact nomatch y
    ·exact absurd (xy (xp q) y) (yd _))
   rw[z]at q2;cases q2
 have eaC:ea≠C:=by rintro rfl;exact cF oe he vs hd
 have TC:T≠C:=by rintro rfl;exact cF oT hT ts hdT
 have frC:∀b∈frs (zr (CX1 P w) P w K mg base N qual scope f cd A outer s H E).stack,b≠C:=fun b hb=>by
  obtain⟨ob,q1,q2⟩:=(I3.stack.mem (b:=b) hb).2
  exact xz (xy (xp q1) hC)
 have hfr:∀b∈frs (zr (CX1 P w) P w K mg base N qual scope f cd A outer s H E).stack,b∈ea::T::C::frs (zr (CX1 P w) P w K mg base N qual scope f cd A outer s H E).stack:=fun b hb=>.tail _ (.tail _ (.tail _ hb))
 generalize hB:x8 s'.heap (ea::T::C::frs (zr (CX1 P w) P w K mg base N qual scope f cd A outer s H E).stack)=B
 have bea:B.get? ea=none:=by rw[←hB];exact x9 _ (.head _)
 have bT:B.get? T=none:=by rw[←hB];exact x9 _ (.tail _ (.head _))
 have bC:B.get? C=none:=by rw[←hB];exact x9 _ (.tail _ (.tail _ (.head _)))
 have bS:B.StaysIn s'.heap:=by rw[←hB];exact fun b o q=>yM _ q
 have bF:s'.heap.FunFrames B (zr (CX1 P w) P w K mg base N qual scope f cd A outer s H E).stack:=by
  rw[←hB];exact yI IX.stack (fun env he' b hb=>hfr b (yh.mpr ⟨env,he',hb⟩))
 show wpAny (model P w) _ (noteFrame (.ref ea) (zr (CX1 P w) P w K mg base N qual scope f cd A outer s H E).env) _ _ s'
 refine Jq Z3 (wpAny_noteFrame_onW (base:=B) (cls:=Cc) (a0:=a0) IX.ok.frames bF rfl ⟨oe,vs,T,oT,ts,he,⟨hc,h0⟩,hd,h1,bT,hne,hT,hdT,h3⟩ bS bea fun h1' hN dk1=>?_)
 obtain⟨k1,k2,k3,k4⟩:=hN
 refine⟨mC,vG.ns k4 hnC,fun h2 hs2 cenv _=>?_⟩
 have s2:∀b,b≠C→h2.get? b=h1'.get? b:=fun b hb=>hs2.2 b hb
 have j1:B.StaysIn h2:=fun b o q=>by
  rw[s2 b (fun z=>by rw[z,bC]at q;cases q)];exact k1 b o q
 have cF1:∀o,h1'.get? C=some o→∀ws,o.data≠.fields ws:=fun o ho ws hw=>by
  obtain⟨o',es,ep,ho',hd',_⟩:=vG.ns k4 hnC
  rw[ho]at ho';cases ho'
  rw[hd']at hw;cases hw
 have up:∀b∈frs (zr (CX1 P w) P w K mg base N qual scope f cd A outer s H E).stack,∀o,s'.heap.get? b=some o→(∀vs,o.data≠.fields vs)→∃sl,h2.get? b=some {o with slots:=sl}:=fun b hb o ho hn=>by
  obtain⟨sl,q⟩:=k4 b o ho hn
  exact⟨sl,by rw[s2 b (frC b hb)];exact q⟩
 have j2:h2.FunFrames B (zr (CX1 P w) P w K mg base N qual scope f cd A outer s H E).stack:=by
  have gen:∀l:List Env,h1'.FunFrames B l→(∀b∈frs l,b≠C)→h2.FunFrames B l:=by
   intro l
   induction l with
   |nil=>exact fun _ _=>trivial
   |cons env rest ih =>
    rintro⟨y1,⟨L,o,y2,y3,y4,y5⟩,y6⟩ hn
    have hL:L∈frs (env::rest):=yh.mpr ⟨env,.head _,y2⟩
    refine⟨y1,⟨L,o,y2,y3,by rw[s2 L (hn L hL)];exact y4,y5⟩,ih y6 fun b hb=>hn b ?_⟩
    obtain⟨en,z1,z2⟩:=yh.mp hb
    exact yh.mpr ⟨en,.tail _ z1,z2⟩
  exact gen _ k2 frC
 have j3:h2.TracedAtW B ea Cc a0 (rawInt (zr (CX1 P w) P w K mg base N qual scope f cd A outer s H E).env.locals):=by
  obtain⟨oe',vs',T',oT',ts',e1,e2,e3,e4,e5,e6,e7,e8,e9⟩:=k3
  have TC':T'≠C:=by rintro rfl;exact cF1 oT' e7 ts' e8
  exact⟨oe',vs',T',oT',ts',by rw[s2 ea eaC];exact e1,e2,e3,e4,e5,e6,by rw[s2 T' TC'];exact e7,e8,e9⟩
 have dx2:∀o,h2.get? ea=some o→Dx o d:=fun o e=>by
  rw[s2 ea eaC]at e;exact hx0.dk he e dk1
 refine ziY zhC (zia (s:={s' with heap:=h2}) j1 j2 j3 fun h3' fl m1 m2 m3 m4 dk2=>?_)
 refine Jq QW (zgs (s:={s' with heap:=h3'}) IX.ok.frames rfl m1 bea m2 m3 fun h4 r1 r2 r3 dk3=>?_)
 obtain⟨o2,eo2⟩:∃o,h2.get? ea=some o:=by
  obtain⟨o2,_,_,_,_,e1,_⟩:=j3
  exact⟨o2,e1⟩
 refine zi8 (s1:=s') (hid:=ea::T::C::frs (zr (CX1 P w) P w K mg base N qual scope f cd A outer s H E).stack) (a0:=a0) IX hfr (fun b hb=>?_) (by rw[hB];exact r1) (fun b hb o ho hn=>?_) (by rw[hB];exact r2) (.inl (.head _)) (fun o e=>(dx2 o2 eo2).dk eo2 e (dk2.trans dk3)) hE
 ·rcases xt.mp hb with rfl|hb
  ·exact .inr ⟨nOld _ g1,n1⟩
  ·rcases xt.mp hb with rfl|hb
   ·exact .inr ⟨nOld _ g2,n2⟩
   ·rcases xt.mp hb with rfl|hb
    ·refine .inr ⟨?_,I'.free⟩
     cases q:s.heap.get? b with
     |none=>rfl
     |some o =>
      obtain⟨o',q'⟩:=I3.base.there b o q (fun z=>nomatch z)
      exact absurd (xy (xp q') hC) (yd _)
    ·exact .inl hb
 ·obtain⟨sl,q⟩:=up b hb o ho hn
  obtain⟨sl1,q1⟩:=m4 b _ q hn
  obtain⟨sl2,q2⟩:=r3 b _ q1 hn
  exact⟨sl2,q2⟩
end
section
variable {X:Cx}{pins:List (Addr×Obj)}{σ:St}{H:Hp}{s:Shared}
theorem zf8 {elt iter:Expr}{tg:Expr}{pos:Pos}{scope:Scope}{g:TG}{te:TE}{lv:Nat}{caps:List Nat}{N':List Str}{fp:List Addr}{it D C:Addr}{tn:Nat→Heap→Prop}{J:It}{H3:Hp}{s3 s4:Shared}{Q:VK}{W:Nat→Nat→List V→Hp→Prop}{m0:Nat}
  (hc:X.calm=true) (T:Qs X.prog X.w X.K tg J fp it tn) (hC:s3.heap.objs.size≤C) (I3:Inv X pins σ H3 s3) (f3:∀b∈fp,jG X pins H3 b) (hCf:∀b∈fp,b≠C) (I4:Inv (X.comp scope C N' s3 H3 fp) [] (jJ lv caps σ) H3 s4) (st4:tn 0 s4.heap) (w0:W 0 m0 [] H3)
  (turn:∀i m ys H,W i m ys H→H D=some (.lst ys)∧ys.length<sizeLine∧((J.stop i H∧Q (.ref D) H)∨(J.go i H∧∀x H',J.yld i H x H'→g x (jJ lv caps σ) H' fun σ2 H2=>te σ2 H2 fun v H3=>H3 D=some (.lst ys) ∧
   ∃m',m'<m∧W (i+1) m' (ys++[v]) (upd H3 D (.lst (ys++[v]))))))
  (hgk:J6 g lv caps) (hg:PG (X.comp scope C N' s3 H3 fp) tg g) {xe:Value→Shared→Prop}
  (herr:∀e s',xe e s'→notedBy (model X.prog X.w) X.A (compEnvC scope (JR scope X.env) C X.env) (fun e s'=>compPost (model X.prog X.w) X.A X.xe none (EP X pins σ Q) (.ref D) C (.error e) s') e s')
  (he:PE ((X.comp scope C N' s3 H3 fp).wish xe) elt te) :
  codeAny (model X.prog X.w) X.A (.compLoop (.ListComp elt [⟨tg,iter,[],0⟩] scope pos) 0 (.ref it) (.ref D) (compEnvC scope (JR scope X.env) C X.env))
   (compPost (model X.prog X.w) X.A X.xe none (EP X pins σ Q) (.ref D) C) s4:=by
 have stat:∀{H':Hp},(∀b∈fp,H' b=none)→∀b∈fp,jG (X.comp scope C N' s3 H3 fp) [] H' b:=fun {H'} hn b hb =>
  ⟨hn b hb,hCf b hb,fun z=>I4.ok.exfs b hb z,.inl hb,fun y c e=>(I4.ok.exf b hb).2 y c e,fun p hp=>absurd (show p∈([]:List (Addr×Obj)) from hp) (by simp)⟩
 refine Z1 (fun n s'=>∃i ys H',Inv (X.comp scope C N' s3 H3 fp) [] (jJ lv caps σ) H' s'∧tn i s'.heap∧(∀b∈fp,H' b=none)∧W i n ys H') ?_ m0 ⟨0,[],_,I4,st4,fun b hb=>(f3 b hb).1,w0⟩
 rintro n s5 ⟨i,ys,H5,I5,st5,fr5,w5⟩
 obtain⟨hD,hlen,hcase⟩:=turn i n ys H5 w5
 rcases hcase with⟨stop,q⟩|⟨go,step⟩
 ·refine thn (T.done (X.comp scope C N' s3 H3 fp) rfl rfl rfl hc i [] s5 _ H5 _ I5 (stat fr5) st5 stop) fun r s6 hr=>?_
  obtain⟨hr,I6⟩:=hr
  subst hr
  obtain⟨m,hn,_⟩:=I6.loc
  refine⟨m,hn,fun h' hs'=>?_⟩
  have ub:=I6.base
  have neC:∀b o,s3.heap.get? b=some o→b≠C:=fun b o q=>xz (xy (xp q) hC)
  refine⟨.ref D,H5,I3.call' (ch:=fp) (s':={s6 with heap:=h'}) I6.os ⟨fun b o q n hb hx=>(hs'.2 b (neC b o q)).trans (ub.keep b o q n hb hx),fun b o q n hb hx=>?_,ub.free,fun b o q hx=>?_,ub.tups,ub.frzs,ub.tbls⟩ ?_ I6.bare (fun b hb=>?_),rfl,q⟩
  ·obtain⟨sl,e⟩:=ub.slot b o q n hb hx
   exact⟨sl,(hs'.2 b (neC b o q)).trans e⟩
  ·obtain⟨o',e⟩:=ub.there b o q hx
   exact⟨o',(hs'.2 b (neC b o q)).trans e⟩
  ·intro b o q
   refine(I6.hok b o q).stay (fun c u hc' q'=>(hs'.2 c ?_).trans q') (fun _ z=>z) fun _ _ z=>z
   intro ec
   have fC:H5 C=none:=I6.free
   rcases hc' with z|z
   ·rw[←z,ec,fC]at q;cases q
   ·rw[ec,fC]at z;cases z
  ·obtain⟨_,y1,_,y3,y4,y5⟩:=f3 b hb
   exact⟨y3,y1,y4,y5⟩
 ·refine thn (T.item (X.comp scope C N' s3 H3 fp) rfl rfl rfl hc i [] s5 _ H5 _ I5 (stat fr5) st5 go) fun r s6 hr=>?_
  obtain⟨u,hr,h6⟩:=hr
  subst hr
  refine thn h6 fun _ s7 h7=>?_
  obtain⟨y,H7,I7,r7,y7,st7,fr7⟩:=h7
  have I7':=I7.pinned (stat fr7) (T.obj _ _ st7)
  refine wpAny_mono (hg _ s7 _ H7 y u _ I7' r7 (hgk σ y H7 _ (step y H7 y7))) (fun _ s8 h8=>?_) (fun _ _ z=>z.elim)
  obtain⟨σ8,H8,I8,q8,ks⟩:=h8
  refine wpAny_mono (he _ s8 σ8 H8 _ (I8.wish _) q8) (fun v s9 h9=>?_) (fun e s9 z=>herr e s9 z)
  obtain⟨z9,H9,I9,r9,hD9,m',hm',w9⟩:=h9
  have I9:=I9.unwish
  refine wpAny_mono (jT (X:=X.comp scope C N' s3 H3 fp) _ s9 σ8 H9 (.ref D) [z9] (.ref D) [v] (fun _ H'=>H'=upd H9 D (.lst (ys++[z9]))) I9 rfl (.cons r9 .nil) ⟨D,ys,z9,rfl,rfl,hD9,hlen,rfl⟩) (fun _ s10 h10=>?_) (fun _ _ z=>z.elim)
  obtain⟨_,H10,I10,_,rfl⟩:=h10
  refine⟨m',hm',i+1,ys++[z9],_,I10.unpinned.weak ?_ ?_,T.keep _ _ _ st7 fun b hb o e=>(I10.pin (b,o) (xu _ (xu _ (jA hb e)))).1,fun b hb=>?_,w9⟩
  ·rw[I10.len];exact I4.len
  ·exact ks
  ·obtain⟨o,e,d⟩:=T.obj _ _ st7 b hb
   exact(I10.pin (b,o) (xu _ (xu _ (jA hb e)))).2.1
theorem QK {elt iter:Expr}{tg:Expr}{pos:Pos}{scope:Scope}{wi:TI}{g:TG}{te:TE}{lv:Nat}{caps:List Nat}{N':List Str}{xe:Addr→Shared→Hp→List Addr→Value→Shared→Prop} (herr:∀(pins:List (Addr×Obj)) (σ:St) (H3:Hp) (s3:Shared) (C:Addr) (fp:List Addr) (Q:Value→Shared→Prop) (acc e:Value) (s':Shared),Inv X pins σ H3 s3→(∀b∈fp,jG X pins H3 b)→s3.heap.objs.size≤C→xe C s3 H3 fp e s' →
   notedBy (model X.prog X.w) X.A (compEnvC scope (JR scope X.env) C X.env) (fun e s'=>compPost (model X.prog X.w) X.A X.xe none Q acc C (.error e) s') e s')
  (hc:X.calm=true) (ok:zW X scope lv caps N') (hgk:J6 g lv caps) (hi:PI X tg iter wi)
  (hg:∀C s H fp,PG (X.comp scope C N' s H fp) tg g) (he:∀C s H fp,PE ((X.comp scope C N' s H fp).wish (xe C s H fp)) elt te) (hs:∀y,foldedSetIterable iter X.env y=pure y:=by intro _;rfl) :
  PE X (.ListComp elt [⟨tg,iter,[],0⟩] scope pos) (zfS wi g te lv caps):=by
 intro pins s σ H Q I h
 rw[eval_ListComp]
 refine wpAny_comprehension_free (use:=none) rfl hs (J8 fun y hy hk=>I.ok.has y.1 (ok.free y hy hk)) ok.kind ok.loc (thn (hi pins s σ H _ I h) fun v s1 h1=>thn h1 fun itv s2 h2=>?_)
 obtain⟨it,fp,tn,J,H2,e,I2,T,st2,f2,hW⟩:=h2
 subst e
 have fpl:∀b∈fp,b<s2.heap.objs.size:=fun b hb=>by obtain⟨o,e,_⟩:=T.obj 0 _ st2 b hb;exact xp e
 refine wpAny_newObj_type ?_
 have I3:Inv X pins σ (upd H2 s2.heap.objs.size (.lst [])) {s2 with heap:=s2.heap.push {cls:=.type "list",data:=.seq ([]:List Value).toArray},toks:=s2.toks}:=I2.lnew (its:=[]) .nil (xV _)
 obtain⟨W,⟨m0,w0⟩,turn⟩:=hW s2.heap.objs.size I2.fresh
 refine wpAny_newFunctionEnv ok.cell (by intro y hy;simp at hy) (fun h₁ hns₁ hsb₁=>?_) ok.kind
 have hk3:∀b o,(s2.heap.push {cls:=.type "list",data:=.seq ([]:List Value).toArray}).get? b=some o→h₁.get? b=some o:=fun b o q =>
  (hsb₁.2 b (xz (xp q))).trans (xg _ q)
 have f3:∀b∈fp,jG X pins (upd H2 s2.heap.objs.size (.lst [])) b:=fun b hb=>by
  obtain⟨n,r⟩:=f2 b hb
  exact⟨by rw[zC (xz (fpl b hb))];exact n,r⟩
 have fpl3:∀b∈fp,b<(s2.heap.push {cls:=.type "list",data:=.seq ([]:List Value).toArray}).objs.size:=fun b hb=>by rw[yi];exact ym (fpl b hb)
 have I4:=Qc ok I3 f3 hns₁ hk3 fpl3 (s2.toks+0)
 have st4:tn 0 h₁:=T.keep _ _ _ st2 fun b hb o q=>hk3 b o (xg _ q)
 have loop:=zf8 (elt:=elt) (iter:=iter) (pos:=pos) (s4:={s2 with heap:=h₁,toks:=s2.toks+0}) hc T (xr _) I3 f3 (fun b hb=>xz (fpl3 b hb)) I4 st4 w0 turn hgk (hg _ _ _ _) (fun e s' z=>herr _ _ _ _ _ _ _ _ e s' I3 f3 (xr _) z) (he _ _ _ _)
 exact codeAny_compStart_list loop (T.self _ 0 _ _ _ st4 loop)
end
section
variable {K:xb}{g:TG}{te:TE}{σ0:St}{H1:Hp}{Q:VK}
theorem zkL {a:Addr}{xs:List V}(hq:SqL K H1 a xs)(hl:xs.length<sizeLine)(f:V→V)(Pv:V→Prop)
  (step:∀x∈xs,∀(H':Hp) (Q':VK),zd H1 H'→(Pv x→∀H2,zd H' H2→Q' (f x) H2)→g x σ0 H' fun σ2 H2=>te σ2 H2 Q')
  (fin:(∀x∈xs,Pv x)→∀D H',H1 D=none→zd H1 H'→H' D=some (.lst (xs.map f))→Q (.ref D) H'):ZL (Itl K a) g te σ0 Q H1:=by
 intro D hD
 refine⟨fun i m ys H'=>i≤xs.length∧m=xs.length - i∧ys=(xs.take i).map f∧zd H1 H'∧H' D=some (.lst ys)∧∀x∈xs.take i,Pv x,⟨_,xV _,rfl,rfl,zd.new hD,zc,fun x hx=>absurd hx (by simp)⟩,?_⟩
 rintro i m ys H' ⟨hi,rfl,rfl,S,e,hp⟩
 refine⟨e,by rw[xa,ye];omega,?_⟩
 by_cases hlt:i<xs.length
 ·have hx:=xm hlt
  refine .inr ⟨⟨xs,_,S.knd (k:=.L) hq,hx⟩,fun x H'' hy=>?_⟩
  obtain⟨rfl,hy⟩:=hy
  have hx:=hy xs (S.knd (k:=.L) hq)
  have et:xs.take (i+1)=xs.take i++[x]:=by rw[yn,hx];rfl
  refine step x (xq hx) _ _ S fun px H2 S2=>⟨S2 _ _ e,xs.length - (i+1),by omega,hlt,rfl,?_,(S.trans S2).upd hD,zc,fun y hy=>?_⟩
  ·rw[et,xE];rfl
  ·rw[et]at hy
   rcases xM.mp hy with z|z
   ·exact hp y z
   ·rw[xo.mp z];exact px
 ·have ei:i=xs.length:=by omega
  subst ei
  rw[xS]at e hp
  exact .inl ⟨⟨xs,S.knd (k:=.L) hq,xr _⟩,fin hp D H' hD S e⟩
end
end L2
namespace RF
open PySem L2
theorem zal:∀{a b:List Int},a.map V.int=b.map V.int→a=b
 | [],[],_=>rfl
 | [],_::_,h=>by cases h
 |_::_,[],h=>by cases h
 |x::r,y::q,h=>by
  rw[xW,xW]at h
  injection h with h1 h2
  injection h1 with h1
  rw[h1,zal h2]
noncomputable def js (kept spare ns:List Int)(n:Int):Prop:=ns=zF (kept++spare) n∧zM kept n
noncomputable def qc (kept spare ns:List Int):Prop:=zK (kept++spare) ns∧∀v,jP kept ns v→zF (kept++spare) v≠ns
theorem YH {kept spare:List Int}(ns:List Int):(∃n,js kept spare ns n)∨qc kept spare ns∨¬zK (kept++spare) ns:=by
 by_cases hv:zK (kept++spare) ns
 ·by_cases hr:∃n,js kept spare ns n
  ·exact .inl hr
  ·exact .inr (.inl ⟨hv,fun v hk e=>hr ⟨v,e.symm,hk.fits⟩⟩)
 ·exact .inr (.inr hv)
theorem js.valid {kept spare ns:List Int}{n:Int}(g:zv kept spare)(h:js kept spare ns n):zK (kept++spare) ns:=by
 rw[h.1];exact JH (fun d hd=>(g.rng d hd).1) n
theorem js.uniq {kept spare ns:List Int}{n m:Int}(g:zv kept spare)(h:js kept spare ns n)(h':js kept spare ns m):n=m:=by
 have a:jP kept ns n:=by rw[h.1];exact Zb h.2
 have b:jP kept ns m:=by rw[h'.1];exact Zb h'.2
 exact Qr g (h.valid g).kept_len a b
theorem js.notWrong {kept spare ns:List Int}{n:Int}(h:js kept spare ns n)(w:qc kept spare ns):False :=
 w.2 n (by rw[h.1];exact Zb h.2) h.1.symm
theorem ZG {cB cW:Addr}{H:Hp}{a:V}{l:Addr}{kept spare ns:List Int}{n:Int}{Q:VK}{E:XK}(B:Bas H a kept spare)(el:H l=some (.lst (ns.map V.int)))(h:js kept spare ns n)
  (q:∀H',zd H H'→Q (.int n) H'):zR cB cW [a,.ref l] H Q E:=by
 obtain⟨rfl,hf⟩:=h
 exact zds B el hf q
theorem ZY {cB cW:Addr}{H:Hp}{a:V}{l:Addr}{kept spare ns:List Int}{Q:VK}{E:XK}(B:Bas H a kept spare)(el:H l=some (.lst (ns.map V.int)))(h:qc kept spare ns)
  (e:∀H',zd H H'→E (.ref cW) none H'):zR cB cW [a,.ref l] H Q E :=
 ⟨a,.ref l,rfl,kept,spare,l,ns,B,rfl,el,fun _ v _ hk he _=>absurd he (h.2 v hk),fun _ _ H' _ _ S=>e H' S,fun z=>absurd h.1 z⟩
theorem zba {cB cW:Addr}{H:Hp}{a:V}{l:Addr}{kept spare ns:List Int}{Q:VK}{E:XK}(B:Bas H a kept spare)(el:H l=some (.lst (ns.map V.int)))(h:¬zK (kept++spare) ns)
  (e:∀H',zd H H'→E (.ref cB) none H'):zR cB cW [a,.ref l] H Q E :=
 ⟨a,.ref l,rfl,kept,spare,l,ns,B,rfl,el,fun z=>absurd z h,fun z=>absurd z h,fun _ H' S=>e H' S⟩
open Classical in
noncomputable def zgP (kept spare ns:List Int):V:=if h:∃n,js kept spare ns n then .int h.choose else .non
theorem zbr {kept spare ns:List Int}{n:Int}(g:zv kept spare)(h:js kept spare ns n):zgP kept spare ns=.int n:=by
 have hx:∃n,js kept spare ns n:=⟨n,h⟩
 unfold zgP
 rw[dif_pos hx]
 rw[js.uniq g hx.choose_spec h]
inductive zdo (cB cW:Addr)(a b:V)(H:Hp)(Q:VK)(E:XK):Prop
 |mk (kept spare:List Int) (lf l1 l2:Addr) (ns1 ns2:List Int) (h0:Bas H a kept spare) (h1:b=.ref lf) (h2:H lf=some (.lst [.ref l1,.ref l2])) (h3:H l1=some (.lst (ns1.map V.int))) (h4:H l2=some (.lst (ns2.map V.int))) (q:((∃n1 n2,js kept spare ns1 n1∧js kept spare ns2 n2∧∀p H',zd H H'→H p=none→H' p=some (.lst [.int n1,.int n2])→Q (.ref p) H')∨((¬zK (kept++spare) ns1∨¬zK (kept++spare) ns2)∧∀H',zd H H'→E (.ref cB) none H')∨(zK (kept++spare) ns1∧zK (kept++spare) ns2∧(qc kept spare ns1∨qc kept spare ns2)∧∀H',zd H H'→E (.ref cW) none H'))):zdo cB cW a b H Q E
noncomputable def ZR (cB cW:Addr):Sp:=Sp2 (zdo cB cW)
noncomputable def sgn (n:Int):Int:=if n<0 then -1 else if 0<n then 1 else 0
inductive zfD (a:V)(H:Hp)(Q:VK)(E:XK):Prop
 |mk (n:Int) (h0:a=.int n) (q:Q (.int (sgn n)) H):zfD a H Q E
noncomputable def zdY:Sp:=Sp1 (zfD)
end RF
namespace RF
theorem zaR:∀{l:List Int} {j:Nat} {d:Int},l[j]? = some d→zy l=d*zy (l.eraseIdx j)
 |x::r,0,d,h=>by
  simp only[List.getElem?_cons_zero,Option.some.injEq]at h
  subst h;rfl
 |x::r,j+1,d,h=>by
  have ih:=zaR (l:=r) (j:=j) (d:=d) (by simpa using h)
  show x*zy r=d*(x*zy (r.eraseIdx j))
  rw[ih,uw]
theorem zfr {d:Int}:∀{l:List Int},(∀e∈l,2≤e)→d∈l→d≤zy l
 |x::r,h2,h=>by
  have hx:=h2 x xD
  have hr:=qw fun e he=>h2 e (xx _ he)
  show d≤x*zy r
  rcases xt.mp h with rfl|h
  ·have:=xG (show 1≤zy r by omega) (show 0≤d by omega)
   omega
  ·have ih:=zfr (fun e he=>h2 e (xx _ he)) h
   have:=yD (show 1≤x by omega) (show 0≤zy r by omega)
   omega
theorem zhN {kept spare:List Int}(g:zv kept spare)(hs:spare≠[]){j:Nat}(hj:j<(kept++spare).length):zy kept≤zy ((kept++spare).eraseIdx j):=by
 have h2:∀d∈kept++spare,2≤d:=fun d hd=>(g.rng d hd).1
 have hk2:∀d∈kept,2≤d:=fun d hd=>h2 d (xJ _ hd)
 have hs2:∀d∈spare,2≤d:=fun d hd=>h2 d (xu _ hd)
 rcases yy j kept.length with h|h
 ·rw[List.eraseIdx_append_of_lt_length h,JG]
  have hd:kept[j]? = some kept[j]:=xm h
  rw[zaR hd,yO]
  obtain⟨s,r,rfl⟩:=List.exists_cons_of_ne_nil hs
  have hlt:=g.lt kept[j] (uD h) s xD
  have hle:s≤zy (s::r):=zfr hs2 xD
  have hp:0<zy (kept.eraseIdx j):=qw fun e he=>hk2 e (va he)
  exact xG (by omega) (by omega)
 ·rw[List.eraseIdx_append_of_length_le h,JG]
  have hp:0<zy (spare.eraseIdx (j - kept.length)):=qw fun e he=>hs2 e (va he)
  have hk:=qw hk2
  have:=xG (show 1≤zy (spare.eraseIdx (j - kept.length)) by omega) (show 0≤zy kept by omega)
  omega
theorem ziH {kept spare:List Int}(g:zv kept spare)(hs:spare≠[]){j:Nat}(hj:j<(kept++spare).length){v n:Int}(hv:jD kept≤v∧v≤jm kept)(hn:jD kept≤n∧n≤jm kept)
  (h:∀i d,i≠j→(kept++spare)[i]? = some d→v%d=n%d):v=n:=by
 have lh:=Q5 kept
 have hp:=zhN g hs hj
 refine ZF (l:=(kept++spare).eraseIdx j) (lo:=jD kept) (g.cop.sublist (vD _ _)) (fun d hd=>?_) hv.1 (by omega) hn.1 (by omega)
 obtain⟨i,hi,e⟩:=List.mem_eraseIdx_iff_getElem?.mp hd
 exact h i d hi e
end RF
namespace L2
open PySem PySem.Spec PyProof.Rows
section
variable {X:Cx}
theorem zcg {x:V}:∀{xs:List V} {us:List Value},zH xs us→xs.all qK=true→us.countP (eqU x)=xs.countP fun y=>eqV y x
 |_,_,.nil,_=>rfl
 |y::xs,u::us,.cons r t,f=>by
  rw[uz,yq]at f
  rw[wo,wo,Yi r f.1,zcg t f.2]
noncomputable def zlT:V→List V→Hp→VK→Prop:=fun x vs H Q=>∃l xs y,x=.ref l∧vs=[y]∧H l=some (.lst xs)∧qK y=true∧xs.all qK=true∧Q (.int (xs.countP fun z=>eqV z y:Nat)) H
theorem zjR:MtM X "list.count" zlT:=by
 intro pins s σ H x vs v us Q I rx rv h
 obtain⟨l,xs,y,rfl,rfl,hH,fy,fs,q⟩:=h
 cases rx
 obtain⟨u,rfl,ru⟩:=rv.one
 obtain⟨z,its,n,r,hl,e⟩:=I.lstM hH
 refine call_meets F.slot_list_count ⟨_,e,rfl⟩ F.entry_list_count (F.args_list_count_2 _ _) (SeqAt.list_countAt l its.toArray n none #[] u (eqU y)) ⟨e,fun w hw=>JS ru fy r fs w (by simpa using hw),?_⟩
 refine⟨.int _,H,I.tok _,⟨_,rfl⟩,?_⟩
 rw[show its.toArray.toList.countP (eqU y)=its.countP (eqU y) by simp,zcg r fs]
 exact q
noncomputable def zlw:V→List V→Hp→VK→Prop:=fun x vs H Q=>∃l xs y,∃j:Nat,x=.ref l∧vs=[y]∧H l=some (.lst xs)∧qK y=true∧xs.all qK=true∧(∃z,xs[j]? = some z∧eqV z y=true)∧(∀(m:Nat) z,m<j→xs[m]? = some z→eqV z y=false)∧Q (.int j) H
theorem zjX:MtM X "list.index" zlw:=by
 intro pins s σ H x vs v us Q I rx rv h
 obtain⟨l,xs,y,j,rfl,rfl,hH,fy,fs,⟨zj,hj,ej⟩,no,q⟩:=h
 cases rx
 obtain⟨u,rfl,ru⟩:=rv.one
 obtain⟨z,its,n,r,hl,e⟩:=I.lstM hH
 have fl:∀(m:Nat) zz,xs[m]? = some zz→qK zz=true:=fun m zz hm=>uF.mp fs zz (xq hm)
 obtain⟨uj,huj,rj⟩:=r.get hj
 have hlt:j<its.toArray.size:=by rw[xC];exact(xv.mp huj).1
 have hj':=(xv.mp hj).1
 have h63:(j:Int)<2^63 - 1:=by
  have h2:(sizeLine:Int)<2^63 - 1:=by decide
  omega
 refine call_meets F.slot_list_index ⟨_,e,rfl⟩ F.entry_list_index (F.args_list_index_2 _ _) (SeqAt.list_indexAt l its.toArray n none #[] u (eqU y) j hlt h63 ?_ ?_) ⟨e,fun w hw=>JS ru fy r fs w (by simpa using hw),?_⟩
 ·have e1:its.toArray[j]=uj:=by simpa using (xv.mp huj).2
  rw[e1,Yi rj (fl j zj hj)];exact ej
 ·intro m hm hmj
  have hm':m<xs.length:=by rw[hl];simpa using hm
  obtain⟨um,hum,rm⟩:=r.get (xm hm')
  have e1:its.toArray[m]=um:=by simpa using (xv.mp hum).2
  rw[e1,Yi rm (fl m _ (xm hm'))];exact no m _ hmj (xm hm')
 ·exact⟨.int j,H,I.tok _,⟨_,rfl⟩,q⟩
end
noncomputable def jF (ea C:Addr)(d:Option Addr):Heap→Prop:=fun h=>∃o vs,h.get? ea=some o∧(o.cls=.ref C∧Dx o d)∧o.data=.fields vs
theorem zbj {ea C:Addr}{d:Option Addr}:∀h1 h2:Heap,jF ea C d h1→(∀o,h1.get? ea=some o→h2.get? ea=some o)→jF ea C d h2:=fun _ _ ⟨o,vs,e,c,d⟩ k=>⟨o,vs,k o e,c,d⟩
section
variable {X:Cx}{pins:List (Addr×Obj)}{σ:St}{H:Hp}{s:Shared}{ea C:Addr}{d:Option Addr}
theorem Inv.track (I:Inv X pins σ H s)(n:H ea=none)(p:jF ea C d s.heap)(h0:X.s₀.heap.get? ea=none)(h1:ea≠X.env.locals)(h2:∀x c,X.env.cells.lookup x=some c→c≠ea)(h3:∀p∈X.pn++pins,p.1≠ea) :
  Inv X pins σ (upd H ea (.ext (jF ea C d))) s:=by
 have keep:∀{b:Addr} {o:HO},H b=some o→upd H ea (.ext (jF ea C d)) b=some o:=fun {b o} e=>by rw[zC (by rintro rfl;rw[n]at e;cases e)];exact e
 have none':∀{b:Addr},b≠ea→H b=none→upd H ea (.ext (jF ea C d)) b=none:=fun {b} hb e=>by rw[zC hb];exact e
 refine⟨I.ok,I.os,I.bare,⟨I.base.keep,I.base.slot,fun b o q z hx=>?_,I.base.there,fun b xs e=>keep (I.base.tups b xs e),fun b o u e=>keep (I.base.frzs b o u e),fun b ps e=>?_⟩,I.loc,I.cell,none' (Ne.symm h1) I.free,fun x c e=>none' (h2 x c e) (I.freeC x c e),fun p hp=>?_,fun b o e=>?_,I.len⟩
 ·exact none' (by rintro rfl;rw[h0]at q;cases q) (I.base.free b o q z hx)
 ·obtain⟨m,q⟩:=I.base.tbls b ps e
  exact⟨m,keep q⟩
 ·obtain⟨e,z,r⟩:=I.pin p hp
  exact⟨e,none' (h3 p hp) z,r⟩
 ·by_cases hb:b=ea
  ·subst hb
   rw[zc]at e;cases e
   obtain⟨o,vs,q,_⟩:=id p
   exact⟨p,⟨o,q⟩,zbj⟩
  ·rw[zC hb]at e
   exact(I.hok b o e).stay (fun c v _ q=>q) (fun c q=>keep q) fun c xs q=>keep q
theorem Qj {M:Model}{A:Around}{E:Value→Shared→Prop}{i:Nat}{x:Str}{pos:Pos}{Q:Unit→Shared→Prop}(I:Inv X pins σ H s)(hN:X.N.Nodup)(hi:X.N[i]? = some x)(hx:X.env.scope.names.lookup x=some .local)
  (h:∀s',Inv X pins (σ.set i none) H s'→Q () s'):wpAny M A (do bindName X.env x .none;unbindBehindTheSuite X.env x pos) Q E s:=by
 obtain⟨m,hn,hl⟩:=id I.loc
 have hcls:(X.env.scope.kind==.class||(X.env.scope.kind==.module&&X.env.locals != X.env.globals))=false:=by rw[I.ok.kind];rfl
 have hiσ:i<σ.length:=by rw[I.len];exact(xv.mp hi).1
 have cne:=I.cne
 obtain⟨oL,_,_,hoL,_⟩:=id hn
 refine wpAny_nameGoes_keeps hx hn hcls fun h' v hn' hs=>?_
 have hs:yF X.env.locals s.heap h':=hs
 refine h _ ⟨I.ok,I.os,I.bare,⟨fun b o e n hb hx=>?_,fun b o e n hb hx=>?_,I.base.free,fun b o e hx=>?_,I.base.tups,I.base.frzs,I.base.tbls⟩,⟨_,hn',fun j y v' e1 e2 e3=>?_⟩,fun y c e=>?_,I.free,I.freeC,fun p hp=>?_,fun b ob e=>?_,by simpa using I.len⟩
 ·exact(hs.2 b (xz (xy (xp e) I.ok.above))).trans (I.base.keep b o e n hb hx)
 ·obtain⟨sl,e1⟩:=I.base.slot b o e n hb hx
  exact⟨sl,(hs.2 b (xz (xy (xp e) I.ok.above))).trans e1⟩
 ·obtain⟨o',e1⟩:=I.base.there b o e hx
  exact⟨o',(hs.2 b (xz (xy (xp e) I.ok.above))).trans e1⟩
 ·by_cases hj:j=i
  ·subst hj
   rw[yH hiσ]at e2
   cases e2
  ·rw[yS (Ne.symm hj)]at e2
   obtain⟨u',r',q⟩:=hl j y v' e1 e2 e3
   refine⟨u',r',?_⟩
   rcases q with⟨k,e⟩|⟨k,c,e,z⟩
   ·refine .inl ⟨k,?_⟩
    have:y≠x:=fun e=>hj (zap hN e1 (e▸hi))
    simp[this,e]
   ·exact .inr ⟨k,c,e,z.sameBut hs (cne y c e)⟩
 ·obtain⟨w',z⟩:=I.cell y c e
  exact⟨w',z.sameBut hs (cne y c e)⟩
 ·obtain⟨e,n,ne,nf,d⟩:=I.pin p hp
  exact⟨(hs.2 p.1 ne).trans e,n,ne,nf,d⟩
 ·refine(I.hok b ob e).stay (fun c w' hc q=>(hs.2 c ?_).trans q) (fun _ q=>q) fun _ _ q=>q
  rintro rfl
  rcases hc with rfl|hc
  ·rw[I.free]at e;cases e
  ·rw[I.free]at hc;cases hc
end
noncomputable def qY.less (D:qY)(i:Nat):qY:={nx:=fun σ H=>D.nx (σ.set i none) H,rt:=D.rt,bk:=fun σ H=>D.bk (σ.set i none) H,ct:=fun σ H=>D.ct (σ.set i none) H}
noncomputable def hAs (K:xb)(C1:Addr)(i:Nat)(ts:TS)(tr:TH):TH:=fun C d D σ H=>(yL K C (.ref C1)=some true∧∃c,C=.ref c∧∀ea,H ea=none→ts (D.less i) (σ.set i (some (.ref ea))) (upd H ea (.ext (jF ea c d))))∨(yL K C (.ref C1)=some false∧tr C d D σ H)
section
variable {X:Cx}
theorem zmt {x n:Str}{i:Nat}{np pos:Pos}{b₀:Stmt}{suite:List Stmt}{rest:List ExceptHandler}{C1:Addr}{ts:TS}{tr:TH}(O:Own X)(hm:X.mg x=some (.ref C1))(hN:X.N.Nodup)(hi:X.N[i]? = some n)(hl:X.env.scope.names.lookup n=some .local)
  (hb:∀ea,PSs (X.mark ea).nox (b₀::suite) ts) (hr:PH X rest tr) (hg:Gl X x:=by rfl) (hdb:(x==("__debug__":Str))=false:=by decide) :
  PH X (.ExceptHandler (some (.Name x np)) (some n) (b₀::suite) pos::rest) (hAs X.K C1 i ts tr):=by
 intro pins s σ H D ea C d I f h
 have hcls:∃oe,s.heap.get? ea=some oe∧oe.cls=C:=by
  obtain⟨oe,vs,T,oT,ts,a0,he,⟨hc,_⟩,_⟩:=f
  exact⟨oe,he,hc⟩
 obtain⟨oe,he,hc⟩:=hcls
 subst hc
 refine wpAny_handleBy_cons (codeAny_handlers_test (Zo (X:=X.mark ea) (I.mark ea) hg hm ?_ hdb)) (by intro q;cases q)
 have LT:xO (model X.prog X.w) s.heap (typeOf (.ref ea)) oe.cls:=(xO.ld he).andThen .now
 rcases h with⟨hx,c,hc,h⟩|⟨hx,h⟩
 ·refine(ww I.kIn LT hx).here ?_
  refine codeAny_handlers_suite_as (zji O I f fun h' I' f'=>?_)
  obtain⟨oe',vs,T,oT,ts',a0,he',⟨hc',hx'⟩,h0,hd,h1,hne,hT,hdT,h3,n1,n2,hb'⟩:=f'
  obtain⟨y1,y2,y3,y4⟩:=hb' ea (.inl rfl)
  have It:=I'.track (C:=c) n1 ⟨oe',vs,he',⟨by rw[hc',hc],hx'⟩,hd⟩ y1 y2 y3 y4
  refine zaD (X:=X) It hN hi (.inl hl) (v:=.ref ea) rfl (fun s2 I2=>?_) (.inr hl)
  refine wpAny_mono (hb ea pins s2 _ _ (D.less i) ((I2.mark ea).wish _) (h ea n1)) (fun fl s3 q=>?_) (fun _ _ z=>z.elim)
  have q:=SP.unmark I.ok (SP.unwish q)
  cases fl with
  |next=>obtain⟨σ',H',J,q⟩:=q;exact Qj J hN hi hl fun s4 J'=>⟨_,H',J',q⟩
  |brk=>obtain⟨σ',H',J,q⟩:=q;exact Qj J hN hi hl fun s4 J'=>⟨_,H',J',q⟩
  |cont=>obtain⟨σ',H',J,q⟩:=q;exact Qj J hN hi hl fun s4 J'=>⟨_,H',J',q⟩
  |ret u=>obtain⟨v,σ',H',J,r,q⟩:=q;exact Qj J hN hi hl fun s4 J'=>⟨v,_,H',J',r,q⟩
 ·exact(ww I.kIn LT hx).here (hr pins s σ H D ea _ d I f h)
end
end L2
namespace RF
open PySem L2
noncomputable def Jp (kept spare:List Int)(n:Int)(ns:List Int)(word:Str):Prop:=(word=""∧ns=zF (kept++spare) n)∨(word="figure"∧¬zK (kept++spare) ns)∨(word="wrong"∧qc kept spare ns)
noncomputable def jj (kept spare:List Int)(x:Int)(ws:List Str):Str×List Int :=
 if ("figure":Str)∈ws then("figure",[]) else if ("wrong":Str)∈ws then("wrong",[]) else if zM kept x then("",zF (kept++spare) x) else("great",[])
noncomputable def spF:Sp:=fun _ _ _ _=>False
theorem zis (ws:List Str):(ws.map V.str).all qK=true:=by rw[uF];intro y hy;obtain⟨z,_,rfl⟩:=xI.mp hy;rfl
theorem zft (z:Str):∀ws:List Str,inV (.str z) (ws.map V.str)=decide (z∈ws)
 | []=>rfl
 |y::r=>by
  have ih:=zft z r
  unfold inV at ih ⊢
  rw[xW,u5,ih]
  show(eqV (.str y) (.str z)||_)=_
  by_cases h:y=z
  ·subst h;simp[eqV]
  ·have h':z≠y:=fun e=>h e.symm
   simp[eqV,h,h']
theorem zgc {r d q:Int}(h0:0≤r)(h1:r<d)(hq:0≤q)(hq1:q<d - 1):(r+1+q)%d≠r:=fun e=>by
 rcases uN (r+1+q) d with h|h
 ·rw[y8 (by omega) h]at e;omega
 ·have:(r+1+q)%d=r+1+q - d:=by
   have:=Int.sub_emod_right (r+1+q) d
   rw[←this,y8 (by omega) (by omega)]
  omega
theorem zdA {kept spare:List Int}(g:zv kept spare)(hs:spare≠[]){n x d:Int}{j:Nat}(hf:zM kept n)(hd:(kept++spare)[j]? = some d)(h0:0≤x)(h1:x<d)(hne:x≠n%d):qc kept spare ((zF (kept++spare) n).set j x):=by
 have hj:=(xv.mp hd).1
 have hl:=qv (kept++spare) n
 have at':∀i e,i≠j→(kept++spare)[i]? = some e→((zF (kept++spare) n).set j x)[i]? = some (n%e):=fun i e hi he=>by
  rw[yS (Ne.symm hi)];exact Jo he
 have atj:((zF (kept++spare) n).set j x)[j]? = some x:=yH (by omega)
 refine⟨⟨by rw[vp,hl],fun i e r he hr=>?_⟩,fun v hk e=>?_⟩
 ·by_cases hi:i=j
  ·subst hi
   rw[hd]at he;cases he
   rw[atj]at hr;cases hr
   exact⟨h0,h1⟩
  ·rw[at' i e hi he]at hr;cases hr
   have:=(g.rng e (xq he)).1
   exact⟨yc _ (by omega),xU _ (by omega)⟩
 ·have hv:v=n:=ziH g hs hj hk.fits hf fun i e' hi he=>by
   have h:=Jo (n:=v) he
   rw[e,at' i e' hi he]at h
   exact(Option.some.inj h).symm
  have h:=Jo (n:=v) hd
  rw[e,atj,hv]at h
  exact hne (Option.some.inj h)
end RF
namespace L2
open PySem PySem.Spec PyProof.Rows Builtin Builtin.ObjectAttr Builtin.Getset_descriptor
section
variable {prog:Program}{w:World}{A:Around}{E:Value→Shared→Prop}{s:Shared}{K:xb}{ea C:Addr}{oe:Obj}{R:Result→Shared→Prop}
theorem zkG {tp:Value}(X:K.In s.heap)(he:s.heap.get? ea=some oe)(hc:oe.cls=.ref C)(hm:yg K C (.type "object")=some true)(h:R (.ok (.ret (.ref C))) s) :
  codeAny (model prog w) A (.call (.builtin "getset_descriptor.__get__") ⟨[.builtin "object.__class__",.ref ea,tp],[]⟩) R s:=by
 obtain⟨hh,g,dr,t,os⟩:=s
 have L0:xO (model prog w) hh (typeOf (.ref ea)) (.ref C):=hc▸(xO.ld he).andThen .now
 have L1:=uk (M:=model prog w) X hm
 refine codeAny_call_builtin PySem.W.KF.slot_gs.plain PySem.W.KF.entry_gs (PySem.W.KF.slot_gs.check _ _ _ _ _ _ _ _ PySem.W.KF.type_class (PySem.W.KF.args_gs _ _ _) ?_)
 unfold Builtin.«getset_descriptor.__get__» descrGet;rw[PySem.W.dga_obj];refine wpAny_bind (wpAny_pure ?_);unfold descrGetter descrCheckInstance descrNameAndClass isInstance
 simp only[PySem.W.KF.owner_class];repeat lk
 refine⟨Code.quiet_builtin _ (by decide +kernel),codeAny_builtin PySem.W.KF.entry_class ?_⟩;unfold Builtin.«object.__class__» shownTypeOf;repeat lk
 exact h
structure zai (K:xb)(C:Addr):Prop where
 ga:xL K (.ref C) "__getattribute__"=some (some (.builtin "BaseException.__getattribute__"))
 gt:xL K (.ref C) "__getattr__"=some none
 cl:xL K (.ref C) "__class__"=some (some (.builtin "object.__class__"))
 sp:v8 K (.builtin "object.__class__") "__get__"=some (some (.builtin "getset_descriptor.__get__"))
 tk:wx K (.builtin "object.__class__")=some true
 mo:yg K C (.type "object")=some true
 mb:yg K C (.type "BaseException")=some true
theorem ziz {tk:Tok}{Q:Fin→Shared→Prop}(G:zai K C)(X:K.In s.heap)(he:s.heap.get? ea=some oe)(hc:oe.cls=.ref C)(h:Q (.done (.ret (.ref C))) s) :
  wpAny (model prog w) A (Builtin.«object.__getattribute__» ⟨[.ref ea,.str "__class__" tk],[]⟩) Q E s:=by
 obtain⟨hh,g,dr,t,os⟩:=s
 have L0:xO (model prog w) hh (typeOf (.ref ea)) (.ref C):=hc▸(xO.ld he).andThen .now
 have L1:=yE (M:=model prog w) X G.cl
 have L2:xO (model prog w) hh (getOf (some (.builtin "object.__class__"))) (some (.builtin "getset_descriptor.__get__")):=PySem.W.looks_specialIn X G.sp
 have L3:=PySem.W.looks_takesIn (M:=model prog w) X G.tk
 have L4:xO (model prog w) hh (find (.ref ea) (.ref C) "__class__") (.bind (.builtin "getset_descriptor.__get__") (.builtin "object.__class__")) :=
  L1.andThen (L2.andThen ((show xO (model prog w) hh (dataDescriptor? (some (.builtin "object.__class__")) (some (.builtin "getset_descriptor.__get__"))) (some (.builtin "getset_descriptor.__get__",.builtin "object.__class__")) from L3.andThen .now).andThen (xO.tag .now)))
 refine wpAny_bind (wpAny_pure (wpAny_bind (wpAny_pure (wpAny_bind (L0.at (wpAny_bind (L4.at ?_)))))))
 show wpAny _ _ (bindTo _ _ _ _) _ _ _
 unfold bindTo
 show wpAny _ _ (holding [.builtin "object.__class__"] (call (.builtin "getset_descriptor.__get__") [.builtin "object.__class__",.ref ea,.ref C]) >>= ret) _ _ _
 refine wpAny_bind (wpAny_holding (wpAny_call (zkG (s:=⟨hh,g,dr,t,os⟩) X he hc G.mo ?_)))
 exact wpAny_pure h
theorem zeQ {x:Value}:bindSpecial (.builtin "BaseException.__getattribute__") x=pure (Value.builtin "BaseException.__getattribute__",[x]):=by
 have e:typeOf (.builtin "BaseException.__getattribute__")=pure (.type "wrapper_descriptor"):=by kernel_rfl
 unfold bindSpecial;rw[e];rfl
theorem zd7:plainId "BaseException.__getattribute__"=true:=by decide +kernel
theorem zf9 {M:Model}{C:Addr}{Q:Value→Shared→Prop}(h:Q (.ref C) s):wpAny M A (handedOut (.ref C)) Q E s:=PySem.W.handed_on rfl h
theorem zhx {Q:Option Value→Shared→Prop}(G:zai K C)(X:K.In s.heap)(he:s.heap.get? ea=some oe)(hc:oe.cls=.ref C)(h:Q (some (.ref C)) {s with toks:=s.toks+1}):wpAny (model prog w) A (getAttr? (.ref ea) "__class__") Q E s:=by
 obtain⟨hh,g,d,t,os⟩:=s
 have L0:xO (model prog w) hh (typeOf (.ref ea)) (.ref C):=hc▸(xO.ld he).andThen .now
 have L1:=yE (M:=model prog w) X G.ga
 have L2:=yE (M:=model prog w) X G.gt
 unfold getAttr? getAttrBy? getAttrBy
 refine wpAny_bind (wpAny_mkText (wpAny_bind (wpAny_attempt (wpAny_holding (wpAny_bind (L0.at (wpAny_bind (L1.at ?_))))))));show wpAny _ _ (getAttrByItsOwn _ _ _ _ _ _) _ _ _
 unfold getAttrByItsOwn
 refine wpAny_bind ?_
 show wpAny _ _ (typeLookup (.ref C) "__getattr__") _ _ _
 refine L2.at ?_
 refine wpAny_bind (wpAny_attempt (wpAny_holding ?_))
 show wpAny _ _ (boundAndCalled (.builtin "BaseException.__getattribute__") (.ref ea) _) _ _ _
 unfold boundAndCalled
 refine wpAny_bind (wpAny_of_eq (a:=(Value.builtin "BaseException.__getattribute__",[Value.ref ea])) zeQ ?_)
 refine wpAny_call (codeAny_call_builtin zd7 F.entry_bexc_ga ?_)
 have hk:builtinKind "BaseException.__getattribute__"=some .slot:=by decide +kernel
 have hs:splitId "BaseException.__getattribute__"=some ("BaseException","__getattribute__"):=by decide +kernel
 have L5:xO (model prog w) hh (isInstance (.ref ea) (.type "BaseException")) true:=L0.andThen (uk X G.mb)
 have ha:=F.args_bexc_ga (.ref ea) (.str "__class__" t)
 simp only[checkBuiltinCall,hk,hs]
 refine wpAny_bind (L5.at ?_)
 rw[if_neg (by decide)]
 refine wpAny_of_eq (a:=()) ha ?_
 refine ziz (s:=⟨hh,g,d,t+1,os⟩) G X he hc ?_
 exact zf9 (wpAny_pure h)
theorem zjg {d:Option Addr}(G:zai K C):PySem.W.KitX K (.ref ea) (.ref C) (jF ea C d) where
 ty:=fun M h _ ⟨o,vs,he,⟨hc,_⟩,_⟩=>hc▸(xO.ld he).andThen .now
 it:=fun M h X _=>by
  have z:=G.mo
  unfold yg at z
  obtain⟨cd,hcd,_⟩:=vf.mp z
  unfold uG at hcd
  split at hcd
  ·rename_i c' d' cd' sl' ho
   intro A' Q' E' s' k q;unfold isType loadHead;exact wpAny_bind (wpAny_loadPart (k _ _ (X _ _ ho)) (wpAny_pure q))
  ·cases hcd
 ne:=fun h tp dd its n sl X htp=>by
  have z:=G.mo
  unfold yg at z
  obtain⟨cd,hcd,_⟩:=vf.mp z
  refine v9.mpr fun q=>?_
  have e:C=tp:=Value.ref.inj (beq_iff_eq.mp q);subst e;unfold uG at hcd
  split at hcd
  ·rename_i c' d' cd' sl' ho
   have z:=(X _ _ ho).symm.trans htp
   cases z
  ·cases hcd
 ca:=fun X ⟨o,vs,he,⟨hc,_⟩,_⟩ k=>zhx G X he hc k
end
section
variable {X:Cx}
noncomputable def zmA (K:xb):List V→Hp→VK→Prop:=fun xs H Q=>∃ea C d cv c b,xs=[.ref ea,cv]∧((∃T,cv=.ty T∧c=.type T)∨(∃a,cv=.ref a∧c=.ref a))∧H ea=some (.ext (jF ea C d))∧zai K C∧xi K (.ref C) c=some b∧Q (.bl b) H
theorem jQ:ja X (.builtin "isinstance") (zmA X.K):=by
 intro pins s σ H xs us Q I r h
 obtain⟨ea,C,d,cv,c,b,rfl,hcv,he,G,e,q⟩:=h
 obtain⟨u,v,rfl,rx,rc⟩:=zgt r
 cases rx
 have hv:v=c:=by
  rcases hcv with⟨T,rfl,rfl⟩|⟨a,rfl,rfl⟩
  ·exact rc
  ·exact rc
 subst hv
 obtain⟨ph,_⟩:=(show jU X.prog X.w H s.heap ea (.ext (jF ea C d)) from I.hok ea _ he)
 exact PySem.W.kia_one (zjg G) I.kIn ph e (fun z=>nomatch z) fun tk=>⟨.bl b,H,I.tok _,rfl,q⟩
end
end L2
namespace L2
open PySem PySem.Spec PyProof.Rows
section
variable {X:Cx}
noncomputable def zmp (i j:Int):Prop:=0<j∧j<2^250
theorem zjZ {j:Int}(h:j<2^250)(h0:0<j):j.natAbs.log2<9000:=by
 have h1:j.natAbs<2^250:=by
  have:(j.natAbs:Int)=j:=by omega
  have h2:(j.natAbs:Int)<((2^250:Nat):Int):=by rw[this];exact h
  exact vg.mp h2
 have:=(vz (by omega)).mpr h1
 omega
theorem zjP:OpR X (binaryOp .FloorDiv) (rI zmp fun i j=>.int (i/j)):=opI fun i j _ _ _ _ _ hc q=>by
 have h1:(0:Int)<j:=hc.1
 exact floordiv_int (by omega) (by rw[ud i (by omega)];exact q) (.inl (PyProof.noPylong_of_log2 (zjZ hc.2 h1)))
end
end L2
namespace RF
open PySem L2
theorem Qo:∀{l:List Int},(∀d∈l,2≤d∧d≤1000000)→zy l≤1000000^l.length
 | [],_=>by decide
 |d::r,h=>by
  have hd:=h d xD
  have ih:=Qo (l:=r) fun e he=>h e (xx _ he)
  have hp:=qw (l:=r) fun e he=>(h e (xx _ he)).1
  show d*zy r≤1000000^(r.length+1)
  rw[wL,yO]
  have a:=xG hd.2 (show 0≤zy r by omega)
  have b:=yD ih (show(0:Int)≤1000000 by decide)
  omega
theorem zv.small {kept spare:List Int}(g:zv kept spare):zy kept<2^120:=by
 have h:=Qo (l:=kept) fun d hd=>g.rng d (xJ _ hd)
 have k6:=g.k6
 have h2:∀m:Nat,m<7→(1000000:Int)^m≤1000000^6:=by decide
 have h2:=h2 kept.length (by omega)
 have h3:(1000000:Int)^6<2^120:=by decide
 omega
theorem zM.small {kept spare:List Int}(g:zv kept spare){n:Int}(h:zM kept n):-(2^120)<n∧n<2^120:=by
 have h1:=h.1
 have h2:=h.2
 have h3:=g.small
 have h4:=g.span
 unfold jD at h1
 unfold jm at h2
 omega
noncomputable def ji (H:Hp)(b:V)(kept spare:List Int)(n:Int)(w:Str):Prop:=∃(l:Addr) (ns:List Int),b=.ref l∧H l=some (.lst (ns.map V.int))∧ns.length≤20∧zM kept n∧Jp kept spare n ns w
theorem ji.up {H H':Hp}{b:V}{kept spare:List Int}{n:Int}{w:Str}(h:ji H b kept spare n w)(S:zd H H'):ji H' b kept spare n w:=by
 obtain⟨l,ns,e,el,r⟩:=h
 exact⟨l,ns,e,S _ _ el,r⟩
theorem zcU {kept spare:List Int}{n:Int}{ns:List Int}{w:Str}(h:Jp kept spare n ns w):w=""∨w="figure"∨w="wrong":=by
 rcases h with⟨h,_⟩|⟨h,_⟩|⟨h,_⟩
 ·exact .inl h
 ·exact .inr (.inl h)
 ·exact .inr (.inr h)
theorem QN {cB cW:Addr}{H:Hp}{a:V}{lf l1 l2:Addr}{kept spare ns1 ns2:List Int}{n1 n2:Int}{w1 w2:Str}{Q:VK}{E:XK}(B:Bas H a kept spare)(ef:H lf=some (.lst [.ref l1,.ref l2]))(e1:H l1=some (.lst (ns1.map V.int)))(e2:H l2=some (.lst (ns2.map V.int)))
  (f1:zM kept n1) (f2:zM kept n2) (F1:Jp kept spare n1 ns1 w1) (F2:Jp kept spare n2 ns2 w2)
  (right:("figure":Str)∉[w1,w2]→("wrong":Str)∉[w1,w2]→∀p H',zd H H'→H p=none→H' p=some (.lst [.int n1,.int n2])→Q (.ref p) H')
  (bad:("figure":Str)∈[w1,w2]→∀H',zd H H'→E (.ref cB) none H') (wr:("figure":Str)∉[w1,w2]→("wrong":Str)∈[w1,w2]→∀H',zd H H'→E (.ref cW) none H'):ZR cB cW [a,.ref lf] H Q E:=by
 refine⟨a,.ref lf,rfl,kept,spare,lf,l1,l2,ns1,ns2,B,rfl,ef,e1,e2,?_⟩
 have d1:("figure":Str)≠"":=by decide
 have d2:("wrong":Str)≠"":=by decide
 have d3:("figure":Str)≠"wrong":=by decide
 have vr:∀{n:Int} {ns:List Int},ns=zF (kept++spare) n→zK (kept++spare) ns:=fun {n ns} e=>by rw[e];exact JH (fun d hd=>(B.2.rng d hd).1) n
 rcases F1 with⟨h1,g1⟩|⟨h1,g1⟩|⟨h1,g1⟩<;>rcases F2 with⟨h2,g2⟩|⟨h2,g2⟩|⟨h2,g2⟩<;>subst h1 h2
 ·exact .inl ⟨n1,n2,⟨g1,f1⟩,⟨g2,f2⟩,right (by simp[d1]) (by simp[d2])⟩
 ·exact .inr (.inl ⟨.inr g2,bad (by simp)⟩)
 ·exact .inr (.inr ⟨vr g1,g2.1,.inr g2,wr (by simp[d1,d3]) (by simp)⟩)
 ·exact .inr (.inl ⟨.inl g1,bad (by simp)⟩)
 ·exact .inr (.inl ⟨.inl g1,bad (by simp)⟩)
 ·exact .inr (.inl ⟨.inl g1,bad (by simp)⟩)
 ·exact .inr (.inr ⟨g1.1,vr g2,.inl g1,wr (by simp[d1,d3]) (by simp)⟩)
 ·exact .inr (.inl ⟨.inr g2,bad (by simp)⟩)
 ·exact .inr (.inr ⟨g1.1,g2.1,.inl g1,wr (by simp[d3]) (by simp)⟩)
inductive zci (wc:Str→Addr→Prop)(g:Int→Int→Int)(a b c:V)(H:Hp)(Q:VK)(E:XK):Prop
 |mk (kept spare:List Int) (n1 n2:Int) (w1 w2:Str) (h0:Bas H a kept spare) (h1:ji H b kept spare n1 w1) (h2:ji H c kept spare n2 w2) (q:(jj kept spare (g n1 n2) [w1,w2]=(("":Str),zF (kept++spare) (g n1 n2))→∀l H',zd H H'→H l=none→H' l=some (.lst ((zF (kept++spare) (g n1 n2)).map V.int))→Q (.ref l) H')∧(∀w c,jj kept spare (g n1 n2) [w1,w2]=(w,[])→wc w c→∀H',zd H H'→E (.ref c) none H')):zci wc g a b c H Q E
noncomputable def QJ (wc:Str→Addr→Prop)(g:Int→Int→Int):Sp:=Sp3 (zci wc g)
theorem YW {cB cW:Addr}{H:Hp}{a:V}{l1:Addr}{kept spare ns1:List Int}{n1:Int}{w1:Str}{Q:VK}{E:XK}(B:Bas H a kept spare)(e1:H l1=some (.lst (ns1.map V.int)))(f1:zM kept n1)(F1:Jp kept spare n1 ns1 w1)
  (right:("figure":Str)∉[w1]→("wrong":Str)∉[w1]→∀H',zd H H'→Q (.int n1) H')
  (bad:("figure":Str)∈[w1]→∀H',zd H H'→E (.ref cB) none H') (wr:("figure":Str)∉[w1]→("wrong":Str)∈[w1]→∀H',zd H H'→E (.ref cW) none H'):zR cB cW [a,.ref l1] H Q E:=by
 have d1:("figure":Str)≠"":=by decide
 have d2:("wrong":Str)≠"":=by decide
 have d3:("figure":Str)≠"wrong":=by decide
 rcases F1 with⟨h1,g1⟩|⟨h1,g1⟩|⟨h1,g1⟩<;>subst h1
 ·exact ZG B e1 ⟨g1,f1⟩ (right (by simp[d1]) (by simp[d2]))
 ·exact zba B e1 g1 (bad (by simp))
 ·exact ZY B e1 g1 (wr (by simp[d3]) (by simp))
inductive zcD (wc:Str→Addr→Prop)(g:Int→Int)(a b:V)(H:Hp)(Q:VK)(E:XK):Prop
 |mk (kept spare:List Int) (n1:Int) (w1:Str) (h0:Bas H a kept spare) (h1:ji H b kept spare n1 w1) (q:(jj kept spare (g n1) [w1]=(("":Str),zF (kept++spare) (g n1))→∀l H',zd H H'→H l=none→H' l=some (.lst ((zF (kept++spare) (g n1)).map V.int))→Q (.ref l) H')∧(∀w c,jj kept spare (g n1) [w1]=(w,[])→wc w c→∀H',zd H H'→E (.ref c) none H')):zcD wc g a b H Q E
noncomputable def zdm (wc:Str→Addr→Prop)(g:Int→Int):Sp:=Sp2 (zcD wc g)
end RF
namespace L2
open PySem PySem.Spec PyProof.Rows
theorem qP {us:List Value}{n:Nat}(h:us.length=n+1):∃u t,us=u::t∧t.length=n:=by
 cases us with
 |nil=>cases h
 |cons u t=>exact⟨u,t,rfl,Nat.succ.inj h⟩
theorem YT {us:List Value}(h:us.length=0):us=[]:=List.eq_nil_of_length_eq_zero h
theorem qH {x:Str}{st:Stmt}{a:Str}(h:∀(kV doc pm:Value) (an:Option Addr) (cdv ct u0:Value),bindArgs (xn x x (zp st) (zm st) (ze st) .none kV doc pm an cdv ct) ⟨[u0],[]⟩=pure [(a,u0)]):zq x st [a] :=
 fun kV doc pm an cdv ct us h0=>by
  obtain⟨u0,t1,rfl,h1⟩:=qP h0
  obtain rfl:=YT h1
  exact h kV doc pm an cdv ct u0
theorem je {x:Str}{st:Stmt}{a b:Str}(h:∀(kV doc pm:Value) (an:Option Addr) (cdv ct u0 u1:Value),bindArgs (xn x x (zp st) (zm st) (ze st) .none kV doc pm an cdv ct) ⟨[u0,u1],[]⟩=pure [(a,u0),(b,u1)]):zq x st [a,b] :=
 fun kV doc pm an cdv ct us h0=>by
  obtain⟨u0,t1,rfl,h1⟩:=qP h0
  obtain⟨u1,t2,rfl,h2⟩:=qP h1
  obtain rfl:=YT h2
  exact h kV doc pm an cdv ct u0 u1
theorem qz {x:Str}{st:Stmt}{a b c:Str}(h:∀(kV doc pm:Value) (an:Option Addr) (cdv ct u0 u1 u2:Value),bindArgs (xn x x (zp st) (zm st) (ze st) .none kV doc pm an cdv ct) ⟨[u0,u1,u2],[]⟩=pure [(a,u0),(b,u1),(c,u2)]):zq x st [a,b,c] :=
 fun kV doc pm an cdv ct us h0=>by
  obtain⟨u0,t1,rfl,h1⟩:=qP h0
  obtain⟨u1,t2,rfl,h2⟩:=qP h1
  obtain⟨u2,t3,rfl,h3⟩:=qP h2
  obtain rfl:=YT h3
  exact h kV doc pm an cdv ct u0 u1 u2
theorem zd0 {x:Str}{st:Stmt}{a b c d:Str}(h:∀(kV doc pm:Value) (an:Option Addr) (cdv ct u0 u1 u2 u3:Value),bindArgs (xn x x (zp st) (zm st) (ze st) .none kV doc pm an cdv ct) ⟨[u0,u1,u2,u3],[]⟩=pure [(a,u0),(b,u1),(c,u2),(d,u3)]):zq x st [a,b,c,d] :=
 fun kV doc pm an cdv ct us h0=>by
  obtain⟨u0,t1,rfl,h1⟩:=qP h0
  obtain⟨u1,t2,rfl,h2⟩:=qP h1
  obtain⟨u2,t3,rfl,h3⟩:=qP h2
  obtain⟨u3,t4,rfl,h4⟩:=qP h3
  obtain rfl:=YT h4
  exact h kV doc pm an cdv ct u0 u1 u2 u3
section
variable {X:Cx}
theorem zaz {ι:Type}{st:Stmt}{rest:List Stmt}{t u:TS}(G:ι→St→Hp→Prop)(h1:PS X st t)(h2:PSs X rest u):PSs X (st::rest) (fun D σ H=>∃i:ι,(∀σ' H',G i σ' H'→u D σ' H')∧t {D with nx:=G i} σ H):=by
 intro pins s σ H D I ⟨i,ha,hb⟩
 exact zle (G i) h1 h2 pins s σ H D I ⟨ha,hb⟩
end
end L2
namespace RF
open PySem L2
theorem zce {kept spare:List Int}(g:zv kept spare){n b:Int}(h:zM kept n)(hb:1≤b):zM kept (n/b):=by
 have h1:=h.1
 have h2:=h.2
 have hp:=g.span
 have l0:jD kept≤0:=by unfold jD;omega
 have u0:0≤jm kept:=by unfold jm;omega
 rcases uN n 0 with hn|hn
 ·have a:n≤n/b:=(Int.le_ediv_iff_mul_le (by omega)).mpr (by
   have:=wD (show 0≤-n by omega) (show 0≤b - 1 by omega)
   rw[Int.neg_mul,wn,uo]at this
   omega)
  have c:n/b≤0:=by
   have:=Int.ediv_neg_of_neg_of_pos hn (show 0<b by omega)
   omega
  exact⟨by omega,by omega⟩
 ·have a:n/b≤n:=Int.ediv_le_self b hn
  have c:0≤n/b:=Int.ediv_nonneg hn (by omega)
  exact⟨by omega,by omega⟩
noncomputable def QQ (kept spare:List Int)(wh n b:Int)(w:Str):Str×List Int :=
 if w≠"" then(w,[]) else if b<1 then("divisor",[]) else if wh=0 then("",zF (kept++spare) (n/b)) else("",[n%b])
inductive Yb (wc:Str→Addr→Prop)(a b c:V)(H:Hp)(Q:VK)(E:XK):Prop
 |mk (kept spare:List Int) (n b':Int) (w:Str) (h0:Bas H a kept spare) (h1:ji H b kept spare n w) (h2:c=.int b') (q:(w=""→1≤b'→∀H',zd H H'→Q (.int n) H')∧(∀w' c,QQ kept spare 0 n b' w=(w',[])→wc w' c→∀H',zd H H'→E (.ref c) none H')):Yb wc a b c H Q E
noncomputable def Qa (wc:Str→Addr→Prop):Sp:=Sp3 (Yb wc)
inductive Yq (wc:Str→Addr→Prop)(a b c:V)(H:Hp)(Q:VK)(E:XK):Prop
 |mk (kept spare:List Int) (n b':Int) (w:Str) (h0:Bas H a kept spare) (h1:ji H b kept spare n w) (h2:c=.int b') (h3:b'<2^240) (q:(w=""→1≤b'→∀l H',zd H H'→H l=none→H' l=some (.lst ((zF (kept++spare) (n/b')).map V.int))→Q (.ref l) H')∧(∀w' c,QQ kept spare 0 n b' w=(w',[])→wc w' c→∀H',zd H H'→E (.ref c) none H')):Yq wc a b c H Q E
noncomputable def Y8 (wc:Str→Addr→Prop):Sp:=Sp3 (Yq wc)
inductive zdk (wc:Str→Addr→Prop)(a b c:V)(H:Hp)(Q:VK)(E:XK):Prop
 |mk (kept spare:List Int) (n b':Int) (w:Str) (h0:Bas H a kept spare) (h1:ji H b kept spare n w) (h2:c=.int b') (q:(w=""→1≤b'→∀H',zd H H'→Q (.int (n%b')) H')∧(∀w' c,QQ kept spare 0 n b' w=(w',[])→wc w' c→∀H',zd H H'→E (.ref c) none H')):zdk wc a b c H Q E
noncomputable def zfy (wc:Str→Addr→Prop):Sp:=Sp3 (zdk wc)
theorem zdZ {kept spare:List Int}{wh n b:Int}{w:Str}(h:w≠""):QQ kept spare wh n b w=(w,[]):=by unfold QQ;rw[if_pos h]
theorem zjz {kept spare:List Int}{wh n b:Int}{w:Str}(h:w="")(hb:b<1):QQ kept spare wh n b w=(("divisor":Str),[]):=by unfold QQ;rw[if_neg (by simp[h]),if_pos hb]
end RF
set_option exponentiation.threshold 10000
namespace L2
open PySem PySem.Spec PyProof.Rows
noncomputable def Zr (ns:List Int):List Int:=firstMet (fun i=>ns.getD i 0) ns.length
section
variable {X:Cx}
noncomputable def zmo (i j:Int):Prop:=0<j∧j<2^8000
theorem zhj {j:Int}(h:j<2^8000)(h0:0<j):j.natAbs.log2<9000:=by
 have h1:j.natAbs<2^8000:=by
  have:(j.natAbs:Int)=j:=by omega
  have h2:(j.natAbs:Int)<((2^8000:Nat):Int):=by rw[this];exact h
  exact vg.mp h2
 have:=(vz (by omega)).mpr h1
 omega
theorem zjA:OpR X (binaryOp .FloorDiv) (rI zmo fun i j=>.int (i/j)):=opI fun i j _ _ _ _ _ hc q=>by
 have h1:(0:Int)<j:=hc.1
 exact floordiv_int (by omega) (by rw[ud i (by omega)];exact q) (.inl (PyProof.noPylong_of_log2 (zhj hc.2 h1)))
theorem zhl (hc:X.calm=true):ja X (.type "set") (fun xs H Q=>∃p,∃ns:List Int,xs=[.ref p]∧SqL X.K H p (ns.map V.int)∧ns.length<64∧∀a,H a=none→Q (.ref a) (upd H a (.set (fun k=>(Zr ns).any (·==k)) (Zr ns).length))):=by
 intro pins s σ H xs us Q I r h
 obtain⟨p,ns,rfl,hq,h64,q⟩:=h
 obtain⟨u,rfl,rx⟩:=qm r
 cases rx
 obtain⟨its,rv,pl,hz⟩:=I.list hq
 have hI:=JB rv
 have hlen:its.length=ns.length:=by rw[←rv.length,xa]
 refine call_set_list (I.ok.hd hc) pl.isList hI (by rw[xC,hlen];exact xy (show ns.length+1<65 by omega) (by decide)) fun h' tk hS hk=>?_
 have e0:its.toArray.size=ns.length:=by rw[xC,hlen]
 rw[e0]at hS
 exact⟨.ref s.heap.objs.size,_,I.laid (o:=.set (fun k=>(Zr ns).any (·==k)) (Zr ns).length) (t':=tk) (fun b o e=>hk b o (xp e) e) (xr _) hS,rfl,q _ I.fresh⟩
theorem zcI:ja X (.builtin "len") (fun xs H Q=>∃p S n,xs=[.ref p]∧H p=some (.set S n)∧Q (.int n) H):=by
 intro pins s σ H xs us Q I r h
 obtain⟨p,S,n,rfl,hp,q⟩:=h
 obtain⟨u,rfl,rx⟩:=qm r
 cases rx
 obtain⟨o,es,ep,t,ho,hex,hd,_,_,hs,hf,rfl⟩:=(show jU X.prog X.w H s.heap p (.set S n) from I.hok p _ hp)
 have hb:(es.size:Int)<2^63:=by
  have:es.size<4096:=hs
  omega
 exact call_len_set ho hex hd hf hb ⟨.int es.size,H,I.tok _,⟨_,rfl⟩,q⟩
end
end L2
namespace RF
open PySem L2 PyProof.Rows
theorem YM (val:Nat→Int):∀i,(firstMet val i).length=i↔((xH i).map val).Nodup
 |0=>by rw[firstMet_zero];simp
 |i+1=>by
  have ih:=YM val i
  have le:=firstMet_length_le val i
  have an:=firstMet_any val i (val i)
  rw[firstMet_succ,yQ,xE]
  unfold step_dedup
  cases h:(firstMet val i).any (·==val i) with
  |true =>
   rw[if_pos rfl]
   rw[h]at an
   obtain⟨y,hy,e⟩:=List.any_eq_true.mp an.symm
   have e:y=val i:=by simpa using e
   subst e
   constructor
   ·intro z;omega
   ·intro z
    have:=(yR.mp z).2.2 _ hy _ (xo.mpr rfl)
    exact absurd rfl this
  |false =>
   rw[if_neg (by simp),xw,uA]
   rw[h]at an
   have hn:val i∉(xH i).map val:=fun hm=>by
    have:=v5.mp an.symm _ hm
    simp at this
   constructor
   ·intro z
    refine yR.mpr ⟨ih.mp (by omega),by simp,fun a ha b hb=>?_⟩
    rw[xo.mp hb]
    rintro rfl
    exact hn ha
   ·intro z
    have:=ih.mpr (yR.mp z).1
    omega
theorem zgI (ns:List Int):(xH ns.length).map (fun i=>ns.getD i 0)=ns:=by
 apply yZ
 intro i
 rw[xK]
 by_cases h:i<ns.length
 ·rw[yG h,xm h]
  simp[h]
 ·rw[xX (by rw[xZ];omega),xX (by omega)];rfl
theorem zcp (ns:List Int):(Zr ns).length=ns.length↔ns.Nodup:=by
 unfold Zr
 rw[YM,zgI]
noncomputable def Ja (ps:List Int)(count:Int):Prop:=(∀p∈ps,0≤p∧p<count)∧ps.Nodup
inductive za8 (cP:Addr)(a b:V)(H:Hp)(Q:VK)(E:XK):Prop
 |mk (l:Addr) (ps:List Int) (count:Int) (h0:a=.ref l) (h1:b=.int count) (h2:H l=some (.lst (ps.map V.int))) (h3:ps.length<64) (q:(Ja ps count→∀H',zd H H'→Q .non H')∧(¬Ja ps count→∀H',zd H H'→E (.ref cP) none H')):za8 cP a b H Q E
noncomputable def Yh (cP:Addr):Sp:=Sp2 (za8 cP)
inductive zca (a:V)(H:Hp)(Q:VK)(E:XK):Prop
 |mk (t:Addr) (ds:List Int) (h0:a=.ref t) (h1:H t=some (.lst (ds.map V.int))) (h2:(∀d∈ds,2≤d∧d≤1000000)) (q:Q (.int (zy ds)) H):zca a H Q E
noncomputable def zc5:Sp:=Sp1 (zca)
noncomputable def Zd (kept:List Int)(ps:List Int):List Int:=ps.map fun p=>kept.getD p.toNat 0
noncomputable def zcZ (kept:List Int):V→V
 | .int p=>.int (kept.getD p.toNat 0)
 |_=>.non
theorem zaE (kept ps:List Int):(ps.map V.int).map (zcZ kept)=(Zd kept ps).map V.int:=by
 unfold Zd
 rw[yj,yj];rfl
theorem zc1 {kept spare:List Int}(g:zv kept spare){ps:List Int}(h:∀p∈ps,0≤p∧p<kept.length):∀d∈Zd kept ps,2≤d∧d≤1000000:=fun d hd=>by
 unfold Zd at hd
 obtain⟨p,hp,rfl⟩:=xI.mp hd
 have:=h p hp
 exact g.rng _ (xJ _ (getD_mem (by omega)))
theorem ziR {kept spare:List Int}(g:zv kept spare){ps:List Int}(h:∀p∈ps,0≤p∧p<kept.length)(h64:ps.length<64):0<zy (Zd kept ps)∧zy (Zd kept ps)<2^8000:=by
 have r:=zc1 g h
 refine⟨qw fun d hd=>(r d hd).1,?_⟩
 have a:=Qo r
 have l:(Zd kept ps).length=ps.length:=xa ..
 have b:∀m:Nat,m<64→(1000000:Int)^m<2^8000:=by decide +kernel
 exact Int.lt_of_le_of_lt a (by rw[l];exact b _ h64)
open Classical in
noncomputable def zam (kept spare:List Int)(n:Int)(ps:List Int)(w:Str):Str×List Int :=
 if w≠"" then(w,[]) else if Ja ps kept.length then("",zF (kept++spare) (n/zy (Zd kept ps))) else("place",[])
theorem zaF {kept spare:List Int}{n:Int}{ps:List Int}{w:Str}(h:w≠""):zam kept spare n ps w=(w,[]):=by unfold zam;rw[if_pos h]
theorem zky {kept spare:List Int}{n:Int}{ps:List Int}{w:Str}(h:w="")(hp:Ja ps kept.length):zam kept spare n ps w=(("":Str),zF (kept++spare) (n/zy (Zd kept ps))):=by unfold zam;rw[if_neg (by simp[h]),if_pos hp]
theorem zf4 {kept spare:List Int}{n:Int}{ps:List Int}{w:Str}(h:w="")(hp:¬Ja ps kept.length):zam kept spare n ps w=(("place":Str),[]):=by unfold zam;rw[if_neg (by simp[h]),if_neg hp]
inductive zbb (wc:Str→Addr→Prop)(a b c:V)(H:Hp)(Q:VK)(E:XK):Prop
 |mk (kept spare:List Int) (n:Int) (w:Str) (lp:Addr) (ps:List Int) (h0:Bas H a kept spare) (h1:ji H b kept spare n w) (h2:c=.ref lp) (h3:H lp=some (.lst (ps.map V.int))) (h4:ps.length<64) (q:(w=""→Ja ps kept.length→∀l H',zd H H'→H l=none→H' l=some (.lst ((zF (kept++spare) (n/zy (Zd kept ps))).map V.int))→Q (.ref l) H')∧(∀w' c,zam kept spare n ps w=(w',[])→wc w' c→∀H',zd H H'→E (.ref c) none H')):zbb wc a b c H Q E
noncomputable def zcc (wc:Str→Addr→Prop):Sp:=Sp3 (zbb wc)
end RF
namespace L2
open PySem PySem.Spec PyProof.Rows
section
variable {X:Cx}{pins:List (Addr×Obj)}{σ:St}{H:Hp}{s:Shared}
theorem zes {prog:Program}{w:World}{A:Around}{s:Shared}{elt tg iter c:Expr}{scope:Scope}{pos:Pos}{it acc:Value}{env:Env}{R:Result→Shared→Prop}(J:Nat→Shared→Prop)
  (turn:∀n s,J n s→wpAny (model prog w) A (pyNext it) (fun r s1=>match r with
   |none=>R (.ok .next) s1
   |some v=>wpAny (model prog w) A (letOwnedTupleGo tg it v) (fun _ s2=>wpAny (model prog w) A (assign tg env v) (fun _ s3=>wpAny (model prog w) A (isTrue c env (eval c env)) (fun ok s3'=>if ok=true then wpAny (model prog w) A (eval elt env) (fun x s4 =>
     wpAny (model prog w) A (call (.builtin "list.append") [acc,x]) (fun _ s5=>∃m,m<n∧J m s5) (notedBy (model prog w) A env fun e s'=>R (.error e) s') s4) (notedBy (model prog w) A env fun e s'=>R (.error e) s') s3' else ∃m,m<n∧J m s3')
     (notedBy (model prog w) A env fun e s'=>R (.error e) s') s3)
     (notedBy (model prog w) A env fun e s'=>R (.error e) s') s2) (notedBy (model prog w) A env fun e s'=>R (.error e) s') s1) (notedBy (model prog w) A env fun e s'=>R (.error e) s') s)
  (n:Nat) (h:J n s):codeAny (model prog w) A (.compLoop (.ListComp elt [⟨tg,iter,[c],0⟩] scope pos) 0 it acc env) R s:=by
 refine codeAny_loop rfl J (fun n s hJ=>?_) n h
 show wpAny _ A ((compTurn (.ListComp elt [⟨tg,iter,[c],0⟩] scope pos) 0 it acc env).onRaise (fun x=>do noteFrame x env;theTreesLotGoes x)) _ _ s
 refine wpAny_noted ?_;rw[compTurn_list]
 refine wpAny_bind (wpAny_standAt (wpAny_bind (wpAny_mono (turn n s hJ) (fun r s1 h1=>?_) fun _ _ z=>z)))
 match r,h1 with
 |none,h1=>exact wpAny_pure h1
 |some v,h1 =>
  refine wpAny_bind (wpAny_mono h1 (fun _ s2 h2=>?_) fun _ _ z=>z)
  refine wpAny_bind (wpAny_mono h2 (fun _ s3 h3=>wpAny_bind (wpAny_mono (wpAny_tests_one h3) (fun ok s3' h3'=>?_) fun _ _ z=>z)) fun _ _ z=>z)
  cases ok with
  |true =>
   have h3':wpAny (model prog w) A (eval elt env) _ _ s3':=h3'
   exact wpAny_bind (wpAny_bind (wpAny_mono h3' (fun x s4 h4=>wpAny_bind (wpAny_mono h4 (fun _ s5 h5=>wpAny_pure (wpAny_pure ⟨rfl,h5⟩)) fun _ _ z=>z)) fun _ _ z=>z))
  |false =>
   have h3':∃m,m<n∧J m s3':=h3'
   exact wpAny_bind (wpAny_pure (wpAny_pure ⟨rfl,h3'⟩))
theorem zaZ {elt iter c:Expr}{tg:Expr}{pos:Pos}{scope:Scope}{g:TG}{tc:TT}{te:TE}{lv:Nat}{caps:List Nat}{N':List Str}{fp:List Addr}{it D C:Addr}{tn:Nat→Heap→Prop}{J:It}{H3:Hp}{s3 s4:Shared}{Q:VK}{W:Nat→Nat→List V→Hp→Prop}{m0:Nat}
  (hc:X.calm=true) (T:Qs X.prog X.w X.K tg J fp it tn) (hC:s3.heap.objs.size≤C) (I3:Inv X pins σ H3 s3) (f3:∀b∈fp,jG X pins H3 b) (hCf:∀b∈fp,b≠C) (I4:Inv (X.comp scope C N' s3 H3 fp) [] (jJ lv caps σ) H3 s4) (st4:tn 0 s4.heap) (w0:W 0 m0 [] H3)
  (turn:∀i m ys H,W i m ys H→H D=some (.lst ys)∧ys.length<sizeLine∧((J.stop i H∧Q (.ref D) H)∨(J.go i H∧∀x H',J.yld i H x H'→g x (jJ lv caps σ) H' fun σ2 H2=>tc σ2 H2 fun b H2'=>if b=true then te σ2 H2' fun v H3=>H3 D=some (.lst ys) ∧
   ∃m',m'<m∧W (i+1) m' (ys++[v]) (upd H3 D (.lst (ys++[v]))) else ∃m',m'<m∧W (i+1) m' ys H2')))
  (hgk:J6 g lv caps) (hg:PG (X.comp scope C N' s3 H3 fp) tg g) {xe:Value→Shared→Prop} {R:Result→Shared→Prop}
  (hstop:∀H5 s6,Inv (X.comp scope C N' s3 H3 fp) [] (jJ lv caps σ) H5 s6→Q (.ref D) H5→R (.ok .next) s6)
  (herr:∀e s',xe e s'→notedBy (model X.prog X.w) X.A (compEnvC scope (JR scope X.env) C X.env) (fun e s'=>R (.error e) s') e s')
  (hct:PT ((X.comp scope C N' s3 H3 fp).wish xe) c tc) (he:PE ((X.comp scope C N' s3 H3 fp).wish xe) elt te) :
  codeAny (model X.prog X.w) X.A (.compLoop (.ListComp elt [⟨tg,iter,[c],0⟩] scope pos) 0 (.ref it) (.ref D) (compEnvC scope (JR scope X.env) C X.env)) R s4:=by
 have stat:∀{H':Hp},(∀b∈fp,H' b=none)→∀b∈fp,jG (X.comp scope C N' s3 H3 fp) [] H' b:=fun {H'} hn b hb =>
  ⟨hn b hb,hCf b hb,fun z=>I4.ok.exfs b hb z,.inl hb,fun y c e=>(I4.ok.exf b hb).2 y c e,fun p hp=>absurd (show p∈([]:List (Addr×Obj)) from hp) (by simp)⟩
 refine zes (fun n s'=>∃i ys H',Inv (X.comp scope C N' s3 H3 fp) [] (jJ lv caps σ) H' s'∧tn i s'.heap∧(∀b∈fp,H' b=none)∧W i n ys H') ?_ m0 ⟨0,[],_,I4,st4,fun b hb=>(f3 b hb).1,w0⟩
 rintro n s5 ⟨i,ys,H5,I5,st5,fr5,w5⟩
 obtain⟨hD,hlen,hcase⟩:=turn i n ys H5 w5
 rcases hcase with⟨stop,q⟩|⟨go,step⟩
 ·refine thn (T.done (X.comp scope C N' s3 H3 fp) rfl rfl rfl hc i [] s5 _ H5 _ I5 (stat fr5) st5 stop) fun r s6 hr=>?_
  obtain⟨hr,I6⟩:=hr
  subst hr
  exact hstop _ _ I6 q
 ·refine thn (T.item (X.comp scope C N' s3 H3 fp) rfl rfl rfl hc i [] s5 _ H5 _ I5 (stat fr5) st5 go) fun r s6 hr=>?_
  obtain⟨u,hr,h6⟩:=hr
  subst hr
  refine thn h6 fun _ s7 h7=>?_
  obtain⟨y,H7,I7,r7,y7,st7,fr7⟩:=h7
  have I7':=I7.pinned (stat fr7) (T.obj _ _ st7)
  refine wpAny_mono (hg _ s7 _ H7 y u _ I7' r7 (hgk σ y H7 _ (step y H7 y7))) (fun _ s8 h8=>?_) (fun _ _ z=>z.elim)
  obtain⟨σ8,H8,I8,q8,ks⟩:=h8
  refine wpAny_mono (hct _ s8 σ8 H8 _ (I8.wish _) q8) (fun b s8' hb=>?_) (fun e s9 z=>herr e s9 z)
  obtain⟨H8',I8',q8'⟩:=hb
  cases b with
  |true =>
   have q8':te σ8 H8' _:=q8'
   show wpAny _ _ _ _ _ s8'
   refine wpAny_mono (he _ s8' σ8 H8' _ I8' q8') (fun v s9 h9=>?_) (fun e s9 z=>herr e s9 z)
   obtain⟨z9,H9,I9,r9,hD9,m',hm',w9⟩:=h9
   have I9:=I9.unwish
   refine wpAny_mono (jT (X:=X.comp scope C N' s3 H3 fp) _ s9 σ8 H9 (.ref D) [z9] (.ref D) [v] (fun _ H'=>H'=upd H9 D (.lst (ys++[z9]))) I9 rfl (.cons r9 .nil) ⟨D,ys,z9,rfl,rfl,hD9,hlen,rfl⟩) (fun _ s10 h10=>?_) (fun _ _ z=>z.elim)
   obtain⟨_,H10,I10,_,rfl⟩:=h10
   refine⟨m',hm',i+1,ys++[z9],_,I10.unpinned.weak ?_ ?_,T.keep _ _ _ st7 fun b hb o e=>(I10.pin (b,o) (xu _ (xu _ (jA hb e)))).1,fun b hb=>?_,w9⟩
   ·rw[I10.len];exact I4.len
   ·exact ks
   ·obtain⟨o,e,d⟩:=T.obj _ _ st7 b hb
    exact(I10.pin (b,o) (xu _ (xu _ (jA hb e)))).2.1
  |false =>
   have q8':∃m',m'<n∧W (i+1) m' ys H8':=q8'
   obtain⟨m',hm',w9⟩:=q8'
   have I10:=I8'.unwish
   show ∃m,m<n∧_
   refine⟨m',hm',i+1,ys,_,I10.unpinned.weak ?_ ?_,T.keep _ _ _ st7 fun b hb o e=>(I10.pin (b,o) (xu _ (jA hb e))).1,fun b hb=>?_,w9⟩
   ·rw[I10.len];exact I4.len
   ·exact ks
   ·obtain⟨o,e,d⟩:=T.obj _ _ st7 b hb
    exact(I10.pin (b,o) (xu _ (jA hb e))).2.1
theorem zcr {scope:Scope}{lv:Nat}{caps:List Nat}{N':List Str}{fp:List Addr}{C:Addr}{H3 H5:Hp}{s3 s6:Shared}{h':Heap}(hC:s3.heap.objs.size≤C)(I3:Inv X pins σ H3 s3)(f3:∀b∈fp,jG X pins H3 b)
  (I6:Inv (X.comp scope C N' s3 H3 fp) [] (jJ lv caps σ) H5 s6) (hs':yF C s6.heap h'):Inv X pins σ H5 {s6 with heap:=h'}:=by
 have ub:=I6.base
 have neC:∀b o,s3.heap.get? b=some o→b≠C:=fun b o q=>xz (xy (xp q) hC)
 refine I3.call' (ch:=fp) (s':={s6 with heap:=h'}) I6.os ⟨fun b o q n hb hx=>(hs'.2 b (neC b o q)).trans (ub.keep b o q n hb hx),fun b o q n hb hx=>?_,ub.free,fun b o q hx=>?_,ub.tups,ub.frzs,ub.tbls⟩ ?_ I6.bare (fun b hb=>?_)
 ·obtain⟨sl,e⟩:=ub.slot b o q n hb hx
  exact⟨sl,(hs'.2 b (neC b o q)).trans e⟩
 ·obtain⟨o',e⟩:=ub.there b o q hx
  exact⟨o',(hs'.2 b (neC b o q)).trans e⟩
 ·intro b o q
  refine(I6.hok b o q).stay (fun c u hc' q'=>(hs'.2 c ?_).trans q') (fun _ z=>z) fun _ _ z=>z
  intro ec
  have fC:H5 C=none:=I6.free
  rcases hc' with z|z
  ·rw[←z,ec,fC]at q;cases q
  ·rw[ec,fC]at z;cases z
 ·obtain⟨_,y1,_,y3,y4,y5⟩:=f3 b hb
  exact⟨y3,y1,y4,y5⟩
theorem zdO {scope:Scope}{lv:Nat}{caps:List Nat}{N':List Str}{fp:List Addr}{C:Addr}{H3 H5:Hp}{s3 s6:Shared}{i:Nat}{y:Str}{py:Pos}{v:V}{u:Value}{D:qY}(hC:s3.heap.objs.size≤C)(I3:Inv X pins σ H3 s3)(f3:∀b∈fp,jG X pins H3 b)
  (hN:X.N.Nodup) (hi:X.N[i]? = some y) (hx:Loc X.env.scope y) (hf:X.fn y=true∨X.env.scope.names.lookup y=some .local)
  (I6:Inv (X.comp scope C N' s3 H3 fp) [] (jJ lv caps σ) H5 s6) (r:zU v u) (q:D.nx (σ.set i (some v)) H5) :
  compPost (model X.prog X.w) X.A X.xe (some (assign (.Name y py) X.env)) (fun _ s'=>SP X pins D .next s') u C (.ok .next) s6:=by
 have I:=zcr hC I3 f3 I6 (yF.refl C s6.heap)
 obtain⟨m,hn,_⟩:=I6.loc
 have hn:s6.heap.Ns C m:=hn
 have cL:C≠X.env.locals:=fun z=>yd _ (xy (z▸I3.lt) hC)
 have cc:∀x c,X.env.cells.lookup x=some c→c≠C:=fun x c e z=>by
  obtain⟨v,o,e',_⟩:=I3.cell x c e
  exact yd _ (xy (z▸xp e') hC)
 show wpAny _ _ (assign (.Name y py) X.env u) _ _ _
 refine wpAny_assign_Name (zck I hN hi hx r (fun s7 I7 ⟨a,sb,ha⟩=>?_) hf)
 have aC:C≠a:=fun z=>by
  rcases ha with e|e
  ·exact cL (z.trans e)
  ·exact cc _ _ e z.symm
 refine⟨m,hn.sameBut sb aC,fun h' hs'=>?_⟩
 refine⟨_,H5,I7.turned (it:=C) (t':=s7.toks) (fun b o hb e=>(hs'.2 b hb).trans e) I6.free cL (.inr (x6 I3.sz hC)) cc (fun p hp z=>?_),q⟩
 have:=(I3.pin p hp).1
 exact yd _ (xy (z▸xp this) hC)
noncomputable def za0 (J:It)(g:TG)(tc:TT)(te:TE)(σ0:St)(Q:VK)(H1:Hp):Prop:=∀D,H1 D=none→∃W:Nat→Nat→List V→Hp→Prop,(∃m,W 0 m [] (upd H1 D (.lst []))) ∧
 ∀i m ys H,W i m ys H→H D=some (.lst ys)∧ys.length<sizeLine∧((J.stop i H∧Q (.ref D) H)∨(J.go i H∧∀x H',J.yld i H x H'→g x σ0 H' fun σ2 H2=>tc σ2 H2 fun b H2'=>if b=true then te σ2 H2' fun v H3=>H3 D=some (.lst ys) ∧
  ∃m',m'<m∧W (i+1) m' (ys++[v]) (upd H3 D (.lst (ys++[v]))) else ∃m',m'<m∧W (i+1) m' ys H2'))
noncomputable def zhG (wi:TI)(g:TG)(tc:TT)(te:TE)(lv:Nat)(caps:List Nat):TE:=fun σ H Q=>wi σ H fun J H1=>za0 J g tc te (jJ lv caps σ) Q H1
theorem zj0 {elt iter c:Expr}{tg:Expr}{pos:Pos}{scope:Scope}{wi:TI}{g:TG}{tc:TT}{te:TE}{lv:Nat}{caps:List Nat}{N':List Str}{xe:Addr→Shared→Hp→List Addr→Value→Shared→Prop} (herr:∀(pins:List (Addr×Obj)) (σ:St) (H3:Hp) (s3:Shared) (C:Addr) (fp:List Addr) (Q:Value→Shared→Prop) (acc e:Value) (s':Shared),Inv X pins σ H3 s3→(∀b∈fp,jG X pins H3 b)→s3.heap.objs.size≤C→xe C s3 H3 fp e s' →
   notedBy (model X.prog X.w) X.A (compEnvC scope (JR scope X.env) C X.env) (fun e s'=>compPost (model X.prog X.w) X.A X.xe none Q acc C (.error e) s') e s')
  (hc:X.calm=true) (ok:zW X scope lv caps N') (hgk:J6 g lv caps) (hi:PI X tg iter wi)
  (hg:∀C s H fp,PG (X.comp scope C N' s H fp) tg g) (hct:∀C s H fp,PT ((X.comp scope C N' s H fp).wish (xe C s H fp)) c tc) (he:∀C s H fp,PE ((X.comp scope C N' s H fp).wish (xe C s H fp)) elt te) (hs:∀y,foldedSetIterable iter X.env y=pure y:=by intro _;rfl) :
  PE X (.ListComp elt [⟨tg,iter,[c],0⟩] scope pos) (zhG wi g tc te lv caps):=by
 intro pins s σ H Q I h
 rw[eval_ListComp]
 refine wpAny_comprehension_free (use:=none) rfl hs (J8 fun y hy hk=>I.ok.has y.1 (ok.free y hy hk)) ok.kind ok.loc (thn (hi pins s σ H _ I h) fun v s1 h1=>thn h1 fun itv s2 h2=>?_)
 obtain⟨it,fp,tn,J,H2,e,I2,T,st2,f2,hW⟩:=h2
 subst e
 have fpl:∀b∈fp,b<s2.heap.objs.size:=fun b hb=>by obtain⟨o,e,_⟩:=T.obj 0 _ st2 b hb;exact xp e
 refine wpAny_newObj_type ?_
 have I3:Inv X pins σ (upd H2 s2.heap.objs.size (.lst [])) {s2 with heap:=s2.heap.push {cls:=.type "list",data:=.seq ([]:List Value).toArray},toks:=s2.toks}:=I2.lnew (its:=[]) .nil (xV _)
 obtain⟨W,⟨m0,w0⟩,turn⟩:=hW s2.heap.objs.size I2.fresh
 refine wpAny_newFunctionEnv ok.cell (by intro y hy;simp at hy) (fun h₁ hns₁ hsb₁=>?_) ok.kind
 have hk3:∀b o,(s2.heap.push {cls:=.type "list",data:=.seq ([]:List Value).toArray}).get? b=some o→h₁.get? b=some o:=fun b o q =>
  (hsb₁.2 b (xz (xp q))).trans (xg _ q)
 have f3:∀b∈fp,jG X pins (upd H2 s2.heap.objs.size (.lst [])) b:=fun b hb=>by
  obtain⟨n,r⟩:=f2 b hb
  exact⟨by rw[zC (xz (fpl b hb))];exact n,r⟩
 have fpl3:∀b∈fp,b<(s2.heap.push {cls:=.type "list",data:=.seq ([]:List Value).toArray}).objs.size:=fun b hb=>by rw[yi];exact ym (fpl b hb)
 have I4:=Qc ok I3 f3 hns₁ hk3 fpl3 (s2.toks+0)
 have st4:tn 0 h₁:=T.keep _ _ _ st2 fun b hb o q=>hk3 b o (xg _ q)
 have loop:=zaZ (elt:=elt) (iter:=iter) (c:=c) (pos:=pos) (s4:={s2 with heap:=h₁,toks:=s2.toks+0}) hc T (xr _) I3 f3 (fun b hb=>xz (fpl3 b hb)) I4 st4 w0 turn hgk (hg _ _ _ _) (R:=compPost (model X.prog X.w) X.A X.xe none (EP X pins σ Q) (.ref s2.heap.objs.size) _) (fun H5 s6 I6 q=>by
  obtain⟨m,hn,_⟩:=I6.loc
  exact⟨m,hn,fun h' hs'=>⟨.ref s2.heap.objs.size,H5,zcr (xr _) I3 f3 I6 hs',rfl,q⟩⟩) (fun e s' z=>herr _ _ _ _ _ _ _ _ e s' I3 f3 (xr _) z) (hct _ _ _ _) (he _ _ _ _)
 exact codeAny_compStart_list loop (T.self _ 0 _ _ _ st4 loop)
theorem YX {elt iter c:Expr}{tg:Expr}{pos spos py:Pos}{i:Nat}{y:Str}{scope:Scope}{wi:TI}{g:TG}{tc:TT}{te:TE}{lv:Nat}{caps:List Nat}{N':List Str}{xe:Addr→Shared→Hp→List Addr→Value→Shared→Prop} (herr:∀(pins:List (Addr×Obj)) (σ:St) (H3:Hp) (s3:Shared) (C:Addr) (fp:List Addr) (Q:Value→Shared→Prop) (acc e:Value) (s':Shared),Inv X pins σ H3 s3→(∀b∈fp,jG X pins H3 b)→s3.heap.objs.size≤C→xe C s3 H3 fp e s' →
   notedBy (model X.prog X.w) X.A (compEnvC scope (JR scope X.env) C X.env) (fun e s'=>compPost (model X.prog X.w) X.A X.xe (some (assign (.Name y py) X.env)) Q acc C (.error e) s') e s')
  (hN:X.N.Nodup) (hi':X.N[i]? = some y) (hx:Loc X.env.scope y) (hc:X.calm=true) (ok:zW X scope lv caps N') (hgk:J6 g lv caps) (hi:PI X tg iter wi)
  (hg:∀C s H fp,PG (X.comp scope C N' s H fp) tg g) (hct:∀C s H fp,PT ((X.comp scope C N' s H fp).wish (xe C s H fp)) c tc) (he:∀C s H fp,PE ((X.comp scope C N' s H fp).wish (xe C s H fp)) elt te) (hs:∀y,foldedSetIterable iter X.env y=pure y:=by intro _;rfl)
  (hsw:swapsWith (.ListComp elt [⟨tg,iter,[c],0⟩] scope pos) (some (.Name y py)) spos.line X.env=pure true:=by rfl) (hf:X.fn y=true∨X.env.scope.names.lookup y=some .local:=by first|exact .inl rfl|exact .inr rfl|assumption) :
  PS X (.Assign [.Name y py] (.ListComp elt [⟨tg,iter,[c],0⟩] scope pos) spos) (zgx (zhG wi g tc te lv caps) (Qi i)):=by
 intro pins s σ H E I h
 rw[exec_Assign_Name_used _ _ _ _ hsw]
 refine wpAny_bind (wpAny_standAt (wpAny_bind ?_))
 show wpAny _ _ (do let _ ←comprehension (.ListComp elt [⟨tg,iter,[c],0⟩] scope pos) scope X.env _ (newList []) false (eval iter X.env) (some (assign (.Name y py) X.env))) _ _ s
 refine wpAny_bind (thn (wpAny_comprehension_free (use:=some (assign (.Name y py) X.env)) (Q:=fun _ s'=>SP X pins E .next s') rfl hs (J8 fun y hy hk=>I.ok.has y.1 (ok.free y hy hk)) ok.kind ok.loc (thn (hi pins s σ H _ I h) fun v s1 h1=>thn h1 fun itv s2 h2=>?_)) fun _ s' hq=>wpAny_pure (wpAny_pure hq))
 obtain⟨it,fp,tn,J,H2,e,I2,T,st2,f2,hW⟩:=h2
 subst e
 have fpl:∀b∈fp,b<s2.heap.objs.size:=fun b hb=>by obtain⟨o,e,_⟩:=T.obj 0 _ st2 b hb;exact xp e
 refine wpAny_newObj_type ?_
 have I3:Inv X pins σ (upd H2 s2.heap.objs.size (.lst [])) {s2 with heap:=s2.heap.push {cls:=.type "list",data:=.seq ([]:List Value).toArray},toks:=s2.toks}:=I2.lnew (its:=[]) .nil (xV _)
 obtain⟨W,⟨m0,w0⟩,turn⟩:=hW s2.heap.objs.size I2.fresh
 refine wpAny_newFunctionEnv ok.cell (by intro y hy;simp at hy) (fun h₁ hns₁ hsb₁=>?_) ok.kind
 have hk3:∀b o,(s2.heap.push {cls:=.type "list",data:=.seq ([]:List Value).toArray}).get? b=some o→h₁.get? b=some o:=fun b o q =>
  (hsb₁.2 b (xz (xp q))).trans (xg _ q)
 have f3:∀b∈fp,jG X pins (upd H2 s2.heap.objs.size (.lst [])) b:=fun b hb=>by
  obtain⟨n,r⟩:=f2 b hb
  exact⟨by rw[zC (xz (fpl b hb))];exact n,r⟩
 have fpl3:∀b∈fp,b<(s2.heap.push {cls:=.type "list",data:=.seq ([]:List Value).toArray}).objs.size:=fun b hb=>by rw[yi];exact ym (fpl b hb)
 have I4:=Qc ok I3 f3 hns₁ hk3 fpl3 (s2.toks+0)
 have st4:tn 0 h₁:=T.keep _ _ _ st2 fun b hb o q=>hk3 b o (xg _ q)
 have loop:=zaZ (Q:=fun v H'=>E.nx (σ.set i (some v)) H') (D:=s2.heap.objs.size) (elt:=elt) (iter:=iter) (c:=c) (pos:=pos) (s4:={s2 with heap:=h₁,toks:=s2.toks+0}) hc T (xr _) I3 f3 (fun b hb=>xz (fpl3 b hb)) I4 st4 w0 turn hgk (hg _ _ _ _) (R:=compPost (model X.prog X.w) X.A X.xe (some (assign (.Name y py) X.env)) (fun _ s'=>SP X pins E .next s') (.ref s2.heap.objs.size) _) (fun H5 s6 I6 q=>zdO (v:=.ref s2.heap.objs.size) (xr _) I3 f3 hN hi' hx hf I6 rfl q) (fun e s' z=>herr _ _ _ _ _ _ _ _ e s' I3 f3 (xr _) z) (hct _ _ _ _) (he _ _ _ _)
 exact codeAny_compStart_list loop (T.self _ 0 _ _ _ st4 loop)
end
section
variable {K:xb}{g:TG}{tc:TT}{te:TE}{σ0:St}{H1:Hp}{Q:VK}
theorem zaU {J:It}(n:Nat)(hl:n<sizeLine)(p:Nat→Bool)(f:Nat→V)(go:∀i H',i<n→zd H1 H'→J.go i H')(stop:∀H',zd H1 H'→J.stop n H')
  (step:∀i x H' H'' (Q':VK) (R:Hp→Prop),i<n→zd H1 H'→J.yld i H' x H''→(p i=true→∀H2,zd H' H2→Q' (f i) H2)→(p i=false→∀H2,zd H' H2→R H2)→g x σ0 H'' fun σ2 H2=>tc σ2 H2 fun b H3=>if b=true then te σ2 H3 Q' else R H3)
  (fin:∀D H',H1 D=none→zd H1 H'→H' D=some (.lst (((xH n).filter p).map f))→Q (.ref D) H'):za0 J g tc te σ0 Q H1:=by
 intro D hD
 refine⟨fun i m ys H'=>i≤n∧m=n - i∧ys=((xH i).filter p).map f∧zd H1 H'∧H' D=some (.lst ys),⟨_,xV _,rfl,rfl,zd.new hD,zc⟩,?_⟩
 rintro i m ys H' ⟨hi,rfl,rfl,S,e⟩
 refine⟨e,by have:=yC p (xH i);rw[xZ]at this;rw[xa];omega,?_⟩
 by_cases hlt:i<n
 ·refine .inr ⟨go i H' hlt S,fun x H'' hy=>?_⟩
  refine step i x H' H'' _ _ hlt S hy (fun px H2 S2=>⟨S2 _ _ e,n - (i+1),by omega,hlt,rfl,?_,(S.trans S2).upd hD,zc⟩) (fun px H2 S2=>⟨n - (i+1),by omega,hlt,rfl,?_,S.trans S2,S2 _ _ e⟩)
  ·rw[yQ,yW,xE,vh px];rfl
  ·rw[yQ,yW,vi (by rw[px];exact xB),wy,yA]
 ·have ei:i=n:=by omega
  subst ei
  exact .inl ⟨stop H' S,fin D H' hD S e⟩
theorem zbY {lo:Int}(n:Nat)(hl:n<sizeLine)(p:Int→Bool)(f:Int→V)
  (step:∀i:Nat,i<n→∀(H':Hp) (Q':VK) (R:Hp→Prop),zd H1 H'→(p (lo+i)=true→∀H2,zd H' H2→Q' (f (lo+i)) H2)→(p (lo+i)=false→∀H2,zd H' H2→R H2)→g (.int (lo+i)) σ0 H' fun σ2 H2=>tc σ2 H2 fun b H3=>if b=true then te σ2 H3 Q' else R H3)
  (fin:∀D H',H1 D=none→zd H1 H'→H' D=some (.lst (((xH n).filter fun i:Nat=>p (lo+i)).map fun i:Nat=>f (lo+i)))→Q (.ref D) H'):za0 (Itr lo n) g tc te σ0 Q H1 :=
 zaU n hl (fun i:Nat=>p (lo+i)) (fun i:Nat=>f (lo+i)) (fun i _ h _=>h) (fun _ _=>xr _)
  (fun i x H' H'' Q' R hi S hy a b=>by obtain⟨rfl,rfl⟩:=hy;exact step i hi _ Q' R S a b) fin
end
theorem SqL.any {K:xb}{H:Hp}{a:Addr}{xs:List V}(h:SqL [] H a xs):SqL K H a xs:=by
 rcases h with h|⟨o,its,n,e,_⟩
 ·exact .inl h
 ·cases e
theorem SqT.any {K:xb}{H:Hp}{a:Addr}{xs:List V}(h:SqT [] H a xs):SqT K H a xs:=by
 rcases h with h|⟨o,its,n,e,_⟩
 ·exact .inl h
 ·cases e
theorem Sq.any {K:xb}{H:Hp}{a:Addr}{xs:List V}(h:SqL [] H a xs∨SqT [] H a xs):SqL K H a xs∨SqT K H a xs:=h.elim (fun h=>.inl h.any) fun h=>.inr h.any
section
variable {X:Cx}
theorem qg:IxR X (zi0 []):=fun value slice pins s σ H x y v u Q I rx ry h=>by
 obtain⟨p,xs,i,w,e1,e2,hq,r,r'⟩:=h
 exact zeT value slice pins s σ H x y v u Q I rx ry ⟨p,xs,i,w,e1,e2,hq.any,r,r'⟩
theorem jI:IxR X (zjW []):=fun value slice pins s σ H x y v u Q I rx ry h=>by
 obtain⟨p,xs,i,w,e1,e2,hq,r,r'⟩:=h
 exact zma value slice pins s σ H x y v u Q I rx ry ⟨p,xs,i,w,e1,e2,hq.any,r,r'⟩
theorem Qp:SlR X (zdi []):=fun pins s σ H x v vl vu lo hi sl Q I rx hs pl pu h=>by
 obtain⟨a,xs,e,hq,r⟩:=h
 exact zeX pins s σ H x v vl vu lo hi sl Q I rx hs pl pu ⟨a,xs,e,hq.any,r⟩
theorem zbA:OpR X (binaryOp .Add) (zf7 []):=fun pins s σ H x y v u Q I rx ry h=>by
 obtain⟨a,b,xs,ys,e1,e2,h1,h2,n,z,r0,r⟩:=h
 exact zkD pins s σ H x y v u Q I rx ry ⟨a,b,xs,ys,e1,e2,h1.any,h2.any,n,z,r0,r⟩
theorem qo:OpR X (binaryOp .Add) (zc0 []):=fun pins s σ H x y v u Q I rx ry h=>by
 obtain⟨a,b,xs,ys,e1,e2,h1,h2,z,r⟩:=h
 exact zkP pins s σ H x y v u Q I rx ry ⟨a,b,xs,ys,e1,e2,h1.any,h2.any,z,r⟩
theorem zkj:OpR X (compareOp .In) (rIn [] false):=fun pins s σ H x y v u Q I rx ry h=>by
 obtain⟨p,xs,e,hq,f,fs,r⟩:=h
 exact zhU pins s σ H x y v u Q I rx ry ⟨p,xs,e,Sq.any hq,f,fs,r⟩
theorem zaw:OpR X (compareOp .NotIn) (rIn [] true):=fun pins s σ H x y v u Q I rx ry h=>by
 obtain⟨p,xs,e,hq,f,fs,r⟩:=h
 exact zdQ pins s σ H x y v u Q I rx ry ⟨p,xs,e,Sq.any hq,f,fs,r⟩
inductive zke (xs:List V)(H:Hp)(Q:VK):Prop
 |mk (p:Addr) (ys:List V) (e:xs=[.ref p]) (s:SqL [] H p ys∨SqT [] H p ys) (q:Q (.int ys.length) H):zke xs H Q
theorem zP:ja X (.builtin "len") zke:=fun pins s σ H xs us Q I r h=>by
 obtain⟨p,ys,e,hq,q⟩:=h
 exact Yu pins s σ H xs us Q I r ⟨p,ys,e,Sq.any hq,q⟩
noncomputable def XN:XK:=fun _ _ _=>False
theorem zw {P:Program}{w:World}:Zy (CX1 P w) X XN:=fun pins σ H s e s' I h=>by
 obtain⟨ea,Cc,d,H',rfl,os,bare,un,hok,_,hE⟩:=h
 exact hE.elim
end
end L2
namespace RF
open PySem L2
noncomputable def Zz (many:Nat)(ps:List Int):List Int:=((xH many).filter fun i:Nat=>!decide ((0:Int)+i∈ps)).map fun i:Nat=>(0:Int)+i
theorem zjl {many:Nat}{ps:List Int}{x:Int}(h:x∈Zz many ps):(0≤x∧x<many)∧x∉ps:=by
 unfold Zz at h
 obtain⟨i,hi,rfl⟩:=xI.mp h
 obtain⟨hr,hp⟩:=yv.mp hi
 have:=yu.mp hr
 refine⟨by omega,?_⟩
 intro z
 rw[decide_eq_true z]at hp
 exact xB hp
theorem YG (ns:List Int):(ns.map V.int).all qK=true:=by rw[uF];intro y hy;obtain⟨z,_,rfl⟩:=xI.mp hy;rfl
theorem YY (z:Int):∀ns:List Int,inV (.int z) (ns.map V.int)=decide (z∈ns)
 | []=>rfl
 |y::r=>by
  have ih:=YY z r
  unfold inV at ih ⊢
  rw[xW,u5,ih]
  show(eqV (.int y) (.int z)||_)=_
  by_cases h:y=z
  ·subst h;simp[eqV]
  ·have h':z≠y:=fun e=>h e.symm
   simp[eqV,h,h']
end RF
namespace L2
open PySem PySem.Spec PyProof.Rows
section
variable {X:Cx}{pins:List (Addr×Obj)}{σ:St}{H:Hp}{s:Shared}
theorem zgo {elt iter:Expr}{tg:Expr}{pos:Pos}{scope:Scope}{g:TG}{te:TE}{lv:Nat}{caps:List Nat}{N':List Str}{fp:List Addr}{it D C:Addr}{tn:Nat→Heap→Prop}{J:It}{H3:Hp}{s3 s4:Shared}{Q:VK}{W:Nat→Nat→List V→Hp→Prop}{m0:Nat}
  (hc:X.calm=true) (T:Qs X.prog X.w X.K tg J fp it tn) (hC:s3.heap.objs.size≤C) (I3:Inv X pins σ H3 s3) (f3:∀b∈fp,jG X pins H3 b) (hCf:∀b∈fp,b≠C) (I4:Inv (X.comp scope C N' s3 H3 fp) [] (jJ lv caps σ) H3 s4) (st4:tn 0 s4.heap) (w0:W 0 m0 [] H3)
  (turn:∀i m ys H,W i m ys H→H D=some (.lst ys)∧ys.length<sizeLine∧((J.stop i H∧Q (.ref D) H)∨(J.go i H∧∀x H',J.yld i H x H'→g x (jJ lv caps σ) H' fun σ2 H2=>te σ2 H2 fun v H3=>H3 D=some (.lst ys) ∧
   ∃m',m'<m∧W (i+1) m' (ys++[v]) (upd H3 D (.lst (ys++[v]))))))
  (hgk:J6 g lv caps) (hg:PG (X.comp scope C N' s3 H3 fp) tg g) {xe:Value→Shared→Prop} {R:Result→Shared→Prop}
  (hstop:∀H5 s6,Inv (X.comp scope C N' s3 H3 fp) [] (jJ lv caps σ) H5 s6→Q (.ref D) H5→R (.ok .next) s6)
  (herr:∀e s',xe e s'→notedBy (model X.prog X.w) X.A (compEnvC scope (JR scope X.env) C X.env) (fun e s'=>R (.error e) s') e s')
  (he:PE ((X.comp scope C N' s3 H3 fp).wish xe) elt te) :
  codeAny (model X.prog X.w) X.A (.compLoop (.ListComp elt [⟨tg,iter,[],0⟩] scope pos) 0 (.ref it) (.ref D) (compEnvC scope (JR scope X.env) C X.env)) R s4:=by
 have stat:∀{H':Hp},(∀b∈fp,H' b=none)→∀b∈fp,jG (X.comp scope C N' s3 H3 fp) [] H' b:=fun {H'} hn b hb =>
  ⟨hn b hb,hCf b hb,fun z=>I4.ok.exfs b hb z,.inl hb,fun y c e=>(I4.ok.exf b hb).2 y c e,fun p hp=>absurd (show p∈([]:List (Addr×Obj)) from hp) (by simp)⟩
 refine Z1 (fun n s'=>∃i ys H',Inv (X.comp scope C N' s3 H3 fp) [] (jJ lv caps σ) H' s'∧tn i s'.heap∧(∀b∈fp,H' b=none)∧W i n ys H') ?_ m0 ⟨0,[],_,I4,st4,fun b hb=>(f3 b hb).1,w0⟩
 rintro n s5 ⟨i,ys,H5,I5,st5,fr5,w5⟩
 obtain⟨hD,hlen,hcase⟩:=turn i n ys H5 w5
 rcases hcase with⟨stop,q⟩|⟨go,step⟩
 ·refine thn (T.done (X.comp scope C N' s3 H3 fp) rfl rfl rfl hc i [] s5 _ H5 _ I5 (stat fr5) st5 stop) fun r s6 hr=>?_
  obtain⟨hr,I6⟩:=hr
  subst hr
  exact hstop _ _ I6 q
 ·refine thn (T.item (X.comp scope C N' s3 H3 fp) rfl rfl rfl hc i [] s5 _ H5 _ I5 (stat fr5) st5 go) fun r s6 hr=>?_
  obtain⟨u,hr,h6⟩:=hr
  subst hr
  refine thn h6 fun _ s7 h7=>?_
  obtain⟨y,H7,I7,r7,y7,st7,fr7⟩:=h7
  have I7':=I7.pinned (stat fr7) (T.obj _ _ st7)
  refine wpAny_mono (hg _ s7 _ H7 y u _ I7' r7 (hgk σ y H7 _ (step y H7 y7))) (fun _ s8 h8=>?_) (fun _ _ z=>z.elim)
  obtain⟨σ8,H8,I8,q8,ks⟩:=h8
  refine wpAny_mono (he _ s8 σ8 H8 _ (I8.wish _) q8) (fun v s9 h9=>?_) (fun e s9 z=>herr e s9 z)
  obtain⟨z9,H9,I9,r9,hD9,m',hm',w9⟩:=h9
  have I9:=I9.unwish
  refine wpAny_mono (jT (X:=X.comp scope C N' s3 H3 fp) _ s9 σ8 H9 (.ref D) [z9] (.ref D) [v] (fun _ H'=>H'=upd H9 D (.lst (ys++[z9]))) I9 rfl (.cons r9 .nil) ⟨D,ys,z9,rfl,rfl,hD9,hlen,rfl⟩) (fun _ s10 h10=>?_) (fun _ _ z=>z.elim)
  obtain⟨_,H10,I10,_,rfl⟩:=h10
  refine⟨m',hm',i+1,ys++[z9],_,I10.unpinned.weak ?_ ?_,T.keep _ _ _ st7 fun b hb o e=>(I10.pin (b,o) (xu _ (xu _ (jA hb e)))).1,fun b hb=>?_,w9⟩
  ·rw[I10.len];exact I4.len
  ·exact ks
  ·obtain⟨o,e,d⟩:=T.obj _ _ st7 b hb
   exact(I10.pin (b,o) (xu _ (xu _ (jA hb e)))).2.1
theorem ze5 {elt iter:Expr}{tg:Expr}{pos spos py:Pos}{i:Nat}{y:Str}{scope:Scope}{wi:TI}{g:TG}{te:TE}{lv:Nat}{caps:List Nat}{N':List Str}{xe:Addr→Shared→Hp→List Addr→Value→Shared→Prop} (herr:∀(pins:List (Addr×Obj)) (σ:St) (H3:Hp) (s3:Shared) (C:Addr) (fp:List Addr) (Q:Value→Shared→Prop) (acc e:Value) (s':Shared),Inv X pins σ H3 s3→(∀b∈fp,jG X pins H3 b)→s3.heap.objs.size≤C→xe C s3 H3 fp e s' →
   notedBy (model X.prog X.w) X.A (compEnvC scope (JR scope X.env) C X.env) (fun e s'=>compPost (model X.prog X.w) X.A X.xe (some (assign (.Name y py) X.env)) Q acc C (.error e) s') e s')
  (hN:X.N.Nodup) (hi':X.N[i]? = some y) (hx:Loc X.env.scope y) (hc:X.calm=true) (ok:zW X scope lv caps N') (hgk:J6 g lv caps) (hi:PI X tg iter wi)
  (hg:∀C s H fp,PG (X.comp scope C N' s H fp) tg g) (he:∀C s H fp,PE ((X.comp scope C N' s H fp).wish (xe C s H fp)) elt te) (hs:∀y,foldedSetIterable iter X.env y=pure y:=by intro _;rfl)
  (hsw:swapsWith (.ListComp elt [⟨tg,iter,[],0⟩] scope pos) (some (.Name y py)) spos.line X.env=pure true:=by rfl) (hf:X.fn y=true∨X.env.scope.names.lookup y=some .local:=by first|exact .inl rfl|exact .inr rfl|assumption) :
  PS X (.Assign [.Name y py] (.ListComp elt [⟨tg,iter,[],0⟩] scope pos) spos) (zgx (zfS wi g te lv caps) (Qi i)):=by
 intro pins s σ H E I h
 rw[exec_Assign_Name_used _ _ _ _ hsw]
 refine wpAny_bind (wpAny_standAt (wpAny_bind ?_))
 show wpAny _ _ (do let _ ←comprehension (.ListComp elt [⟨tg,iter,[],0⟩] scope pos) scope X.env _ (newList []) false (eval iter X.env) (some (assign (.Name y py) X.env))) _ _ s
 refine wpAny_bind (thn (wpAny_comprehension_free (use:=some (assign (.Name y py) X.env)) (Q:=fun _ s'=>SP X pins E .next s') rfl hs (J8 fun y hy hk=>I.ok.has y.1 (ok.free y hy hk)) ok.kind ok.loc (thn (hi pins s σ H _ I h) fun v s1 h1=>thn h1 fun itv s2 h2=>?_)) fun _ s' hq=>wpAny_pure (wpAny_pure hq))
 obtain⟨it,fp,tn,J,H2,e,I2,T,st2,f2,hW⟩:=h2
 subst e
 have fpl:∀b∈fp,b<s2.heap.objs.size:=fun b hb=>by obtain⟨o,e,_⟩:=T.obj 0 _ st2 b hb;exact xp e
 refine wpAny_newObj_type ?_
 have I3:Inv X pins σ (upd H2 s2.heap.objs.size (.lst [])) {s2 with heap:=s2.heap.push {cls:=.type "list",data:=.seq ([]:List Value).toArray},toks:=s2.toks}:=I2.lnew (its:=[]) .nil (xV _)
 obtain⟨W,⟨m0,w0⟩,turn⟩:=hW s2.heap.objs.size I2.fresh
 refine wpAny_newFunctionEnv ok.cell (by intro y hy;simp at hy) (fun h₁ hns₁ hsb₁=>?_) ok.kind
 have hk3:∀b o,(s2.heap.push {cls:=.type "list",data:=.seq ([]:List Value).toArray}).get? b=some o→h₁.get? b=some o:=fun b o q =>
  (hsb₁.2 b (xz (xp q))).trans (xg _ q)
 have f3:∀b∈fp,jG X pins (upd H2 s2.heap.objs.size (.lst [])) b:=fun b hb=>by
  obtain⟨n,r⟩:=f2 b hb
  exact⟨by rw[zC (xz (fpl b hb))];exact n,r⟩
 have fpl3:∀b∈fp,b<(s2.heap.push {cls:=.type "list",data:=.seq ([]:List Value).toArray}).objs.size:=fun b hb=>by rw[yi];exact ym (fpl b hb)
 have I4:=Qc ok I3 f3 hns₁ hk3 fpl3 (s2.toks+0)
 have st4:tn 0 h₁:=T.keep _ _ _ st2 fun b hb o q=>hk3 b o (xg _ q)
 have loop:=zgo (Q:=fun v H'=>E.nx (σ.set i (some v)) H') (D:=s2.heap.objs.size) (elt:=elt) (iter:=iter) (pos:=pos) (s4:={s2 with heap:=h₁,toks:=s2.toks+0}) hc T (xr _) I3 f3 (fun b hb=>xz (fpl3 b hb)) I4 st4 w0 turn hgk (hg _ _ _ _) (R:=compPost (model X.prog X.w) X.A X.xe (some (assign (.Name y py) X.env)) (fun _ s'=>SP X pins E .next s') (.ref s2.heap.objs.size) _) (fun H5 s6 I6 q=>zdO (v:=.ref s2.heap.objs.size) (xr _) I3 f3 hN hi' hx hf I6 rfl q) (fun e s' z=>herr _ _ _ _ _ _ _ _ e s' I3 f3 (xr _) z) (he _ _ _ _)
 exact codeAny_compStart_list loop (T.self _ 0 _ _ _ st4 loop)
theorem zg8 (hc:X.calm=true):ja X (.builtin "sum") (fun xs H Q=>∃p,∃ns:List Int,xs=[.ref p]∧SqL X.K H p (ns.map V.int)∧Q (.int ns.sum) H):=by
 intro pins s σ H xs us Q I r h
 obtain⟨p,ns,rfl,hq,q⟩:=h
 obtain⟨u,rfl,rx⟩:=qm r
 cases rx
 obtain⟨its,rv,pl,hz⟩:=I.list hq
 have hI:=JB rv
 obtain⟨xs,e⟩:=hI.allInts.items
 have hns:ns=xs.toList.map (·.1):=by rw[←hI.numsOf,←nums_intItems,←e]
 have hl:=pl.isList
 rw[e]at hl
 refine sum_intListG (I.ok.hd hc) hl fun h' tk t' hk=>?_
 have e2:preSum (numAt xs) xs.size=ns.sum:=by
  rw[preSum_eq,yK (by simp),hns]
 exact⟨.int _,H,I.kept hk,⟨t',rfl⟩,by rw[e2];exact q⟩
inductive ziF (xs:List V)(H:Hp)(Q:VK):Prop
 |mk (p:Addr) (ys:List V) (e:xs=[.ref p]) (s:SqL [] H p ys∨SqT [] H p ys) (q:∀l,H l=none→Q (.ref l) (upd H l (.lst ys))):ziF xs H Q
theorem JX:ja X (.type "list") ziF:=fun pins s σ H xs us Q I r h=>by
 obtain⟨p,ys,e,hq,q⟩:=h
 exact zdd pins s σ H xs us Q I r ⟨p,ys,e,Sq.any hq,q⟩
end
section
variable {prog:Program}{w:World}{A:Around}{E:Value→Shared→Prop}{s:Shared}
open AutoSeq1 (wpAny_loadPart') in
end
section
variable {prog:Program}{w:World}{A:Around}{E:Value→Shared→Prop}{s:Shared}{l:Addr}{xs:Array (Int×Tok)}
theorem zeJ {Q:Value→Shared→Prop}(hl:IsTup s.heap l (intItems xs))
  (h:∀s₂:Shared,s₂={s with heap:=s.heap.push {cls:=.type "tuple_iterator",data:=.fields #[.ref l,.int 0 0]}} →
   (IsTupIter s₂.heap s.heap.objs.size l 0∧IsTup s₂.heap l (intItems xs))→(∀b∈[s.heap.objs.size,l],b<s₂.heap.objs.size)→l≠s.heap.objs.size→Q (.ref s.heap.objs.size) s₂) :
  wpAny (model prog w) A (pyIter (.ref l)) Q E s:=by
 have hlt:l<s.heap.objs.size:=by obtain⟨_,e,_⟩:=hl;exact xp e
 refine iter_tuple hl (h _ rfl ⟨⟨_,xF _ rfl,rfl,rfl⟩,hl.push _⟩ (fun b hb=>?_) (xz hlt))
 show b<(s.heap.push _).objs.size
 rw[yi]
 rcases xt.mp hb with rfl|hb
 ·exact Nat.lt_succ_self _
 ·rcases xt.mp hb with rfl|hb
  ·exact ym hlt
  ·cases hb
theorem zhE {o':Obj}{h':Heap}(hk:∀b o,b∉[s.heap.objs.size]→(s.heap.push o').get? b=some o→h'.get? b=some o) :
  ∀b o,s.heap.get? b=some o→h'.get? b=some o:=fun b o e=>by
 refine hk b o (fun hm=>?_) (xg _ e)
 rcases xt.mp hm with e1|hm
 ·exact absurd (e1▸xp e) (yd _)
 ·cases hm
theorem zf5 {Q:Value→Shared→Prop}(hh:A.handled=none)(hl:IsTup s.heap l (intItems xs))(hne:0<xs.size)
  (h:∀v h' tk,(intItems xs)[argBest (fun i j=>decide (numAt xs i > numAt xs j)) (xs.size - 1)]? = some v→(∀b o,s.heap.get? b=some o→h'.get? b=some o)→Q v {s with heap:=h',toks:=tk}) :
  wpAny (model prog w) A (call (.builtin "max") [.ref l]) Q E s:=by
 refine call_max_walk (zeJ hl fun s₂ e st hfp hlI=>?_)
 subst e
 refine⟨_,_,_,_,_,_,_,rfl,Walks.tuple (A:=A.in1) hh _ l hlI (intItems xs),st,hfp,by simpa [intItems] using hne,CmpOf.ints_gt (numAt xs) (fun _ _=>intItems_at),fun v h' tk hP hk=>?_⟩
 exact h v h' tk (by simpa [intItems] using hP) (zhE hk)
end
section
variable {X:Cx}
inductive zhA (le:Int→Int→Prop)(xs:List V)(H:Hp)(Q:VK):Prop
 |mk (p:Addr) (ns:List Int) (e:xs=[.ref p]) (s:SqT [] H p (ns.map V.int)) (n:ns≠[]) (q:∀m,m∈ns→(∀a∈ns,le m a)→Q (.int m) H):zhA le xs H Q
theorem zhF (hc:X.calm=true):ja X (.builtin "max") (zhA fun m a=>a≤m):=by
 intro pins s σ H xs us Q I r h
 obtain⟨p,ns,rfl,hq,hne,q⟩:=h
 obtain⟨u,rfl,rx⟩:=qm r
 cases rx
 obtain⟨its,rv,pl,hz⟩:=I.tuple hq.any
 have hI:=JB rv
 obtain⟨xs,e⟩:=hI.allInts.items
 have hns:ns=xs.toList.map (·.1):=by rw[←hI.numsOf,←nums_intItems,←e]
 have hsz:0<xs.size:=by
  have h3:0<ns.length:=uR.mpr hne
  rw[hns,xa,xP]at h3;exact h3
 rw[e]at pl
 refine zf5 (I.ok.hd hc) pl hsz fun v h' tk hv hk=>?_
 obtain⟨t,rfl⟩:=intItems_at hv
 obtain⟨h1,h2⟩:=argBest_gt (numAt xs) (xs.size - 1)
 refine⟨.int _,H,I.kept hk,⟨t,rfl⟩,q _ ?_ fun a ha=>?_⟩
 ·rw[hns,numAt_eq];exact PySem.getD_mem (by rw[xa,xP];omega)
 ·rw[hns]at ha
  obtain⟨j,hj,rfl⟩:=mem_getD ha
  rw[xa,xP]at hj
  rw[←numAt_eq];exact h2 j (by omega)
end
end L2
namespace RF
open PySem L2
inductive zaM (a b:V)(H:Hp)(Q:VK)(E:XK):Prop
 |mk (x y:Int) (h0:a=.int x) (h1:b=.int y) (h2:0≤x) (h3:0≤y) (q:Q (.int (Int.gcd x y)) H):zaM a b H Q E
noncomputable def zch:Sp:=Sp2 zaM
inductive zfB (a:V)(H:Hp)(Q:VK)(E:XK):Prop
 |mk (l:Addr) (ds:List Int) (h0:a=.ref l) (h1:H l=some (.lst (ds.map V.int))) (h2:∀d∈ds,2≤d∧d≤1000000) (q:Q (.bl (jE 1 ds)) H):zfB a H Q E
noncomputable def zhR (_:xb):Sp:=Sp1 zfB
theorem zbM {p:Int}{ds:List Int}{i:Nat}{d:Int}(h:ds[i]? = some d):jE p (ds.drop i)=if Int.gcd p d=1 then jE (p*d) (ds.drop (i+1)) else true:=by
 obtain⟨hi,e⟩:=xv.mp h
 rw[u7 hi,e]
 rfl
inductive Y3 (cA:Addr)(a b:V)(H:Hp)(Q:VK)(E:XK):Prop
 |mk (lk ls:Addr) (kept spare:List Int) (h0:a=.ref lk) (h1:b=.ref ls) (h2:H lk=some (.lst (kept.map V.int))) (h3:H ls=some (.lst (spare.map V.int))) (h4:kept.length≤100) (h5:spare.length≤100)
   (q:zv kept spare→∀t H',zd H H'→H t=none→ZC H' t kept spare→Q (.ref t) H') (e:¬zv kept spare→∀H',zd H H'→E (.ref cA) none H'):Y3 cA a b H Q E
noncomputable def Q3 (cA:Addr):Sp:=Sp2 (Y3 cA)
noncomputable def JK (all:List Int)(lo:Int)(n:Nat)(ps:List Int):List Int:=((xH n).filter fun i:Nat=>!decide ((lo+i:Int)∈ps)).map fun i:Nat=>all.getD (lo+i).toNat 0
theorem zM.wide {kept kk:List Int}{n:Int}(h:zM kept n)(hp:0<zy kept)(hk:∀d∈kk,2≤d):zM (kept++kk) n:=by
 have h1:1≤zy kk:=qw hk
 have h2:zy kept≤zy (kept++kk):=by
  rw[JG]
  have:=xG h1 (v0 hp)
  omega
 obtain⟨a,b⟩:=h
 unfold zM
 unfold RF.jD RF.jm at *
 omega
end RF
namespace L2
open PySem PySem.Spec PyProof.Rows
end L2
namespace RF
open PySem L2
inductive Mov (k s:List Int)(n:Int)(word fault:Str):Str→Prop
 |word (h:word≠""):Mov k s n word fault word
 |fault (h:word="") (h1:fault≠""):Mov k s n word fault fault
 |base (h:word="") (h1:fault="") (h2:¬zv k s):Mov k s n word fault "base"
 |great (h:word="") (h1:fault="") (h2:zv k s) (h3:¬zM k n):Mov k s n word fault "great"
 |ok (h:word="") (h1:fault="") (h2:zv k s) (h3:zM k n):Mov k s n word fault ""
inductive MV (G H:Hp)(k s:List Int)(n:Int):Str→V→Prop
 |no {w:Str} (h:w≠""):MV G H k s n w .non
 |yes (u tw lf:Addr) (g:zv k s) (eu:H u=some (.tup [.ref tw,.ref lf])) (hb:ZC H tw k s) (el:H lf=some (.lst ((zF (k++s) n).map V.int))) (fr:G lf=none):MV G H k s n "" (.ref u)
theorem QV {cB cW:Addr}{H:Hp}{a:V}{l1:Addr}{kept spare ns1:List Int}{n1:Int}{w1:Str}{Q:VK}{E:XK}(B:Bas H a kept spare)(e1:H l1=some (.lst (ns1.map V.int)))(f1:zM kept n1)(F1:Jp kept spare n1 ns1 w1)
  (right:w1=""→∀H',zd H H'→Q (.int n1) H') (bad:w1="figure"→∀H',zd H H'→E (.ref cB) none H') (wr:w1="wrong"→∀H',zd H H'→E (.ref cW) none H'):zR cB cW [a,.ref l1] H Q E:=by
 refine YW B e1 f1 F1 (fun hf hw H1 S1=>right ?_ H1 S1) (fun hb H1 S1=>bad (xo.mp hb).symm H1 S1) (fun _ hw H1 S1=>wr (xo.mp hw).symm H1 S1)
 rcases zcU F1 with h|h|h
 ·exact h
 ·exact absurd (by rw[h];simp) hf
 ·exact absurd (by rw[h];simp) hw
theorem zdj {all ps:List Int}{lo:Int}{n:Nat}:(JK all lo n ps).length≤n:=by
 unfold JK
 rw[xa]
 exact x6 (yC _ _) (by rw[xZ];exact xr _)
inductive zei (wc:Str→Addr→Prop)(a b c d:V)(H:Hp)(Q:VK)(E:XK):Prop
 |mk (kept spare kk ss:List Int) (n:Int) (w:Str) (lk ls:Addr) (h0:Bas H a kept spare) (h1:ji H b kept spare n w) (h4:c=.ref lk) (h5:H lk=some (.lst (kk.map V.int))) (h6:d=.ref ls) (h7:H ls=some (.lst (ss.map V.int))) (h8:kk.length≤20) (h9:ss.length≤20)
   (q:∀v H',zd H H'→Mov (kept++kk) (spare++ss) n w "" ""→MV H H' (kept++kk) (spare++ss) n "" v→Q v H')
   (e:∀x c,Mov (kept++kk) (spare++ss) n w "" x→x≠""→wc x c→∀H',zd H H'→E (.ref c) none H'):zei wc a b c d H Q E
noncomputable def zfH (wc:Str→Addr→Prop):Sp:=Sp4 (zei wc)
inductive zaH (wc:Str→Addr→Prop)(a b c:V)(H:Hp)(Q:VK)(E:XK):Prop
 |mk (kept spare k' s':List Int) (n:Int) (w fa:Str) (lp:Addr) (ps:List Int) (h0:Bas H a kept spare) (h1:ji H b kept spare n w) (h4:c=.ref lp) (h5:H lp=some (.lst (ps.map V.int))) (h7:ps.length<64) (h8:JK (kept++spare) 0 kept.length ps=k') (h9:JK (kept++spare) kept.length spare.length ps=s')
   (hfa:(fa=""∧Ja ps ((kept++spare).length:Nat))∨(fa="place"∧¬Ja ps ((kept++spare).length:Nat)))
   (q:∀v H',zd H H'→Mov k' s' n w fa ""→MV H H' k' s' n "" v→Q v H')
   (e:∀x c,Mov k' s' n w fa x→x≠""→wc x c→∀H',zd H H'→E (.ref c) none H'):zaH wc a b c H Q E
noncomputable def zb2 (wc:Str→Addr→Prop):Sp:=Sp3 (zaH wc)
end RF
namespace L2
open PySem
section
variable {K:xb}{g:TG}{te:TE}{σ0:St}{H1:Hp}{Q:VK}
theorem YV {a:Addr}{xs:List V}(hq:SqL K H1 a xs)(hl:xs.length<sizeLine)(J:Addr→Nat→List V→Hp→Prop)(j0:∀D,H1 D=none→J D 0 [] (upd H1 D (.lst [])))
  (step:∀D i x ys H',xs[i]? = some x→H1 D=none→zd H1 H'→H' D=some (.lst ys)→J D i ys H'→∀Q':VK,(∀v H3,zd H' H3→J D (i+1) (ys++[v]) (upd H3 D (.lst (ys++[v])))→Q' v H3)→g x σ0 H' fun σ2 H2=>te σ2 H2 Q')
  (fin:∀D ys H',H1 D=none→zd H1 H'→H' D=some (.lst ys)→J D xs.length ys H'→Q (.ref D) H'):ZL (Itl K a) g te σ0 Q H1:=by
 intro D hD
 refine⟨fun i m ys H'=>i≤xs.length∧m=xs.length - i∧ys.length=i∧zd H1 H'∧H' D=some (.lst ys)∧J D i ys H',⟨_,xV _,rfl,rfl,zd.new hD,zc,j0 D hD⟩,?_⟩
 rintro i m ys H' ⟨hi,rfl,hy,S,e,hj⟩
 refine⟨e,by omega,?_⟩
 by_cases hlt:i<xs.length
 ·have hx:=xm hlt
  refine .inr ⟨⟨xs,_,S.knd (k:=.L) hq,hx⟩,fun x H'' hy'=>?_⟩
  obtain⟨rfl,hy'⟩:=hy'
  have hx:=hy' xs (S.knd (k:=.L) hq)
  exact step D i x ys _ hx hD S e hj _ fun v H3 S3 hj'=>⟨S3 _ _ e,xs.length - (i+1),by omega,hlt,rfl,by rw[xw,hy];rfl,(S.trans S3).upd hD,zc,hj'⟩
 ·have ei:i=xs.length:=by omega
  subst ei
  exact .inl ⟨⟨xs,S.knd (k:=.L) hq,xr _⟩,fin D ys H' hD S e hj⟩
end
end L2
namespace L2
end L2
namespace RF
open PySem L2
inductive zT (H:Hp):List Addr→List (List Int)→Prop where
 |nil:zT H [] []
 |cons {a:Addr} {f:List Int} {as:List Addr} {fs:List (List Int)}:H a=some (.lst (f.map V.int))→zT H as fs→zT H (a::as) (f::fs)
theorem zT.up {H H':Hp}(S:zd H H'):∀{as fs},zT H as fs→zT H' as fs
 |_,_,.nil=>.nil
 |_,_,.cons h r=>.cons (S _ _ h) (r.up S)
theorem zT.but {H H':Hp}{D:Addr}(S:∀b o,b≠D→H b=some o→H' b=some o):∀{as fs},zT H as fs→D∉as→zT H' as fs
 |_,_,.nil,_=>.nil
 |_,_,.cons h r,n=>.cons (S _ _ (fun e=>n (by rw[e];exact xD)) h) (r.but S fun m=>n (xx _ m))
theorem zT.append {H:Hp}:∀{as fs bs gs},zT H as fs→zT H bs gs→zT H (as++bs) (fs++gs)
 |_,_,_,_,.nil,h=>h
 |_,_,_,_,.cons h r,h'=>.cons h (r.append h')
theorem zT.len {H:Hp}:∀{as fs},zT H as fs→as.length=fs.length
 |_,_,.nil=>rfl
 |_,_,.cons _ r=>congrArg (·+1) r.len
theorem zT.get {H:Hp}:∀{as fs} {i:Nat} {a:Addr},zT H as fs→as[i]? = some a→∃f,fs[i]? = some f∧H a=some (.lst (f.map V.int))
 |_,_,0,_,.cons h _,e=>by cases e;exact⟨_,rfl,h⟩
 |_,_,_+1,_,.cons _ r,e=>r.get (by simpa using e)
 |_,_,_,_,.nil,e=>by simp at e
theorem Jh {as:List Addr}{i:Nat}{x:V}(h:(as.map V.ref)[i]? = some x):∃a,as[i]? = some a∧x=.ref a:=by
 rw[xK]at h
 cases hi:as[i]? with
 |none=>rw[hi]at h;cases h
 |some d=>rw[hi]at h;cases h;exact⟨d,rfl,rfl⟩
noncomputable def JV (f:List Int):PyData:=.list (f.map .int)
theorem zT.rds {K:xb}{H:Hp}:∀{as fs},zT H as fs→Qv K H (as.map V.ref) (fs.map JV)
 |_,_,.nil=>.nil
 |_,_,.cons h r=>.cons (rdL h) r.rds
theorem zkg {K:xb}{H:Hp}{l:Addr}{as fs}(h:H l=some (.lst (as.map V.ref)))(F:zT H as fs):RdD K H (.ref l) (.list (fs.map JV)):=.lst (SqL.of h) F.rds
theorem zdn:∀fs:List (List Int),PyData.canLayAll0 (fs.map JV)=true
 | []=>rfl
 |f::r=>by simp[PyData.canLayAll0,PyData.canLay0,JV,vC,zdn r]
theorem zaW:∀fs:List (List Int),PyData.depthAll (fs.map JV)≤1
 | []=>by simp[PyData.depthAll]
 |f::r=>by
  have:=zaW r
  simp only[xW,PyData.depthAll,JV,PyData.depth,vN]at this ⊢
  omega
theorem zd9:∀fs:List (List Int),PyData.eqvAll (fs.map JV) (fs.map JV)=true
 | []=>rfl
 |f::r=>by
  have h:PyData.eqv (JV f) (JV f)=true:=by rw[JV,Q4,decide_eq_true rfl]
  simp[PyData.eqvAll,h,zd9 r]
theorem zbv (fs:List (List Int)):SeqAt.shaped (.list (fs.map JV))=true:=by
 have:=zaW fs
 have:PyData.depth (.list (fs.map JV))≤64:=by simp only[PyData.depth];omega
 unfold SeqAt.shaped
 rw[decide_eq_true this,PyData.canLay0,zdn];rfl
theorem zkR (fs:List (List Int)):PyData.eqv (.list (fs.map JV)) (.list (fs.map JV))=true:=by simp[PyData.eqv,zd9]
noncomputable def za3 (xs:List V):List Int:=xs.filterMap fun x=>match x with | .int n=>some n|_=>none
theorem zgJ (ns:List Int):za3 (ns.map V.int)=ns:=by
 induction ns with
 |nil=>rfl
 |cons n r ih =>
  show n::za3 (r.map V.int)=n::r
  rw[ih]
noncomputable def zgH (H:Hp):V→List Int
 | .ref a=>match H a with|some (.lst xs)=>za3 xs|_=>[]
 |_=>[]
theorem zbT {H:Hp}{a:Addr}{f:List Int}(h:H a=some (.lst (f.map V.int))):zgH H (.ref a)=f:=by
 show(match H a with|some (.lst xs)=>za3 xs|_=>[])=f
 rw[h];exact zgJ f
theorem zT.nums {H:Hp}{kept spare:List Int}(g:zv kept spare):∀{as fs} {ns:List Int},zT H as fs→fs=ns.map (zF (kept++spare))→(∀n∈ns,zM kept n)→(as.map V.ref).map (fun x=>zgP kept spare (zgH H x))=ns.map V.int
 |_,_,[],.nil,_,_=>rfl
 |_,_,n::r,.cons h t,e,hf=>by
  rw[xW]at e
  injection e with e1 e2
  rw[xW,xW,xW,t.nums g e2 fun m hm=>hf m (xx _ hm),zbT h,zbr g ⟨e1,hf n xD⟩]
 |_,_,[],.cons _ _,e,_=>by cases e
 |_,_,_::_,.nil,e,_=>by cases e
noncomputable def dot (xs ys:List Int):Int:=(wN (·*·) xs ys).sum
noncomputable def zdr (kept spare ns:List Int)(fs:List (List Int))(w:Str):Prop:=fs.length=ns.length∧(∀n∈ns,zM kept n) ∧
 ((w=""∧fs=ns.map (zF (kept++spare)))∨(w="figure"∧∃f∈fs,¬zK (kept++spare) f)∨(w="wrong"∧(∀f∈fs,zK (kept++spare) f)∧∃f∈fs,qc kept spare f))
noncomputable def zcX (H:Hp)(b:V)(as:List Addr)(fs:List (List Int)):Prop:=∃l,b=.ref l∧H l=some (.lst (as.map V.ref))∧zT H as fs
noncomputable def zmQ (kept spare:List Int)(fs gs:List (List Int))(due:Str×List Int):Prop :=
 (fs.length≠gs.length∧due=(("unlike":Str),[]))∨(fs.length=gs.length∧∃ns ms w1 w2,zdr kept spare ns fs w1∧zdr kept spare ms gs w2∧due=jj kept spare (dot ns ms) [w1,w2])
inductive zcu (cB:Addr)(a b:V)(H:Hp)(Q:VK)(E:XK):Prop
 |mk (kept spare:List Int) (as:List Addr) (fs:List (List Int)) (h0:Bas H a kept spare) (h1:zcX H b as fs) (q:((∀f∈fs,zK (kept++spare) f)→∀H',zd H H'→Q .non H')∧((∃f∈fs,¬zK (kept++spare) f)→∀H',zd H H'→E (.ref cB) none H')):zcu cB a b H Q E
noncomputable def zag (cB:Addr):Sp:=Sp2 (zcu cB)
inductive zcB (cB cW:Addr)(a b:V)(H:Hp)(Q:VK)(E:XK):Prop
 |mk (kept spare:List Int) (as:List Addr) (fs:List (List Int)) (h0:Bas H a kept spare) (h1:zcX H b as fs) (h2:as.length<sizeLine) (q:((∃ns:List Int,fs=ns.map (zF (kept++spare))∧(∀n∈ns,zM kept n)∧∀p H',zd H H'→H p=none→H' p=some (.lst (ns.map V.int))→Q (.ref p) H')∨((∃f∈fs,¬zK (kept++spare) f)∧∀H',zd H H'→E (.ref cB) none H')∨((∀f∈fs,zK (kept++spare) f)∧(∃f∈fs,qc kept spare f)∧∀H',zd H H'→E (.ref cW) none H'))):zcB cB cW a b H Q E
noncomputable def QI (cB cW:Addr):Sp:=Sp2 (zcB cB cW)
theorem zT.back {H:Hp}:∀{as fs} {f:List Int},zT H as fs→f∈fs→∃a∈as,H a=some (.lst (f.map V.int))
 |_,_,_,.nil,h=>nomatch h
 |_,_,_,.cons h r,hf=>by
  rcases xt.mp hf with rfl|z
  ·exact⟨_,xD,h⟩
  ·obtain⟨a,ha,e⟩:=r.back z
   exact⟨a,xx _ ha,e⟩
theorem zhJ {H' H3:Hp}{D c:Addr}{as:List Addr}{fs:List (List Int)}{f:List Int}{xs:List V}(F:zT H' as fs)(nD:D∉as)(S3:zd H' H3)(hc:H3 c=some (.lst (f.map V.int)))(cD:c≠D):zT (upd H3 D (.lst xs)) (as++[c]) (fs++[f])∧D∉as++[c]:=by
 refine⟨((F.up S3).but (fun b o hb h=>by rw[zC hb];exact h) nD).append (.cons (by rw[zC cD];exact hc) .nil),fun h=>?_⟩
 rcases xM.mp h with z|z
 ·exact nD z
 ·exact cD (xo.mp z).symm
theorem zi7 {kept spare ns ms:List Int}{fs gs:List (List Int)}{w1 w2:Str}(g:zv kept spare)(R1:zdr kept spare ns fs w1)(R2:zdr kept spare ms gs w2) :
  (("figure":Str)∈[w1,w2]∧∃f∈fs++gs,¬zK (kept++spare) f)∨(("figure":Str)∉[w1,w2]∧("wrong":Str)∈[w1,w2]∧(∀f∈fs++gs,zK (kept++spare) f)∧∃f∈fs++gs,qc kept spare f) ∨
  (("figure":Str)∉[w1,w2]∧("wrong":Str)∉[w1,w2]∧fs=ns.map (zF (kept++spare))∧gs=ms.map (zF (kept++spare))):=by
 have d1:("figure":Str)≠"":=by decide
 have d2:("wrong":Str)≠"":=by decide
 have d3:("figure":Str)≠"wrong":=by decide
 have vr:∀{ns:List Int} {fs:List (List Int)},fs=ns.map (zF (kept++spare))→∀f∈fs,zK (kept++spare) f:=fun {ns fs} e f hf=>by
  rw[e]at hf
  obtain⟨n,_,rfl⟩:=xI.mp hf
  exact JH (fun d hd=>(g.rng d hd).1) n
 have both:∀{A B:List (List Int)},(∀f∈A,zK (kept++spare) f)→(∀f∈B,zK (kept++spare) f)→∀f∈A++B,zK (kept++spare) f:=fun a b f hf=>(xM.mp hf).elim (a f) (b f)
 have inl:∀{P:List Int→Prop},(∃f∈fs,P f)→∃f∈fs++gs,P f:=fun⟨f,h,p⟩=>⟨f,xJ _ h,p⟩
 have inr:∀{P:List Int→Prop},(∃f∈gs,P f)→∃f∈fs++gs,P f:=fun⟨f,h,p⟩=>⟨f,xu _ h,p⟩
 rcases R1.2.2 with⟨h1,g1⟩|⟨h1,g1⟩|⟨h1,v1,g1⟩<;>rcases R2.2.2 with⟨h2,g2⟩|⟨h2,g2⟩|⟨h2,v2,g2⟩<;>subst h1 h2
 ·exact .inr (.inr ⟨by simp[d1],by simp[d2],g1,g2⟩)
 ·exact .inl ⟨by simp,inr g2⟩
 ·exact .inr (.inl ⟨by simp[d1,d3],by simp,both (vr g1) v2,inr g2⟩)
 ·exact .inl ⟨by simp,inl g1⟩
 ·exact .inl ⟨by simp,inl g1⟩
 ·exact .inl ⟨by simp,inl g1⟩
 ·exact .inr (.inl ⟨by simp[d1,d3],by simp,both v1 (vr g2),inl g1⟩)
 ·exact .inl ⟨by simp,inr g2⟩
 ·exact .inr (.inl ⟨by simp[d3],by simp,both v1 v2,inl g1⟩)
inductive ze1 (a b:V)(H:Hp)(Q:VK)(E:XK):Prop
 |mk (p q:Addr) (xs ys:List Int) (h0:a=.ref p) (h1:b=.ref q) (h2:H p=some (.lst (xs.map V.int))) (h3:H q=some (.lst (ys.map V.int))) (h4:xs.length=ys.length) (h5:xs.length≤200) (h6:(∀x∈xs,-(2^250)<x∧x<2^250)) (h7:(∀x∈ys,-(2^250)<x∧x<2^250)) (q:∀H',zd H H'→Q (.int (dot xs ys)) H'):ze1 a b H Q E
noncomputable def zc3:Sp:=Sp2 (ze1)
theorem zg0 {xs ys:List Int}(h:xs.length=ys.length):(xH xs.length).map (fun i=>V.int (xs.getD i 0*ys.getD i 0))=(wN (·*·) xs ys).map V.int:=by
 apply wq
 ·simp[h]
 ·intro i h1 h2
  have hx:i<xs.length:=by simpa using h1
  have hy:i<ys.length:=by omega
  simp[xA,xm hx,xm hy]
inductive Y4 (wc:Str→Addr→Prop)(a b c:V)(H:Hp)(Q:VK)(E:XK):Prop
 |mk (kept spare:List Int) (as bs:List Addr) (fs gs:List (List Int)) (due:Str×List Int) (h0:Bas H a kept spare) (h1:zcX H b as fs) (h2:zcX H c bs gs) (h3:as.length≤61) (h4:bs.length≤61) (h5:zmQ kept spare fs gs due) (q:(due.1=""→∀l H',zd H H'→H l=none→H' l=some (.lst (due.2.map V.int))→Q (.ref l) H')∧(∀w c,due=(w,[])→wc w c→∀H',zd H H'→E (.ref c) none H')):Y4 wc a b c H Q E
noncomputable def zaT (wc:Str→Addr→Prop):Sp:=Sp3 (Y4 wc)
end RF
namespace RF
theorem zak:∀{kept L1:List Int},L1.Sublist kept→∀{L2:List Int},(∀d∈kept,2≤d)→(∀s∈L2,2≤s)→(∀k∈kept,∀s∈L2,k<s)→kept.length≤L1.length+L2.length→zy kept≤zy L1*zy L2
 |_,_,.slnil,L2,_,h2,_,_=>by
  have:=qw h2
  show 1≤1*zy L2
  omega
 |_,_,.cons (l₁:=L1) (l₂:=r) x h,L2,hk,h2,hlt,hl=>by
  have h3:=h.length_le
  rw[yr]at hl
  obtain⟨s,t,rfl⟩:=List.exists_cons_of_length_pos (show 0<L2.length by omega)
  have ih:=zak h (L2:=t) (fun d hd=>hk d (xx _ hd)) (fun d hd=>h2 d (xx _ hd)) (fun k hk' d hd=>hlt k (xx _ hk') d (xx _ hd)) (by rw[yr]at hl;omega)
  have hx:=hlt x xD s xD
  have hx2:=hk x xD
  have hp:0<zy r:=qw fun d hd=>hk d (xx _ hd)
  have a:x*zy r≤s*zy r:=yD (by omega) (by omega)
  have b:s*zy r≤s*(zy L1*zy t):=xG ih (by omega)
  show x*zy r≤zy L1*(s*zy t)
  rw[uw]
  omega
 |_,_,.cons_cons (l₁:=L1) (l₂:=r) x h,L2,hk,h2,hlt,hl=>by
  have ih:=zak h (L2:=L2) (fun d hd=>hk d (xx _ hd)) h2 (fun k hk' d hd=>hlt k (xx _ hk') d hd) (by rw[yr,yr]at hl;omega)
  have hx2:=hk x xD
  show x*zy r≤x*zy L1*zy L2
  rw[vL]
  exact xG ih (by omega)
theorem zkO {kept spare L:List Int}(g:zv kept spare)(h:L.Sublist (kept++spare))(hl:kept.length≤L.length):zy kept≤zy L:=by
 obtain⟨L1,L2,rfl,h1,h2⟩:=List.sublist_append_iff.mp h
 rw[JG]
 exact zak h1 (fun d hd=>(g.rng d (xJ _ hd)).1) (fun d hd=>(g.rng d (xu _ (h2.subset hd))).1) (fun k hk s hs=>g.lt k hk s (h2.subset hs)) (by rw[xw]at hl;exact hl)
noncomputable def unl (a b:List Int):List Nat:=(xH a.length).filter fun i=>!decide (a.getD i 0=b.getD i 0)
theorem zbX {a b:List Int}{i:Nat}:i∈unl a b↔i<a.length∧a.getD i 0≠b.getD i 0:=by
 unfold unl
 rw[yv,yu]
 simp
noncomputable def atP (all:List Int)(ps:List Nat):List Int:=ps.map fun i=>all.getD i 0
theorem zht (all:List Int):(xH all.length).map (fun i=>all.getD i 0)=all:=by
 apply wq
 ·simp
 ·intro i h1 h2
  simp[xA,xm h2]
theorem ze9 (all:List Int)(p:Nat→Bool):(atP all ((xH all.length).filter p)).Sublist all:=by
 have h:=(uS (p:=p) (l:=xH all.length)).map fun i=>all.getD i 0
 rw[zht]at h
 exact h
theorem Y9 {p q:Nat→Bool}:∀l:List Nat,(l.filter p).length+(l.filter fun i=>!p i).length=l.length
 | []=>rfl
 |x::r=>by
  have:=Y9 (p:=p) (q:=q) r
  cases h:p x<;>simp[h]<;>omega
theorem zar:∀{a b:List Nat},a.Nodup→(∀x∈a,x∈b)→a.length≤b.length
 | [],_,_,_=>xV _
 |x::r,b,hn,hs=>by
  have hx:=hs x xD
  have hn':=yP.mp hn
  have ih:=zar (a:=r) (b:=b.erase x) hn'.2 fun y hy=>(List.mem_erase_of_ne (fun e:y=x=>hn'.1 (e▸hy))).mpr (hs y (xx _ hy))
  rw[List.length_erase_of_mem hx]at ih
  have:0<b.length:=ux hx
  rw[yr];omega
theorem ZB (n:Nat)(p:Nat→Bool):((xH n).filter p).Nodup:=List.Nodup.sublist uS List.nodup_range
theorem zbf {ds:List Int}{n:Int}{i:Nat}(h:i<ds.length):(zF ds n).getD i 0=n%ds.getD i 0:=by
 have:ds[i]? = some (ds.getD i 0):=by rw[xA,xm h];rfl
 rw[xA,Jo this];rfl
noncomputable def zdt (kept spare fig:List Int)(n:Int):Prop:=zM kept n∧(unl (zF (kept++spare) n) fig).length≤spare.length/2
noncomputable def chs:Nat→Nat→List (List Int)
 |_,0=>[[]]
 |c,s+1=>((xH c).map fun last=>(chs last s).map (·++[(last:Int)])).flatten
theorem QM (c s:Nat):chs (c+1) (s+1)=chs c (s+1)++(chs c s).map (·++[(c:Int)]):=by
 show(List.map _ (xH (c+1))).flatten=(List.map _ (xH c)).flatten++_
 rw[yQ,xE,uT]
 simp
theorem YQ:∀(s c:Nat) (ps:List Int),ps∈chs c s→ps.length=s
 |0,c,ps,h=>by
  have:ps=[]:=by simpa [chs] using h
  rw[this];rfl
 |s+1,c,ps,h=>by
  unfold chs at h
  obtain⟨l,hl,hp⟩:=uh.mp h
  obtain⟨last,_,rfl⟩:=xI.mp hl
  obtain⟨q,hq,rfl⟩:=xI.mp hp
  rw[xw,YQ s last q hq];rfl
theorem zaj (p:Nat→Bool):∀(c s:Nat),s≤c→((xH c).filter p).length≤s→∃ps∈chs c s,∀i,i<c→p i=true→(i:Int)∈ps
 |c,0,_,h=>by
  refine⟨[],by simp[chs],fun i hi hp=>?_⟩
  have:i∈(xH c).filter p:=yv.mpr ⟨yu.mpr hi,hp⟩
  have:=ux this
  omega
 |0,s+1,h,_=>by omega
 |c+1,s+1,h,hc=>by
  rw[yQ,yW,xw]at hc
  have hlen:((xH c).filter p).length≤c:=by have:=yC p (xH c);rw[xZ]at this;exact this
  have use:((xH c).filter p).length≤s→∃ps∈chs (c+1) (s+1),∀i,i<c+1→p i=true→(i:Int)∈ps:=fun hs=>by
   obtain⟨ps,h1,h2⟩:=zaj p c s (by omega) hs
   refine⟨ps++[(c:Int)],?_,fun i hi hp=>?_⟩
   ·rw[QM]
    exact xu _ (xI.mpr ⟨ps,h1,rfl⟩)
   ·rcases yy i c with h3|h3
    ·exact xJ _ (h2 i h3 hp)
    ·have:i=c:=by omega
     rw[this];exact xu _ xD
  cases hp:p c with
  |true =>
   refine use ?_
   simp[hp]at hc
   exact hc
  |false =>
   rcases yy c (s+1)with h3|h3
   ·exact use (by omega)
   ·simp[hp]at hc
    obtain⟨ps,h1,h2⟩:=zaj p c (s+1) h3 hc
    refine⟨ps,by rw[QM];exact xJ _ h1,fun i hi hpi=>?_⟩
    rcases yy i c with h4|h4
    ·exact h2 i h4 hpi
    ·have:i=c:=by omega
     rw[this,hp]at hpi;cases hpi
noncomputable def qB (n:Nat)(ps:List Int):List Nat:=(xH n).filter fun i=>!decide ((i:Int)∈ps)
theorem zjn (n:Nat)(ps:List Int):n - ps.length≤(qB n ps).length:=by
 have e:=Y9 (p:=fun i:Nat=>decide ((i:Int)∈ps)) (q:=fun _=>true) (xH n)
 rw[xZ]at e
 have h:((xH n).filter fun i:Nat=>decide ((i:Int)∈ps)).length≤(ps.map Int.toNat).length :=
  zar (ZB _ _) fun i hi=>by
   have:=of_decide_eq_true (yv.mp hi).2
   exact xI.mpr ⟨(i:Int),this,by omega⟩
 rw[xa]at h
 unfold qB
 omega
noncomputable def ZT (all fig:List Int)(ps:List Int)(v:Int):Prop:=zM (atP all (qB all.length ps)) v∧∀i,i<all.length→(i:Int)∉ps→v%all.getD i 0=fig.getD i 0
theorem ziD {a b:List Int}{n:Int}(h:zy a≤zy b)(hf:zM a n):zM b n:=by
 obtain⟨h1,h2⟩:=hf
 unfold jD at h1
 unfold jm at h2
 constructor
 ·unfold jD;omega
 ·unfold jm;omega
theorem zdp {kept spare fig ps:List Int}{v:Int}(hw:ZT (kept++spare) fig ps v)(hf:zM kept v)(hl:ps.length=spare.length/2):zdt kept spare fig v:=by
 refine⟨hf,?_⟩
 rw[←hl,←xa (f:=Int.toNat)]
 refine zar (ZB _ _) fun i hi=>?_
 have hi':i∈unl (zF (kept++spare) v) fig:=hi
 rw[zbX,qv]at hi'
 have:(i:Int)∈ps:=Classical.byContradiction fun z=>hi'.2 (by rw[zbf hi'.1];exact hw.2 i hi'.1 z)
 exact xI.mpr ⟨(i:Int),this,by omega⟩
theorem zf0 {kept spare fig ps:List Int}{v n:Int}(g:zv kept spare)(hw:ZT (kept++spare) fig ps v)(hl:ps.length≤spare.length)(hn:zdt kept spare fig n)(hs:∀i∈unl (zF (kept++spare) n) fig,(i:Int)∈ps):v=n:=by
 have sub:=ze9 (kept++spare) fun i:Nat=>!decide ((i:Int)∈ps)
 have la:=xw (as:=kept) (bs:=spare)
 have hk:kept.length≤(atP (kept++spare) (qB (kept++spare).length ps)).length:=by
  unfold atP
  rw[xa]
  have:=zjn (kept++spare).length ps
  omega
 have big:=zkO g sub hk
 have fn:zM (atP (kept++spare) (qB (kept++spare).length ps)) n:=ziD big hn.1
 have lh:=Q5 (atP (kept++spare) (qB (kept++spare).length ps))
 refine ZF (g.cop.sublist sub) (lo:=jD (atP (kept++spare) (qB (kept++spare).length ps))) (fun d hd=>?_) hw.1.1 (by have:=hw.1.2;unfold qB at *;omega) fn.1 (by have:=fn.2;unfold qB at *;omega)
 unfold atP at hd
 obtain⟨i,hi,rfl⟩:=xI.mp hd
 obtain⟨h1,h2⟩:=yv.mp hi
 have hi':=yu.mp h1
 have hnp:(i:Int)∉ps:=by simpa using h2
 rw[hw.2 i hi' hnp]
 have:i∉unl (zF (kept++spare) n) fig:=fun z=>hnp (hs i z)
 rw[zbX,qv]at this
 have:=Classical.byContradiction fun z=>this ⟨hi',z⟩
 rw[zbf hi']at this
 exact this.symm
theorem ziw {kept spare fig:List Int}(g:zv kept spare)(h:∀ps∈chs (kept++spare).length (spare.length/2),∃v,ZT (kept++spare) fig ps v∧¬zM kept v):∀n,¬zdt kept spare fig n:=fun n hn=>by
 have hl:=qv (kept++spare) n
 have la:=xw (as:=kept) (bs:=spare)
 have h2:=hn.2
 unfold unl at h2
 rw[hl]at h2
 obtain⟨ps,h3,h4⟩:=zaj (fun i=>!decide ((zF (kept++spare) n).getD i 0=fig.getD i 0)) (kept++spare).length (spare.length/2) (by omega) h2
 obtain⟨v,hw,hv⟩:=h ps h3
 have:=zf0 g hw (by rw[YQ _ _ _ h3];omega) hn fun i hi=>by
  rw[zbX,hl]at hi
  exact h4 i hi.1 (by simpa using hi.2)
 rw[this]at hv
 exact hv hn.1
open PySem L2
inductive Yd (a b:V)(H:Hp)(Q:VK)(E:XK):Prop
 |mk (p l:Addr) (ds ns:List Int) (h0:a=.ref p) (h1:b=.ref l) (h2:H p=some (.lst (ds.map V.int))) (h3:H l=some (.lst (ns.map V.int))) (h4:(∀d∈ds,2≤d∧d≤1000000)) (h5:ds.Pairwise Cop) (h6:ds.length≤ns.length) (h7:(∀(j:Nat) (d r:Int),ds[j]? = some d→ns[j]? = some r→0≤r∧r<d)) (q:∀v H',jP ds ns v→zd H H'→Q (.int v) H'):Yd a b H Q E
noncomputable def Yz:Sp:=Sp2 (Yd)
noncomputable def JE (ps:List Nat):List Int:=ps.map fun i:Nat=>(i:Int)
inductive zaf (a b c:V)(H:Hp)(Q:VK)(E:XK):Prop
 |mk (kept spare:List Int) (l lp:Addr) (fig ps:List Int) (h0:Bas H a kept spare) (h1:b=.ref l) (h2:H l=some (.lst (fig.map V.int))) (h3:zK (kept++spare) fig) (h4:c=.ref lp) (h5:H lp=some (.lst (ps.map V.int))) (q:∀v H',ZT (kept++spare) fig ps v→zd H H'→Q (.int v) H'):zaf a b c H Q E
noncomputable def zaP:Sp:=Sp3 (zaf)
theorem Qm (n:Nat)(ps:List Int):Zz n ps=JE (qB n ps):=by
 unfold Zz JE qB
 simp only[v4]
theorem zcb (all:List Int)(ps:List Nat):Zd all (JE ps)=atP all ps:=by
 unfold Zd JE atP
 rw[yj]
 rfl
theorem zga {all fig ps:List Int}{v:Int}(hl:fig.length=all.length)(h:jP (atP all (qB all.length ps)) (atP fig (qB all.length ps)) v):ZT all fig ps v:=by
 refine⟨h.fits,fun i hi hn=>?_⟩
 have hm:i∈qB all.length ps:=yv.mpr ⟨yu.mpr hi,by simpa using hn⟩
 obtain⟨j,hj⟩:=y9.mp hm
 exact h.rs j _ _ (by unfold atP;rw[xK,hj];rfl) (by unfold atP;rw[xK,hj];rfl)
theorem zfX {all fig ps:List Int}(hv:zK all fig):∀(j:Nat) (d r:Int),(atP all (qB all.length ps))[j]? = some d→(atP fig (qB all.length ps))[j]? = some r→0≤r∧r<d:=fun j d r hd hr=>by
 unfold atP at hd hr
 rw[xK]at hd hr
 cases hj:(qB all.length ps)[j]? with
 |none=>rw[hj]at hd;cases hd
 |some i =>
  rw[hj]at hd hr
  have hi:i<all.length:=yu.mp (yv.mp (xq hj)).1
  have hi':i<fig.length:=by rw[hv.len];exact hi
  cases hd;cases hr
  exact hv.rng i _ _ (by show all[i]? = some (all.getD i 0);rw[xA,xm hi];rfl) (by show fig[i]? = some (fig.getD i 0);rw[xA,xm hi'];rfl)
theorem zfL {n:Nat}{ps:List Int}{x:V}(h:x∈(Zz n ps).map V.int):∃i:Int,x=.int i∧0≤i∧i<n:=by
 obtain⟨i,hi,rfl⟩:=xI.mp h
 exact⟨i,rfl,(zjl hi).1⟩
theorem zfI (a:List Int)(ps:List Nat):(atP a ps).length=ps.length:=xa ..
theorem zhK (n:Nat)(ps:List Int):(qB n ps).length≤n:=by
 have:=yC (fun i:Nat=>!decide ((i:Int)∈ps)) (xH n)
 rw[xZ]at this
 exact this
noncomputable def YS (us:List Int):Str:=if us=[] then "right" else "mended"
inductive zcy (a b c:V)(H:Hp)(Q:VK)(E:XK):Prop
 |mk (kept spare:List Int) (l:Addr) (fig:List Int) (n:Int) (h0:Bas H a kept spare) (h1:b=.ref l) (h2:H l=some (.lst (fig.map V.int))) (h3:fig.length=(kept++spare).length) (h4:c=.int n) (q:∀t lu H',zd H H'→H lu=none→H' t=some (.tup [.str (YS (JE (unl (zF (kept++spare) n) fig))),.int n,.ref lu])→H' lu=some (.lst ((JE (unl (zF (kept++spare) n) fig)).map V.int))→Q (.ref t) H'):zcy a b c H Q E
noncomputable def zdq:Sp:=Sp3 (zcy)
noncomputable def zms (kept spare fig:List Int)(w:Str)(nv:V)(us:List Int):Prop :=
 (∃n,zdt kept spare fig n∧us=JE (unl (zF (kept++spare) n) fig)∧w=YS us∧nv=.int n)∨((∀n,¬zdt kept spare fig n)∧w="lost"∧nv=.non∧us=[])
noncomputable def zcS:Nat→Sp
 |0=>spF
 |s+1=>Sp2 fun a b H Q _=>∃c t:Nat,t≤s∧a=.int c∧b=.int t∧c≤10∧∀l as H',zd H H'→H l=none→(∀a∈as,H a=none)→H' l=some (.lst (as.map V.ref))→zT H' as (chs c t)→Q (.ref l) H'
theorem zkS:∀c,c<11→∀t,t<3→(chs c t).length≤100:=by decide
theorem zjH {c i t j:Nat}(hc:c≤10)(ht:t+1≤2)(hi:i<c):(chs i (t+1)++((chs i t).take j).map (·++[(i:Int)])).length≤100:=by
 have h:=zkS (i+1) (by omega) (t+1) (by omega)
 rw[QM,xw,xa]at h
 rw[xw,xa,ye]
 omega
theorem ziq {c s:Nat}(hs:s≤2):∀ps∈chs c s,ps.length≤2:=fun ps h=>by rw[YQ s c ps h];exact hs
theorem zkt {i t j:Nat}{q:List Int}(hq:(chs i t)[j]? = some q):chs i (t+1)++((chs i t).take (j+1)).map (·++[(i:Int)])=(chs i (t+1)++((chs i t).take j).map (·++[(i:Int)]))++[q++[(i:Int)]]:=by
 rw[yn,hq,xE,wa];rfl
theorem zlV (i t:Nat):chs i (t+1)++((chs i t).take (chs i t).length).map (·++[(i:Int)])=chs (i+1) (t+1):=by rw[xS,QM]
theorem zjL (us:List Nat):(JE us).map V.int=us.map fun i:Nat=>V.int i:=by unfold JE;rw[yj];rfl
theorem zkb (us:List Nat):(JE us).length=us.length:=xa ..
theorem zez (us:List Int):(us=[]∧YS us="right")∨(us≠[]∧YS us="mended"):=by
 unfold YS
 by_cases h:us=[]
 ·rw[if_pos h];exact .inl ⟨h,rfl⟩
 ·rw[if_neg h];exact .inr ⟨h,rfl⟩
end RF
namespace L2
open PySem
end L2
namespace RF
open PySem L2
inductive Y7 (cB:Addr)(a b:V)(H:Hp)(Q:VK)(E:XK):Prop
 |mk (kept spare:List Int) (l:Addr) (fig:List Int) (h0:Bas H a kept spare) (h1:b=.ref l) (h2:H l=some (.lst (fig.map V.int)))
   (q:zK (kept++spare) fig→∀t lu (w:Str) (nv:V) (us:List Int) H',zd H H'→H lu=none→H' t=some (.tup [.str w,nv,.ref lu])→H' lu=some (.lst (us.map V.int))→zms kept spare fig w nv us→Q (.ref t) H')
   (e:¬zK (kept++spare) fig→∀H',zd H H'→E (.ref cB) none H'):Y7 cB a b H Q E
noncomputable def za5 (cB:Addr):Sp:=Sp2 (Y7 cB)
end RF
namespace L2
open PySem PySem.Spec PyProof.Rows
end L2
namespace Att
open PySem PySem.W PySem.Calls PyProof.Rows
end Att
namespace L2
open PySem PySem.Spec PyProof.Rows
end L2
namespace L2
open PySem PySem.Spec PyProof.Rows Builtin Builtin.ObjectAttr
section
variable {prog:Program}{w:World}{A:Around}{E:Value→Shared→Prop}{h:Heap}{g:Array GenState}{d:Drawn}{t:Nat}{os:OsState}
variable {nm q:Str}{C N:Addr}{bs bm bmB:List Value}{hdct:Bool}{sn:List Str}{sub:List Value}{ab:Bool}{col:Option Bool}{dd:Option Addr}{k0 k1 k2 k3 k5:Option Value}{B newId initId:String}
noncomputable abbrev zay (us:List Value):Obj:={cls:=.type "tuple",data:=.seq us.toArray}
noncomputable abbrev Yy (C t:Addr):Obj:={cls:=.ref C,data:=.fields #[.ref t,.none,.none,.none,.bool false,.none]}
theorem zaJ (F:ExcBaseFacts B newId initId bmB)(T:OwnTail h bmB bm){mN:Str→Option Value}{rest:List Value}{fI:Addr}{oI:Obj}{Q:Fin→Shared→Prop}
  (hC:h.get? C=some (excClassObj nm q C N bs bm hdct sn sub ab col dd k0 k1 k2 k3 k5 newId)) (hn:h.Ns N mN) (hi:mN "__init__"=some (.ref fI)) (hfI:h.get? fI=some oI) (hfc:oI.cls=.type "function") (hrest:rest.length≤sizeLine)
  (hq:wpAny (model prog w) A (call (.ref fI) (.ref (h.objs.size+1)::rest)) (fun r s'=>r=.none∧Q (.done (.ret (.ref (h.objs.size+1)))) s') E ⟨(h.push (zay rest)).push (Yy C h.objs.size),g,d,t,os⟩) :
  wpAny (model prog w) A (Builtin.«type.__call__» ⟨.ref C::rest,[]⟩) Q E ⟨h,g,d,t,os⟩:=by
 repeat (first|with_reducible refine wpAny_loadPart_at hC ?_|with_reducible refine wpAny_madeBy_exc hC ?_|wp_step)
 refine codeAny_call_builtin_code (Code.quiet_builtin _ F.quiet) (wpAny_check_new_subT F T hC ?_)
 refine codeAny_exc_new_subT F T hC ?_ hrest
 show wpAny _ _ _ _ _ _
 have kp:∀b o,h.get? b=some o→((h.push {cls:=.type "tuple",data:=.seq rest.toArray}).push {cls:=.ref C,data:=.fields #[.ref h.objs.size,.none,.none,.none,.bool false,.none]}).get? b=some o:=fun b o e=>xg _ (xg _ e)
 have hC₁:=kp _ _ hC
 have hfI₁:=kp _ _ hfI
 have hn₁:((h.push {cls:=.type "tuple",data:=.seq rest.toArray}).push {cls:=.ref C,data:=.fields #[.ref h.objs.size,.none,.none,.none,.bool false,.none]}).Ns N mN:=let ⟨o,es,ep,e,r⟩:=hn;⟨o,es,ep,kp _ _ e,r⟩
 have hget:((h.push {cls:=.type "tuple",data:=.seq rest.toArray}).push {cls:=.ref C,data:=.fields #[.ref h.objs.size,.none,.none,.none,.bool false,.none]}).get? (h.objs.size+1)=some {cls:=.ref C,data:=.fields #[.ref h.objs.size,.none,.none,.none,.bool false,.none]}:=by heap_get
 have hcC:(Value.ref C::bm).contains (.ref C)=true:=by simp
 unfold isInstance
 repeat (first|with_reducible refine wpAny_loadPart_at hget ?_|(with_reducible refine wpAny_isSubtype_exc hC₁ ?_;rw[hcC])|wp_step)
 show wpAny _ _ (typeLookup (.ref C) _) _ _ _
 refine wpAny_typeLookup_tail hC₁ hn₁ (T.keeps kp) F.mroIs F.init.lookup ?_
 rw[hi]
 refine wpAny_holding (wpAny_bind ?_)
 unfold bindSpecial
 refine wpAny_bind (wpAny_typeOf (T:="function") ⟨_,hfI₁,hfc⟩ ?_)
 rw[if_pos (by decide)]
 refine wpAny_pure (wpAny_bind (wpAny_mono hq (fun r s' hr=>?_) fun _ _ x=>x))
 obtain⟨rfl,hQ⟩:=hr
 wp_walk
 exact hQ
theorem zbx (F:ExcBaseFacts B newId initId bmB)(T:OwnTail h bmB bm){mN:Str→Option Value}{rest:List Value}{fI:Addr}{oI:Obj}{Q:Value→Shared→Prop}
  (hC:h.get? C=some (excClassObj nm q C N bs bm hdct sn sub ab col dd k0 k1 k2 k3 k5 newId)) (hn:h.Ns N mN) (hi:mN "__init__"=some (.ref fI)) (hfI:h.get? fI=some oI) (hfc:oI.cls=.type "function") (hrest:rest.length≤sizeLine)
  (hq:wpAny (model prog w) (A.under (.builtin "type.__call__" ⟨.ref C::rest,[]⟩)) (call (.ref fI) (.ref (h.objs.size+1)::rest)) (fun r s'=>r=.none∧Q (.ref (h.objs.size+1)) s') E ⟨(h.push (zay rest)).push (Yy C h.objs.size),g,d,t,os⟩) :
  wpAny (model prog w) A (call (.ref C) rest) Q E ⟨h,g,d,t,os⟩:=by
 have f1:=tc_lookup
 have f2:=tc_bind (.ref C)
 have hT:(⟨h,g,d,t,os⟩:Shared).TypeIs (.ref C) "type":=⟨_,hC,rfl⟩
 refine wpAny_call (codeAny_of_tree ?_)
 show wpAny _ _ (callAny (.ref C) _) _ _ _
 repeat (any_goals (first|assumption|with_reducible refine wpAny_loadPart_at hC ?_|wp_step))
 refine⟨rfl,?_⟩
 exact codeAny_call_builtin_at (Code.quiet_builtin _ (by decide +kernel)) entry_typeCall (wpAny_check_type_call_sub hC (zaJ F T hC hn hi hfI hfc hrest hq))
end
noncomputable def Z9 (K:xb)(C fI:Addr)(bmB:List Value)(newId:String):Bool:=match K.lookup C with
 |some ⟨.type "type",_,.cls cd,sl⟩=>(match cd.mro,sl.toList with
  | .ref C'::bm,[_,_,_,_,some (.builtin n),_]=>C'==C&&n==newId&&!cd.hasDel&&PySem.W.tailIn K bmB bm&&PySem.W.nsOkIn K cd.ns&&xh K cd.ns "__init__"==some (some (.ref fI))
  |_,_=>false)
 |_=>false
theorem zgT {K:xb}{h:Heap}{N:Addr}{mg:Str→Option Value}{n:Str}{v:Value}(X:K.In h)(G:h.Ns N mg)(e:xh K N n=some (some v)):mg n=some v:=by
 obtain⟨o,es,ep,ho,hd,_,hf⟩:=G
 unfold xh at e
 split at e
 ·rename_i c d es' n' sl q
  have:=X _ _ q
  rw[ho]at this
  cases this
  cases hd
  split at e
  ·rename_i en he
   cases e
   rw[←hf]
   unfold nsFind findBy
   rw[←vU,he]
   rfl
  ·split at e<;>cases e
 ·cases e
theorem zj1 {K:xb}{h:Heap}{C fI:Addr}{bmB:List Value}{newId:String}(X:K.In h)(q:Z9 K C fI bmB newId=true) :
  ∃bm N nm qn bs hdct sn sub ab col dd k0 k1 k2 k3 k5 mN,h.get? C=some (excClassObj nm qn C N bs bm hdct sn sub ab col dd k0 k1 k2 k3 k5 newId)∧h.Ns N mN∧mN "__init__"=some (.ref fI)∧OwnTail h bmB bm:=by
 unfold Z9 at q
 split at q
 next dd cd sl ho =>
  split at q
  next C' bm k0 k1 k2 k3 n k5 hm hs =>
   simp only[yq,beq_iff_eq,yl]at q
   obtain⟨⟨⟨⟨⟨e1,e2⟩,hdel⟩,ht⟩,hok⟩,hni⟩:=q
   subst e1;subst e2
   obtain⟨nm,bs,mro,ns,qn,hd,sn,sub,ab,col,del⟩:=cd
   dsimp only at hm hdel hok hni
   subst hm hdel
   obtain rfl:sl=#[k0,k1,k2,k3,some (.builtin n),k5]:=by
    cases sl with
    |mk l=>exact congrArg Array.mk hs
   have hns:h.Ns ns (h.nsMap ns):=.of_isNs (vV X hok)
   exact⟨bm,ns,nm,qn,bs,hd,sn,sub,ab,col,dd,k0,k1,k2,k3,k5,_,X _ _ ho,hns,zgT X hns hni,vW X ht⟩
  next=>cases q
 next=>cases q
structure ZW (K:xb)(C:Addr)(f:Str):Prop where
 c:zai K C
 sa:xL K (.ref C) "__setattr__"=some (some (.builtin "object.__setattr__"))
 na:xL K (.ref C) f=some none
 hd:u8 K C=true
 mr:∃R,((uG K C).any fun cd=>cd.mro==.ref C::.ref R::bmV)=true
section
variable {prog:Program}{w:World}{A:Around}{E:Value→Shared→Prop}{s:Shared}{K:xb}{ea C:Addr}{ox:Obj}{od:Option Obj}{name:Str}
theorem zjO {expr:Bool}{v:Value}{Q:Value→Shared→Prop}(G:zai K C)(X:K.In s.heap)(J:vI s.heap ea ox C od)(hf:PySem.W.findObj K C od name=some (.value v))(hv:we v=true)
  (h:Q v {s with toks:=s.toks+1}):wpAny (model prog w) A (getAttr (.ref ea) name expr) Q E s:=by
 obtain⟨hh,g,d,t,os⟩:=s
 have L0:xO (model prog w) hh (typeOf (.ref ea)) (.ref C):=J.type
 have L1:=yE (M:=model prog w) X G.ga
 have L2:=yE (M:=model prog w) X G.gt
 have L4:=PySem.W.looks_find (M:=model prog w) X J hf
 unfold getAttr getAttrBy
 refine wpAny_bind (wpAny_mkText (wpAny_holding (wpAny_bind (L0.at (wpAny_bind (L1.at ?_))))))
 show wpAny _ _ (getAttrByItsOwn _ _ _ _ _ _) _ _ _
 unfold getAttrByItsOwn
 refine wpAny_bind ?_
 show wpAny _ _ (typeLookup (.ref C) "__getattr__") _ _ _
 refine L2.at ?_
 refine wpAny_bind (wpAny_attempt (wpAny_holding ?_))
 have eb:callGetattribute (.ref ea) (.str name t) (.builtin "BaseException.__getattribute__") expr=boundAndCalled (.builtin "BaseException.__getattribute__") (.ref ea) (.str name t):=by cases expr<;>rfl
 rw[eb]
 unfold boundAndCalled
 refine wpAny_bind (wpAny_of_eq (a:=(Value.builtin "BaseException.__getattribute__",[Value.ref ea])) zeQ ?_)
 refine wpAny_call (codeAny_call_builtin zd7 F.entry_bexc_ga ?_)
 have hk:builtinKind "BaseException.__getattribute__"=some .slot:=by decide +kernel
 have hs:splitId "BaseException.__getattribute__"=some ("BaseException","__getattribute__"):=by decide +kernel
 have L5:xO (model prog w) hh (isInstance (.ref ea) (.type "BaseException")) true:=L0.andThen (uk X G.mb)
 have ha:=F.args_bexc_ga (.ref ea) (.str name t)
 simp only[checkBuiltinCall,hk,hs]
 refine wpAny_bind (L5.at ?_)
 rw[if_neg (by decide)]
 refine wpAny_of_eq (a:=()) ha ?_
 refine wpAny_bind (wpAny_pure (wpAny_bind (wpAny_pure (wpAny_bind (L0.at (wpAny_bind (L4.at ?_)))))))
 refine wpAny_pure ?_
 show wpAny _ _ (handedOut v) _ _ _
 rw[PySem.W.handedOut_of hv]
 exact wpAny_pure h
theorem zjq {v:Value}{Q:Unit→Shared→Prop}(G:ZW K C name)(X:K.In s.heap)(hx:s.heap.get? ea=some ox)(hc:ox.cls=.ref C)(hn:uU ox=true)(hd0:ox.dict=none)
  (h:∀h',h'.get? ea=some {ox with dict:=some s.heap.objs.size}→h'.Ns1 s.heap.objs.size (fun y=>if y=name then some v else none)→(∀b o,b≠ea→s.heap.get? b=some o→h'.get? b=some o)→Q () {s with heap:=h',toks:=s.toks+2}) :
  wpAny (model prog w) A (setAttr (.ref ea) name v) Q E s:=by
 have J:vI s.heap ea ox C none:=⟨hx,hc,hn,by rw[hd0];exact True.intro⟩
 obtain⟨R,hm⟩:=G.mr
 obtain⟨cd,hcd,ho⟩:=wt hm
 have hh:=G.hd
 obtain⟨cd',hcd',hdd⟩:=wt hh
 rw[hcd]at hcd';cases hcd'
 have ho:cd.mro=.ref C::.ref R::bmV:=eq_of_beq ho
 have SF:=PySem.F.store_object
 refine PySem.W.set_plain X J G.sa ?_
 have sub:xO (model prog w) s.heap (isInstance (.ref ea) (.type "object")) true:=J.type.andThen (uk X G.c.mo)
 refine codeAny_call_builtin SF.slot.plain SF.entry (@PySem.W.check_slot (model prog w) _ _ {s with toks:=s.toks+1} "object.__setattr__" "object" "__setattr__" (.ref ea) [.str name s.toks,v] [] _ SF.kind SF.split sub (SF.args (.ref ea) (.str name s.toks) v) ?_)
 have L2:xO (model prog w) s.heap (mroOf (.ref C)) cd.mro:=(vO X hcd).andThen .now
 have L3:xO (model prog w) s.heap (storeTaker? none) none:=.now
 have L4:xO (model prog w) s.heap (classData C) cd:=vO X hcd
 rw[PySem.W.osa_eq,refuse_eq]
 refine wpAny_bind (wpAny_bind (xO.here (s:={s with toks:=s.toks+1}) J.type (wpAny_bind (xO.here (s:={s with toks:=s.toks+1}) L2 ?_))))
 rw[ho,refuseLoop_ref,refuseLoop_ref,PySem.F.store_ValueError.passes]
 refine wpAny_pure (wpAny_bind (xO.here (s:={s with toks:=s.toks+1}) J.type (wpAny_bind (xO.here (s:={s with toks:=s.toks+1}) (yE X G.na) (wpAny_bind (xO.here (s:={s with toks:=s.toks+1}) L3 ?_))))))
 obtain⟨oc,odi,oda,osl⟩:=ox
 have hc:oc=.ref C:=hc
 have hd0:odi=none:=hd0
 subst hc hd0
 refine wpAny_bind (wpAny_pure (wpAny_bind (wpAny_bind (wpAny_loadPart hx (wpAny_bind (xO.here (s:={s with toks:=s.toks+1}) L4 ?_))))))
 rw[hdd]
 have hx₁:(s.heap.push {cls:=.type "dict",data:=.dict #[]}).get? ea=some ⟨.ref C,none,oda,osl⟩:=xg _ hx
 have hxs:ea≠s.heap.objs.size:=xz (xp hx)
 have go:∀(QF:PySem.Fin→Shared→Prop) (E':Value→Shared→Prop) (b:Bool),(∀s',Q () s'→QF (.done (.ret .none)) s')→wpAny (model prog w) A.in1 (do
   let d ←alloc {cls:=.type "dict",data:=.dict #[]}
   update ea fun o=>{o with dict:=some d}
   dictMade (.ref C) ea d) (fun r s'=>wpAny (model prog w) A.in1 (match r with|some d=>storeInDict d (.str name s.toks) name v|none=>noDictFor (.ref ea) (.ref C) name b) QF E' s') E' {s with toks:=s.toks+1}:=by
  intro QF E' b hQF
  refine wpAny_bind (wpAny_alloc (wpAny_bind (wpAny_update hx₁ (wpAny_pure ?_))))
  have hgd:((s.heap.push {cls:=.type "dict",data:=.dict #[]}).update ea fun o=>{o with dict:=some s.heap.objs.size}).get? s.heap.objs.size=some {cls:=.type "dict",data:=.dict #[]} :=
   (vP _ _ _ _ hxs.symm).trans (Heap.get?_push_at rfl rfl)
  have hnd:((s.heap.push {cls:=.type "dict",data:=.dict #[]}).update ea fun o=>{o with dict:=some s.heap.objs.size}).Ns s.heap.objs.size (fun _=>none):=⟨_,#[],_,hgd,rfl,fun e he=>absurd he (by simp),fun _=>rfl⟩
  show wpAny _ _ (storeInDict s.heap.objs.size (.str name s.toks) name v) _ _ _
  unfold storeInDict newKeyGuard
  refine wpAny_bind (wpAny_pure (wpAny_bind (wpAny_nsSet1 (Heap.Ns1.of_empty hnd) fun h' hn' hs=>?_)))
  obtain⟨oD,esD,epD,hoD,hdD,hcD⟩:=hn'.count (PySem.Within.cons name v PySem.Within.nil)
  refine wpAny_bind (wpAny_lookBehind hoD (by rw[hdD];exact pastItsLine_dict (x6 hcD (by rw[yr,vw,sizeLine_eq];omega))) ?_)
  refine wpAny_pure (hQF _ (h h' ?_ hn' fun b o hb e=>?_))
  ·refine(hs.2 ea hxs).trans (yk _ hx₁ ?_)
   have hfr:=(ur.mp hx).2
   cases oda<;>first|rfl|exact hfr
  ·exact(hs.2 b (xz (xp e))).trans ((vP _ _ _ _ hb).trans (xg _ e))
 cases oda<;>first|exact go _ _ _ (fun _ z=>z)|cases hn
end
noncomputable def Zp (a C:Addr):Heap→Prop:=fun h=>∃o vs a0,h.get? a=some o∧o.cls=.ref C∧o.dict=none∧o.data=.fields vs∧vs[0]? = some a0∧vs[1]? = some .none∧4<vs.size
noncomputable def ZO (a C d:Addr):Heap→Prop:=fun h=>∃o vs a0,h.get? a=some o∧o.cls=.ref C∧o.dict=some d∧o.data=.fields vs∧vs[0]? = some a0∧vs[1]? = some .none∧4<vs.size
theorem zgS {a C:Addr}:∀h1 h2:Heap,Zp a C h1→(∀o,h1.get? a=some o→h2.get? a=some o)→Zp a C h2:=fun _ _ ⟨o,vs,a0,e,r⟩ k=>⟨o,vs,a0,k o e,r⟩
theorem zgg {a C d:Addr}:∀h1 h2:Heap,ZO a C d h1→(∀o,h1.get? a=some o→h2.get? a=some o)→ZO a C d h2:=fun _ _ ⟨o,vs,a0,e,r⟩ k=>⟨o,vs,a0,k o e,r⟩
theorem ziQ {f:Str}{y:V}{u:Value}(r:zU y u)(g:Str):zbG (([(f,y)]:List (Str×V)).lookup g) (if g=f then some u else none):=by
 by_cases e:g=f
 ·subst e;rw[if_pos rfl,List.lookup_cons_self];exact r
 ·rw[if_neg e,yw,show(g==f)=false from beq_eq_false_iff_ne.mpr e];exact True.intro
section
variable {X:Cx}{o value e:Expr}{f:Str}{pos pos':Pos}{ta tv:TE}
noncomputable def zmR (K:xb)(ta tv:TE)(f:Str):TS:=fun D σ H=>tv σ H fun y H1=>ta σ H1 fun x H2=>∃a C,x=.ref a∧H2 a=some (.ext (Zp a C))∧ZW K C f∧∀d,H2 d=none→D.nx σ (upd (upd H2 d (.xd [(f,y)])) a (.ext (ZO a C d)))
theorem zhd (ha:PE X o ta)(hv:PE X value tv)(hs:swapsWith value (some (.Attribute o f pos')) pos.line X.env=pure false):PS X (.Assign [.Attribute o f pos'] value pos) (zmR X.K ta tv f):=by
 intro pins s σ H D I h
 refine plainObj_wpAny_Assign_Attribute (thn (hv pins s σ H _ I h) fun u s1 ⟨y,H1,I1,ry,q⟩=>thn (ha pins s1 σ H1 _ I1 q) fun ov s2 ⟨x,H2,I2,rx,a,C,ex,ea,G,q2⟩=>?_) hs
 subst ex
 obtain rfl:ov=Value.ref a:=rx
 obtain⟨⟨oe,vs,a0,he,hc,hd0,hdat,h0,h1,h4⟩,_⟩:=(show jU X.prog X.w H2 s2.heap a (.ext (Zp a C)) from I2.hok a _ ea)
 have hn:uU oe=true:=by unfold uU;rw[hdat]
 refine zjq G I2.kIn he hc hn hd0 fun h' e1 e2 e3=>?_
 have fr:H2 s2.heap.objs.size=none:=I2.hok.fresh (xr _)
 have ne:s2.heap.objs.size≠a:=yo (xp he)
 obtain⟨oD,es,ep,hoD,hdD,r1,r2,r3⟩:=id e2
 have gd:(s2.heap.push oD).get? s2.heap.objs.size=some oD:=xF _ (by
  have:=(ur.mp hoD).2
  first|exact this|simpa using this)
 have I3:Inv X pins σ (upd H2 s2.heap.objs.size (.xd [(f,y)])) {s2 with heap:=s2.heap.push oD,toks:=s2.toks}:=I2.laid (fun b o q=>xg _ q) (xr _) ⟨_,⟨oD,es,ep,gd,hdD,r1,r2,r3⟩,ziQ ry⟩
 have I4:Inv X pins σ (upd (upd H2 s2.heap.objs.size (.xd [(f,y)])) a (.ext (ZO a C s2.heap.objs.size))) {s2 with heap:=h',toks:=s2.toks+2}:=by
  refine I3.write (x:=a) (e:=a) (h':=h') (t':=s2.toks+2) (by rw[zC (Ne.symm ne),ea];exact True.intro) (.inl rfl) (fun b o hb q=>?_) ⟨_,e1⟩ ⟨⟨_,vs,a0,e1,hc,rfl,hdat,h0,h1,h4⟩,⟨_,e1⟩,zgg⟩
  rcases uI q with⟨z,z2⟩|q
  ·rw[z,z2];exact hoD
  ·exact e3 b o hb q
 exact⟨σ,_,I4,q2 _ fr⟩
inductive zkl (K:xb)(f:Str)(Q:VK)(x:V)(H1:Hp):Prop
 |mk (a C d:Addr) (fs:List (Str×V)) (v:V) (e:x=.ref a) (ea:H1 a=some (.ext (jF a C (some d)))) (ed:H1 d=some (.xd fs)) (G:ZW K C f) (l:fs.lookup f=some v) (q:Q v H1):zkl K f Q x H1
noncomputable def zlL (K:xb)(ta:TE)(f:Str):TE:=fun σ H Q=>ta σ H (zkl K f Q)
theorem zlA (he:PE X e ta)(hb:attributeBase e f X.env (eval e X.env)=eval e X.env:=by rfl):PE X (.Attribute e f pos) (zlL X.K ta f):=by
 intro pins s σ H Q I h
 refine zk6 hb (thn (he pins s σ H _ I h) fun u s1 ⟨x,H1,I1,rx,a,C,d,fs,v,ex,ea,ed,G,l,q⟩=>?_)
 subst ex
 obtain rfl:u=Value.ref a:=rx
 obtain⟨⟨oe,vs,ho,⟨hc,hdx⟩,hdat⟩,_⟩:=(show jU X.prog X.w H1 s1.heap a (.ext (jF a C (some d))) from I1.hok a _ ea)
 obtain⟨mA,hns,rel⟩:=(show jU X.prog X.w H1 s1.heap d (.xd fs) from I1.hok d _ ed)
 obtain⟨od,hod,hlk⟩:=zif hns
 obtain⟨u',hu,ru⟩:=zbG.some_of (v:=v) (o:=mA f) (by rw[←l];exact rel f)
 have J:vI s1.heap a oe C (some od):=⟨ho,hc,by unfold uU;rw[hdat],by rw[hdx.1 d rfl];exact hod⟩
 exact zjO G.c I1.kIn J (PySem.W.findObj_own G.hd G.na rfl (by rw[hlk,hu])) (zhk ru) ⟨v,H1,I1.tok _,ru,q⟩
end
inductive zfd (C:Addr)(fld:Str)(a b:V)(H:Hp)(Q:VK):Prop
 |mk (e:Addr) (ha:a=.ref e) (he:H e=some (.ext (Zp e C))) (q:∀d,H d=none→Q .non (upd (upd H d (.xd [(fld,b)])) e (.ext (ZO e C d)))):zfd C fld a b H Q
noncomputable def zbg (C:Addr)(fld:Str):Sp:=fun vs H Q _=>∃a b,vs=[a,b]∧zfd C fld a b H Q
theorem zl9 {K:xb}{h:Heap}{f:Addr}(X:K.In h)(q:uv K (.ref f)=true):∃o,h.get? f=some o∧o.cls=.type "function":=by
 have q':PySem.W.typeIn K (.ref f)=some (.type "function"):=beq_iff_eq.mp q
 obtain⟨o,ho,e⟩:=Option.map_eq_some_iff.mp (show(K.lookup f).map (·.cls)=some (.type "function") from q')
 exact⟨o,X _ _ ho,e⟩
end L2
namespace L2
open PySem PySem.Spec PyProof.Rows
open PySem.AutoSeq1 (wpAny_loadPart')
structure zdN (P:Program)(w:World)(K:xb)(mg:Str→Option Value)(base:Heap)(x:Str)(C:Addr)(fld:Str)(k':Nat):Prop where
 ex:∃fI fd p1,Z9 K C fI bmV "ValueError.__new__"=true∧mg x=some (.ref C)∧uv K (.ref fI)=true∧Jw P w K mg base (CX1 P w) k' fI fd ["self",p1] (zbg C fld)∧ZP K fd ["self",p1] []
end L2
namespace L2
open PySem PySem.Spec PyProof.Rows
theorem zk1 {X:Cx}{e:Expr}{f:Str}{pos:Pos}{ta:TE}(K:xb)(he:PE X e ta)(hb:attributeBase e f X.env (eval e X.env)=eval e X.env:=by rfl)(h:X.K=K:=by rfl):PE X (.Attribute e f pos) (zlL K ta f):=h▸zlA he hb
noncomputable def Jx (val:Nat→Int):Nat→Nat→Option Int→Option Int
 |_,0,c=>c
 |i,k+1,c=>Jx val (i+1) k (some (match c with|none=>val i|some m=>if val i > m then val i else m))
section
variable {prog:Program}{w:World}{A:Around}{R:Result→Shared→Prop}{I:Addr}{fp wr:List Addr}{n:Nat}{Pi:Nat→Value→Prop}{St:Nat→Heap→Prop}{S:Addr}{dv:Value}
theorem zgy (W:Walks prog w A.in1 I fp wr n Pi St)(val:Nat→Int)(hval:∀i v,Pi i v→∃t,v=.int (val i) t)(hSf:S∉fp):∀(k i:Nat) (s:Shared) (c:Option Int),n - i=k→i≤n→St i s.heap→zaQ s.heap S c →
  (∀h' tk,(∀b o,b∉wr→b≠S→s.heap.get? b=some o→h'.get? b=some o)→zfe R dv (Jx val i k c) {s with heap:=h',toks:=tk}) →
  codeAny (model prog w) A (.builtin "max.loop" ⟨[.ref I,.none,.ref S],[(Str.ofString "default",dv)]⟩) R s:=by
 have hSw:S∉wr:=fun h=>hSf (W.sub _ h)
 have hname:(toString "max"++toString ".loop":String)="max.loop":=by decide
 intro k
 induction k with
 |zero =>
  intro i s c hk hi st hb hR
  have e:i=n:=by omega
  subst e
  obtain⟨ep,hb⟩:=hb
  refine codeAny_builtin F.entry_max_loop ?_
  rw[Around.under_plainId F.plain_max_loop _]
  show wpAny _ A.in1 (seqItems? (.ref S) >>= _) _ _ s
  cases c with
  |none =>
   refine wpAny_bind (wpAny_seqItems hb rfl ?_)
   show wpAny _ A.in1 (tryCatch (pyNext (.ref I)) _ >>= _) _ _ s
   refine wpAny_bind (wpAny_tryCatch (W.done s _ _ st fun h' tk hk'=>?_))
   exact wpAny_bind (wpAny_rule (wpAny_pure (hR h' tk fun b o hw _ q=>hk' b o hw q)))
  |some m =>
   obtain⟨t,hb⟩:=hb
   refine wpAny_bind (wpAny_seqItems hb rfl ?_)
   show wpAny _ A.in1 (tryCatch (pyNext (.ref I)) _ >>= _) _ _ s
   refine wpAny_bind (wpAny_tryCatch (W.done s _ _ st fun h' tk hk'=>?_))
   have hb':=hk' S _ hSw hb
   show wpAny _ A.in1 (updateSeq S (fun _=>#[]) >>= _) _ _ _
   refine wpAny_bind (wpAny_updateSeq hb' rfl (wpAny_bind (wpAny_letGo ?_)))
   exact wpAny_pure (hR _ tk (fun b o hw hS q=>(xT _ _ (Ne.symm hS)).trans (hk' b o hw q)) t)
 |succ k ih =>
  intro i s c hk hi st hb hR
  obtain⟨ep,hb⟩:=hb
  have hlt:i<n:=by omega
  refine codeAny_builtin F.entry_max_loop ?_
  rw[Around.under_plainId F.plain_max_loop _]
  show wpAny _ A.in1 (seqItems? (.ref S) >>= _) _ _ s
  cases c with
  |none =>
   refine wpAny_bind (wpAny_seqItems hb rfl ?_)
   show wpAny _ A.in1 (tryCatch (pyNext (.ref I)) _ >>= _) _ _ s
   refine wpAny_bind (wpAny_tryCatch (W.item i s _ _ hlt st fun v h' tk hP st' hk'=>?_))
   obtain⟨t,rfl⟩:=hval i v hP
   have hb':=hk' S _ hSw hb
   show wpAny _ A.in1 (updateSeq S (fun _=>#[.int (val i) t,.int (val i) t]) >>= _) _ _ _
   refine wpAny_bind (wpAny_updateSeq hb' rfl ?_)
   rw[hname]
   refine wpAny_pure ⟨plainId_quiet F.plain_max_loop _,ih (i+1) _ (some (val i)) (by omega) (by omega) (W.frame _ _ _ st' fun b hbf o q=>?_) ⟨_,t,yk _ hb' rfl⟩ fun h'' tk'' hk''=>?_⟩
   ·exact(xT _ _ (fun z:S=b=>hSf (by rw[z];exact hbf))).trans q
   ·exact hR h'' tk'' fun b o hw hS q=>hk'' b o hw hS ((xT _ _ (Ne.symm hS)).trans (hk' b o hw q))
  |some m =>
   obtain⟨t0,hb⟩:=hb
   refine wpAny_bind (wpAny_seqItems hb rfl ?_)
   show wpAny _ A.in1 (tryCatch (pyNext (.ref I)) _ >>= _) _ _ s
   refine wpAny_bind (wpAny_tryCatch (W.item i s _ _ hlt st fun v h' tk hP st' hk'=>?_))
   obtain⟨t,rfl⟩:=hval i v hP
   have hb':=hk' S _ hSw hb
   have cmp:CmpOf prog w A.in1 .Gt (fun j v=>v=(if j=0 then Value.int (val i) t else Value.int m t0)) (fun a b=>decide ((if a=0 then val i else m) > (if b=0 then val i else m))) :=
    CmpOf.ints_gt (fun j=>if j=0 then val i else m) fun j v e=>by
     by_cases hj:j=0
     ·rw[if_pos hj]at e ⊢;exact⟨t,e⟩
     ·rw[if_neg hj]at e ⊢;exact⟨t0,e⟩
   show wpAny _ A.in1 (tryCatch (holding [.int (val i) t,.int (val i) t] (richCompare .Gt (.int (val i) t) (.int m t0) >>= _)) _ >>= _) _ _ _
   refine wpAny_bind (wpAny_tryCatch (wpAny_holding (wpAny_bind (cmp 0 1 _ _ _ _ _ rfl rfl (wpAny_bind (wpAny_holding (wpAny_truthy_bool (wpAny_bind (wpAny_letGo (wpAny_pure ?_))))))))))
   show wpAny _ _ (if decide (val i > m)=true then _ else _) _ _ _
   have last:∀h1:Heap,(∀b o,b≠S→h'.get? b=some o→h1.get? b=some o)→zaQ h1 S (some (if val i > m then val i else m)) →
     codeAny (model prog w) A (.builtin "max.loop" ⟨[.ref I,.none,.ref S],[(Str.ofString "default",dv)]⟩) R {s with heap:=h1,toks:=tk}:=fun h1 k1 hb1 =>
    ih (i+1) _ _ (by omega) (by omega) (W.frame _ _ _ st' fun b hbf o q=>k1 b o (fun z=>hSf (by rw[←z];exact hbf)) q) hb1 fun h'' tk'' hk'' =>
     hR h'' tk'' fun b o hw hS q=>hk'' b o hw hS (k1 b o hS (hk' b o hw q))
   by_cases hlt2:val i > m
   ·rw[decide_eq_true hlt2,if_pos rfl]
    refine wpAny_bind ?_
    refine wpAny_updateSeq hb' rfl (wpAny_bind (wpAny_letGo ?_))
    rw[hname]
    exact wpAny_pure ⟨plainId_quiet F.plain_max_loop _,last _ (fun b o hS q=>(xT _ _ (Ne.symm hS)).trans q) ⟨_,t,by rw[if_pos hlt2];exact yk _ hb' rfl⟩⟩
   ·rw[decide_eq_false hlt2,if_neg xB]
    refine wpAny_bind (wpAny_letGo ?_)
    rw[hname]
    exact wpAny_pure ⟨plainId_quiet F.plain_max_loop _,last _ (fun b o _ q=>q) ⟨ep,t0,by rw[if_neg hlt2];exact hb'⟩⟩
end
theorem zeG (val:Nat→Int):∀(k i:Nat) (c:Option Int) (m:Int),Jx val i k c=some m→(c=some m∨∃j,i≤j∧j<i+k∧m=val j)∧(∀x,c=some x→x≤m)∧∀j,i≤j→j<i+k→val j≤m:=by
 intro k
 induction k with
 |zero=>intro i c m h;exact⟨.inl h,fun x hx=>by rw[show Jx val i 0 c=c from rfl]at h;rw[h]at hx;cases hx;exact wk _,fun j h1 h2=>by omega⟩
 |succ k ih =>
  intro i c m h
  obtain⟨h1,h2,h3⟩:=ih (i+1) _ m h
  have hx:=h2 _ rfl
  cases c with
  |none =>
   refine⟨?_,fun x hx'=>(nomatch hx'),fun j hj1 hj2=>?_⟩
   ·rcases h1 with h1|⟨j,a,b,e⟩
    ·exact .inr ⟨i,xr _,by omega,(Option.some.inj h1).symm⟩
    ·exact .inr ⟨j,by omega,by omega,e⟩
   ·by_cases e:j=i
    ·subst e;exact hx
    ·exact h3 j (by omega) (by omega)
  |some y =>
   dsimp only at h1 hx
   refine⟨?_,fun x hx'=>?_,fun j hj1 hj2=>?_⟩
   ·rcases h1 with h1|⟨j,a,b,e⟩
    ·have h1:=Option.some.inj h1
     by_cases hv:val i > y
     ·rw[if_pos hv]at h1;exact .inr ⟨i,xr _,by omega,h1.symm⟩
     ·rw[if_neg hv]at h1;exact .inl (by rw[h1])
    ·exact .inr ⟨j,by omega,by omega,e⟩
   ·cases hx'
    split at hx<;>omega
   ·by_cases e:j=i
    ·subst e;split at hx<;>omega
    ·exact h3 j (by omega) (by omega)
theorem Q9 (val:Nat→Int):∀(k i:Nat) (x:Int),∃m,Jx val i k (some x)=some m
 |0,_,x=>⟨x,rfl⟩
 |k+1,i,x=>Q9 val k (i+1) _
theorem zgC (a v:Value):argsOk "max" ⟨[a],[(Str.ofString "default",v)]⟩:=by unfold argsOk;kernel_rfl
section
variable {X:Cx}
noncomputable def zmB (K:xb)(te td:TE):TE:=fun σ H Q=>te σ H fun x H1=>td σ H1 fun y H2=>∃p ns dv,x=.ref p∧y=.int dv∧SqL K H2 p (ns.map V.int)∧∀m:Int,(ns=[]→m=dv)→(ns≠[]→m∈ns∧∀a∈ns,a≤m)→Q (.int m) H2
theorem zg9 {pins:List (Addr×Obj)}{σ:St}{H:Hp}{s:Shared}{Q:VK}{p:Addr}{ns:List Int}{dv:Int}{t:Tok}(hc:X.calm=true)(I:Inv X pins σ H s)(hq:SqL X.K H p (ns.map V.int))
  (q:∀m:Int,(ns=[]→m=dv)→(ns≠[]→m∈ns∧∀a∈ns,a≤m)→Q (.int m) H):wpAny (model X.prog X.w) X.A (call (.builtin "max") [.ref p] [(Str.ofString "default",.int dv t)]) (EP X pins σ Q) X.xe s:=by
 have hname:(toString "max"++toString ".loop":String)="max.loop":=by decide
 obtain⟨its,rv,pl,hz⟩:=I.list hq
 have hl:=pl.isList
 have hlt:p<s.heap.objs.size:=by obtain⟨_,e,_⟩:=id hl;exact xp e
 have hlen:its.toArray.size=ns.length:=by rw[xC,←rv.length,xa]
 have hval:∀(i:Nat) v,its.toArray[i]? = some v→∃t,v=Value.int ((ns[i]?).getD 0) t:=fun i v hv=>by
  have hv':its[i]? = some v:=by simpa using hv
  cases hb:ns[i]? with
  |none =>
   have:its[i]? = none:=rv.none_of (by rw[xK,hb];rfl)
   rw[this]at hv';cases hv'
  |some b =>
   obtain⟨u,hu,ru⟩:=rv.get (x:=.int b) (i:=i) (by rw[xK,hb];rfl)
   rw[hv']at hu;cases hu
   exact ru
 refine kmk_tree PySem.F.kind_max PySem.F.plain_max PySem.F.entry_max (zgC _ _) ?_
 show wpAny _ X.A.in1 (Builtin.Builtins.bindParams "max" ["key","default"] 0 ⟨[],[(Str.ofString "default",.int dv t)]⟩ >>= _) _ _ s
 refine wpAny_bind (wpAny_of_eq (show Builtin.Builtins.bindParams "max" ["key","default"] 0 ⟨[],[(Str.ofString "default",.int dv t)]⟩=pure [none,some (.int dv t)] from rfl) ?_)
 refine wpAny_bind (wpAny_pure ?_)
 refine wpAny_bind (wpAny_pyIter_list hl ?_)
 refine wpAny_bind (wpAny_newObj_type ?_)
 rw[hname]
 have W:=Walks.list (prog:=X.prog) (w:=X.w) (A:=X.A.in1) (I.ok.hd hc) s.heap.objs.size p (xz hlt) its.toArray
 have hS:(s.heap.push {cls:=.type "list_iterator",data:=.fields #[.ref p,.int 0 0]}).objs.size=s.heap.objs.size+1:=by rw[yi]
 refine wpAny_pure ⟨plainId_quiet PySem.F.plain_max_loop _,zgy W (fun i=>(ns[i]?).getD 0) hval ?_ its.toArray.size 0 _ none (by omega) (xV _) ?_ ⟨0,xF _ rfl⟩ fun h' tk hk=>?_⟩
 ·rw[hS]
  simp only[xt,xY,or_false,not_or]
  exact⟨uC _,yo (ym hlt)⟩
 ·refine⟨⟨_,xg _ (xF _ rfl),rfl,rfl⟩,(hl.push _).push _⟩
 ·have keep:∀b o,s.heap.get? b=some o→h'.get? b=some o:=fun b o e=>by
   have hb:=xp e
   refine hk b o ?_ ?_ (xg _ (xg _ e))
   ·intro z
    simp only[xt,xY,or_false]at z
    exact xz hb z
   ·rw[hS];exact xz (ym hb)
  have fin:∀m:Int,(ns=[]→m=dv)→(ns≠[]→m∈ns∧∀a∈ns,a≤m)→∀t',EP X pins σ Q (.int m t') {s with heap:=h',toks:=tk}:=fun m h1 h2 t'=>⟨.int m,H,I.kept keep,⟨t',rfl⟩,q m h1 h2⟩
  cases hr:Jx (fun i=>(ns[i]?).getD 0) 0 its.toArray.size none with
  |none =>
   have hn:ns=[]:=by
    cases hcs:ns with
    |nil=>rfl
    |cons x r =>
     rw[hlen,hcs]at hr
     obtain⟨m,e⟩:=Q9 (fun i=>((x::r)[i]?).getD 0) r.length 1 (((x::r)[0]?).getD 0)
     rw[show Jx (fun i=>((x::r)[i]?).getD 0) 0 (x::r).length none=Jx (fun i=>((x::r)[i]?).getD 0) 1 r.length (some (((x::r)[0]?).getD 0)) from rfl,e]at hr
     cases hr
   exact fin dv (fun _=>rfl) (fun h=>absurd hn h) t
  |some m =>
   obtain⟨h1,_,h3⟩:=zeG _ _ _ _ _ hr
   rw[hlen]at h1 h3
   have hm:m∈ns:=by
    rcases h1 with h1|⟨j,_,hj,e⟩
    ·cases h1
    ·have hj':j<ns.length:=by omega
     rw[e,xm hj']
     exact uD hj'
   exact fun t'=>fin m (fun e=>by rw[e]at hm;cases hm) (fun _=>⟨hm,fun a ha=>by
    obtain⟨j,hj,e⟩:=uH.mp ha
    have:=h3 j (xV _) (by omega)
    rw[xm hj,e]at this
    exact this⟩) t'
theorem zkq {e d:Expr}{te td:TE}{p pos kpos:Pos}(hg:Gl X "max")(hm:X.mg "max"=none)(he:PE X e te)(hd:PE X d td)(hc:X.calm=true:=by rfl)(hs:starEach [e] X.env=[(false,eval e X.env)]:=by rfl) :
  PE X (.Call (.Name "max" p) [e] [⟨some "default",d,kpos⟩] pos) (zmB X.K te td):=by
 intro pins s σ H Q I h
 refine wpAny_Call_Name_kw (JJ I hg hm PyProof.Rows.Boot.«max» ?_)
 refine callWith_kw (he:=by rw[hs];rfl) (hplain:=by rw[hs];rfl) ?_
 refine thn ((zbW he zb (hs:=hs)) pos pins s σ H (fun vs H1=>match vs with | [x]=>td σ H1 fun y H2=>∃p ns dv,x=.ref p∧y=.int dv∧SqL X.K H2 p (ns.map V.int)∧∀m:Int,(ns=[]→m=dv)→(ns≠[]→m∈ns∧∀a∈ns,a≤m)→Q (.int m) H2|_=>False) I h) fun us s1 h1=>?_
 obtain⟨vs,H1,I1,r,q⟩:=h1
 match vs,q with
 | [x],q =>
  obtain⟨u,rfl,rx⟩:=qm r
  refine thn ((zfo hd zhI) pos pins s1 σ H1 (fun zs H2=>match zs with | [y]=>∃p ns dv,x=.ref p∧y=.int dv∧SqL X.K H2 p (ns.map V.int)∧∀m:Int,(ns=[]→m=dv)→(ns≠[]→m∈ns∧∀a∈ns,a≤m)→Q (.int m) H2|_=>False) I1 q) fun ws s2 h2=>?_
  obtain⟨zs,H2,I2,r2,q2⟩:=h2
  match zs,q2 with
  | [y],⟨p,ns,dv,e1,e2,hq,q3⟩ =>
   subst e1;subst e2
   obtain⟨v,rfl,t,rfl⟩:=qm r2
   cases rx
   exact zg9 hc I2 hq q3
end
end L2
namespace L2
open PySem PySem.Spec PyProof.Rows Builtin Builtin.Str
theorem zg6:typeLookup (.type "list_reverseiterator") "__len__"=pure none:=by
 rw[typeLookup_type,builtinLookup_eq_fast];kernel_rfl
theorem zjD:typeLookup (.type "list_reverseiterator") "__length_hint__"=pure (some (.builtin "list_reverseiterator.__length_hint__")):=by
 rw[typeLookup_type,builtinLookup_eq_fast];kernel_rfl
section
variable {prog:Program}{w:World}{A:Around}{E:Value→Shared→Prop}{z:Shared}{I l:Addr}{its:Array Value}
theorem zhS {acc:Array Value}(h:ItemsOf (fun i v=>its[its.size - 1 - i]? = some v) acc its.size):acc.toList=its.toList.reverse:=by
 apply yZ
 intro i
 by_cases hi:i<its.size
 ·have h1:acc[i]? = some (acc[i]'(by rw[h.1];exact hi)):=u6 (by rw[h.1];exact hi)
  have h2:=h.2 i _ h1
  rw[List.getElem?_reverse (by simpa using hi),uB,uB,xP,h2,h1]
 ·rw[xX (by rw[xP,h.1];omega),xX (by rw[vK,xP];omega)]
theorem zer {Q:List Value→Shared→Prop}(hh:A.handled=none)(hl:z.heap.IsList l its)(hi:z.heap.IsRevIter I l ((its.size:Int) - 1))(ne:l≠I)(hs:its.size≤sizeLine)
  (hQ:∀h' tk,(∀b o,b≠I→z.heap.get? b=some o→h'.get? b=some o)→Q its.toList.reverse {z with heap:=h',toks:=tk}):wpAny (model prog w) A (collect (.ref I)) Q E z:=by
 have WS:=(Walks.listRev (prog:=prog) (w:=w) (A:=A.in1) hh I l ne its).toS
 have ltI:I<z.heap.objs.size:=by obtain⟨_,e,_⟩:=id hi;exact xp e
 have ltl:l<z.heap.objs.size:=by obtain⟨_,e,_⟩:=id hl;exact xp e
 have nf:z.heap.objs.size∉[I,l]:=fun h=>by
  rcases xt.mp h with e|e
  ·exact yo ltI e
  ·exact yo ltl (xo.mp e)
 have nI:z.heap.objs.size≠I:=yo ltI
 unfold collect
 refine wpAny_bind (wpAny_runValue (codeAny_builtin F.entry_proto_collect ?_))
 rw[Around.under_plainId F.plain_proto_collect]
 refine wpAny_bind (m:=newList []) (wpAny_newObj_type (wpAny_pure ⟨plainId_quiet F.plain_list_iadd _,codeAny_builtin F.entry_list_iadd ?_⟩))
 rw[Around.under_plainId F.plain_list_iadd]
 have i1:(z.heap.push {cls:=.type "list",data:=.seq ([]:List Value).toArray}).IsRevIter I l ((its.size:Int) - 1):=hi.at fun o e=>xg _ e
 have l1:(z.heap.push {cls:=.type "list",data:=.seq ([]:List Value).toArray}).IsList l its:=hl.at fun o e=>xg _ e
 have new:(z.heap.push {cls:=.type "list",data:=.seq ([]:List Value).toArray}).get? z.heap.objs.size=some {cls:=.type "list",data:=.seq ([]:List Value).toArray}:=xF _ rfl
 have old:∀b o,z.heap.get? b=some o→(z.heap.push {cls:=.type "list",data:=.seq ([]:List Value).toArray}).get? b=some o:=fun b o e=>xg _ e
 generalize hp:z.heap.push {cls:=.type "list",data:=.seq ([]:List Value).toArray}=hp1 at *
 have st0:0≤its.size∧hp1.IsRevIter I l ((its.size:Int) - 1 - ((0:Nat):Int))∧hp1.IsList l its:=⟨xV _,by simpa using i1,l1⟩
 show wpAny _ A.in1 (Builtin.List.listExtendWith (.ref z.heap.objs.size) (.ref I) (.ref z.heap.objs.size)) _ _ _
 unfold Builtin.List.listExtendWith
 refine wpAny_bind (wpAny_typeOf (s:={z with heap:=hp1}) i1.typeIs ?_)
 have ns:Builtin.List.listSameRef (.ref z.heap.objs.size) (.ref I)=false:=by simp[Builtin.List.listSameRef,nI]
 rw[if_neg (by rw[ns];decide)]
 refine wpAny_bind (WS.self 0 {z with heap:=hp1} _ _ st0 (wpAny_bind (wpAny_holding ?_)))
 unfold Builtin.List.listLengthHint
 refine wpAny_bind (wpAny_specialOf (s:={z with heap:=hp1}) i1.typeIs zg6 ?_)
 show wpAny _ A.in1 (specialOf (Value.ref I) (Str.ofString "__length_hint__") >>= _) _ _ _
 refine wpAny_bind (wpAny_specialOf (s:={z with heap:=hp1}) i1.typeIs zjD ?_)
 generalize hd:("list_reverseiterator.__length_hint__":String)=nm
 wp_delta
 rw[show splitId nm=some ("list_reverseiterator","__length_hint__") from by subst hd;decide +kernel]
 subst hd
 refine wpAny_bind (wpAny_isInstance (s:={z with heap:=hp1}) (b:=true) i1.typeIs (by rw[isSubtype_type];kernel_rfl) (wpAny_pure ?_))
 rw[if_neg (by decide)]
 refine wpAny_pure ⟨plainId_quiet F.plain_extend_loop _,codeAny_extend_loopS WS hs _ nf _ its.size 0 {z with heap:=hp1} _ _ rfl (xV _) st0 new (ItemsOf.nil _) fun s' acc c m hS a=>?_⟩
 show wpAny _ A (load z.heap.objs.size >>= _) _ _ s'
 refine wpAny_bind (wpAny_load hS (wpAny_pure ?_))
 rw[zhS a]
 obtain⟨m1,m2,m3,m4,m5⟩:=m
 obtain⟨hp',g',d',t',o'⟩:=s'
 have e2:g'=z.gens:=m2
 have e3:d'=z.drawn:=m3
 have e4:o'=z.os:=m4
 subst e2 e3 e4
 refine hQ hp' t' fun b o hb e=>m1 b o (fun hm=>?_) (old b o e)
 rcases xt.mp hm with q|q
 ·exact xz (xp e) q
 ·exact hb (xo.mp q)
theorem Yw:∀{ts:List Str} {us:List Value},zH (ts.map V.str) us→∃l:List (Str×Tok),us=strValues l∧l.map (·.1)=ts
 | [],_,.nil=>⟨[],rfl,rfl⟩
 |t::ts,_,.cons rx r=>by
  obtain⟨k,e⟩:=(show ∃k,_=Value.str t k from rx)
  obtain⟨l,h1,h2⟩:=Yw (ts:=ts) r
  subst e
  rw[h1]
  exact⟨(t,k)::l,rfl,by rw[xW,h2]⟩
theorem zjy {x:Str}{t:Tok}{L:List (Str×Tok)}{Q:Value→Shared→Prop}(hh:A.handled=none)(hl:z.heap.IsList l (strValues L).toArray)(hi:z.heap.IsRevIter I l (((strValues L).toArray.size:Int) - 1))(ne:l≠I)(hs:(strValues L).toArray.size≤sizeLine)(ok:JoinOk x (L.map (·.1)).reverse=true)
  (hQ:∀h' t' k,(∀b o,b≠I→z.heap.get? b=some o→h'.get? b=some o)→Q (.str (Txt.join x (L.map (·.1)).reverse) t') {z with heap:=h',toks:=k}):wpAny (model prog w) A (call (.builtin "str.join") [.str x t,.ref I]) Q E z:=by
 refine wpAny_call (codeAny_call_builtin F.slot_str_join.plain F.entry_str_join (F.slot_str_join.check _ _ _ _ _ _ _ _ (typeIs_str _ _ _) (F.args_str_join_2 _ _) ?_))
 rw[join_tree_other]
 refine wpAny_bind (wpAny_typeOf hi.typeIs ?_)
 show wpAny _ A.in1 ((pyIter (.ref I)).tryCatch _ >>= fun it=>collect it >>= fun got=>joinTail x got) _ _ z
 refine wpAny_bind (wpAny_tryCatch (wpAny_pyIter_revIter hi (wpAny_bind (zer hh hl hi ne hs fun h' tk hk=>?_))))
 have er:(strValues L).toArray.toList.reverse=strValues L.reverse:=by simp[strValues]
 rw[er]
 have em:(L.reverse.map (·.1))=(L.map (·.1)).reverse:=wu
 rw[←em]at ok hQ
 unfold JoinOk at ok
 rw[yl]at ok
 have g:Gives (joinTail x (strValues L.reverse)) (joinMade x L.reverse):=by
  generalize L.reverse=M at ok
  have g0:=gives_joinTail x M ok
  cases M with
  |nil=>exact g0
  |cons a b=>cases b with
   |nil=>exact g0
   |cons _ _=>exact g0
 exact g prog w A (wants Q E) {z with heap:=h',toks:=tk} (post_join L.reverse ⟨joinFit_length ok,fun t' k=>hQ h' t' k hk⟩)
end
section
variable {X:Cx}
inductive zdy (sep:Str)(vs:List V)(H:Hp)(Q:VK):Prop
 |mk (l:Addr) (ts:List Str) (e:vs=[.ref l]) (el:H l=some (.lst (ts.map V.str))) (ok:JoinOk sep ts.reverse=true) (q:Q (.str (Txt.join sep ts.reverse)) H):zdy sep vs H Q
inductive zkf (x:V)(vs:List V)(H:Hp)(Q:VK):Prop
 |mk (sep:Str) (l:Addr) (ts:List Str) (h0:x=.str sep) (h1:vs=[.ref l]) (el:H l=some (.lst (ts.map V.str))) (ok:JoinOk sep ts=true) (q:Q (.str (Txt.join sep ts)) H):zkf x vs H Q
theorem zfJ:MtM X "str.join" zkf:=by
 intro pins s σ H x vs v us Q I rx rv h
 obtain⟨sep,l,ts,rfl,rfl,hH,ok,q⟩:=h
 obtain⟨t,rfl⟩:=(show ∃t,v=Value.str sep t from rx)
 obtain⟨u,rfl,ru⟩:=rv.one
 cases ru
 obtain⟨z,its,n,r,hl,e⟩:=I.lstM hH
 obtain⟨L,rfl,hL⟩:=Yw r
 exact SC.join (l:=L) ⟨_,e,rfl,_,rfl⟩ hL ok fun t' k=>⟨.str _,H,I.tok _,⟨_,rfl⟩,q⟩
inductive zj5 (xs:List V)(H:Hp)(Q:VK):Prop
 |int (n:Int) (e:xs=[.int n]) (h:n.natAbs.log2<1920) (q:Q (.str (Str.ofString (toString n))) H):zj5 xs H Q
 |str (x:Str) (e:xs=[.str x]) (q:Q (.str x) H):zj5 xs H Q
theorem QZ:ja X (.type "str") zj5:=by
 intro pins s σ H xs us Q I r h
 cases h with
 |int n e hn q =>
  subst e
  obtain⟨u,rfl,rx⟩:=qm r
  obtain⟨t,rfl⟩:=(show ∃t,u=Value.int n t from rx)
  exact P.str_of_int hn ⟨.str _,H,I.tok _,⟨_,rfl⟩,q⟩
 |str x e q =>
  subst e
  obtain⟨u,rfl,rx⟩:=qm r
  obtain⟨t,rfl⟩:=(show ∃t,u=Value.str x t from rx)
  exact P.str_of_str ⟨.str _,H,I,⟨_,rfl⟩,q⟩
inductive ziG (x:V)(vs:List V)(H:Hp)(Q:VK):Prop
 |mk (z:Str) (i:Int) (h0:x=.str z) (h1:vs=[.int i]) (i0:0≤i) (i1:i≤1000) (zl:z.length≤1000) (q:∀y,Q (.str y) H):ziG x vs H Q
theorem zdR:MtM X "str.zfill" ziG:=by
 intro pins s σ H x vs v us Q I rx rv h
 obtain⟨z,i,rfl,rfl,i0,i1,zl,q⟩:=h
 obtain⟨t,rfl⟩:=(show ∃t,v=Value.str z t from rx)
 obtain⟨u,rfl,ru⟩:=rv.one
 obtain⟨t',rfl⟩:=(show ∃t,u=Value.int i t from ru)
 have hl:tooLong i.toNat=false:=by
  have:i.toNat≤1000:=by omega
  unfold tooLong
  have:1000≤sizeLine:=by decide
  exact decide_eq_false (by omega)
 have hr:(decide (i < -(2^63:Int))||decide (i ≥ 2^63))=false:=by
  rw[decide_eq_false (by omega),decide_eq_false (by omega)];rfl
 refine call_gives F.slot_str_zfill (typeIs_str _ _ _) F.entry_str_zfill (F.args_str_zfill_2 _ _) (gives_str_zfill z i t t' hr hl) ?_
 by_cases hc:i≤(z.length:Int)
 ·rw[if_pos hc];exact⟨.str _,H,I,⟨_,rfl⟩,q _⟩
 ·rw[if_neg hc];exact⟨fits_zfilled hl hc,.str _,H,I.tok _,⟨_,rfl⟩,q _⟩
variable {o e:Expr}{to te:TE}{apos cpos p pos:Pos}
theorem zaN (ho:PE X o to)(he:PE X e te)(hc:X.calm=true)(hg:Gl X "reversed")(hm:X.mg "reversed"=none)
  (hbase:attributeBase o "join" X.env (eval o X.env)=eval o X.env:=by rfl)
  (hfew:((backTo cpos (starEach [.Call (.Name "reversed" p) [e] [] pos] X.env)).all (fun x=>!x.1)&&(backToKw cpos (keywordEach [] X.env)).all (fun x=>x.1.isSome)
   && decide ([Expr.Call (.Name "reversed" p) [e] [] pos].length+([]:List Keyword).length+(if ([]:List Keyword).isEmpty then 0 else 1)<30))=true:=by rfl)
  (hline:(apos.endLine==cpos.line)=true:=by rfl) (hs:ql e=true:=by rfl) :
  PE X (.Call (.Attribute o "join" apos) [.Call (.Name "reversed" p) [e] [] pos] [] cpos) (fun σ H Q=>to σ H fun x H1=>∃sep,x=.str sep∧te σ H1 fun y H2=>zdy sep [y] H2 Q):=by
 intro pins s σ H Q I h
 have hA:PA X [e] (Qf te zbV):=ac he zb hs
 refine wpAny_Call_method_late hbase hfew hline rfl (thn (ho pins s σ H _ I h) fun v s1 ⟨x,H1,I1,r1,sep,ex,q1⟩=>?_)
 subst ex
 obtain⟨h1,h2⟩:=zda (T:="str") I1 r1 rfl
 obtain⟨t,rfl⟩:=(show ∃t,v=Value.str sep t from r1)
 refine⟨"str","str.join",F.plainAttrs_str,F.slot_str_join,F.type_str_join,h1,h2,?_⟩
 have e1:starEach [Expr.Call (.Name "reversed" p) [e] [] pos] X.env=[(false,eval (.Call (.Name "reversed" p) [e] [] pos) X.env)]:=jH rfl
 rw[e1]
 refine Calls.callWith_builtin (by rfl) (Calls.evalArgs_plain ?_)
 show wpAny _ _ (spliced ((false,eval (.Call (.Name "reversed" p) [e] [] pos) X.env)::backTo cpos [])) _ _ s1
 refine Calls.spliced_cons (Call_ (JJ I1 hg hm PyProof.Rows.Boot.«reversed» (PyProof.Rows.callWith_type1 (thn (hA pos pins s1 σ H1 (fun vs H2=>zdy sep vs H2 Q) I1 q1) fun us s2 ⟨vs,H2,I2,r2,q2⟩=>?_) (jH hs) rfl)))
 obtain⟨l,ts,rfl,el,ok,q⟩:=q2
 obtain⟨u,rfl,ru⟩:=qm r2
 cases ru
 obtain⟨z,its,n,r,hl,e⟩:=I2.lstM el
 obtain⟨L,rfl,hL⟩:=Yw r
 have il:s2.heap.IsList l (strValues L).toArray:=⟨_,e,rfl,_,rfl⟩
 refine call_reversed_list il ?_
 have hlt:l<s2.heap.objs.size:=xp e
 have keep:∀b ob,s2.heap.get? b=some ob→(s2.heap.push (revObj l (((strValues L).toArray.size:Int) - 1))).get? b=some ob:=fun b ob hb=>xg _ hb
 refine Calls.spliced_nil ?_
 rw[←hL]at ok q
 refine zjy (I:=s2.heap.objs.size) (l:=l) (I2.ok.hd hc) (il.at fun ob hb=>keep _ _ hb) ⟨_,xF _ rfl,rfl,rfl⟩ (xz hlt) (by rw[xC,←hl];exact z) ok fun h' t' k hk=>⟨.str _,H2,I2.kept fun b ob hb=>hk b ob (xz (xp hb)) (keep b ob hb),⟨_,rfl⟩,q⟩
end
end L2
namespace RF
open PySem PySem.NumText L2
noncomputable def dg (m:Nat):List Nat:=(uQ 10 m).map Char.toNat
noncomputable def tx (n:Int):Str:=Str.ofString (toString n)
theorem zdS (m:Nat):(tx m).cps.toList=dg m:=PySem.W.KIN.signs_num m
theorem zhp (m:Nat):(tx (Int.negSucc m)).cps.toList=45::dg (m+1):=by
 have h:=zdS (m+1)
 unfold tx at h ⊢
 rw[PyProof.Rows.signs_ofString]at h ⊢
 have e:toString (Int.negSucc m)="-"++toString ((m+1:Nat):Int):=rfl
 rw[e,String.toList_append,xE,h]
 rfl
theorem YO (m:Nat):AllDigits (dg m):=fun c hc=>by
 obtain⟨ch,hch,e⟩:=xI.mp hc
 rw[←e]
 exact PyProof.Rows.digit_range (Nat.isDigit_of_mem_toDigits (by decide) (by decide) hch)
theorem zdD (m:Nat):1≤(dg m).length:=by
 unfold dg
 rw[xa]
 exact PyProof.Rows.tDigits_len_ge 10 m
theorem zhq {m k:Nat}(hk:1≤k)(h:m<10^k):(dg m).length≤k:=by
 unfold dg
 rw[xa]
 exact PyProof.Rows.digits10_le hk h
theorem zjj:∀d:Nat,d<10→d≠0→((uQ 10 d).map Char.toNat).head?≠some 48:=by decide
theorem zeR {m:Nat}(h:m≠0):(dg m).head?≠some 48:=by
 induction m using Nat.strongRecOn with
 |_ m ih =>
  by_cases hm:m<10
  ·exact zjj m hm h
  ·have hr:m%10<10:=Nat.mod_lt m (by decide)
   have t:uQ 10 (m/10)++uQ 10 (m%10)=uQ 10 (10*(m/10)+m%10):=Nat.toDigits_append_toDigits (by decide) (by omega) hr
   rw[Nat.div_add_mod]at t
   have e:dg m=dg (m/10)++dg (m%10):=by unfold dg;rw[←t,xE]
   have i:=ih (m/10) (by omega) (by omega)
   rw[e]
   have p:=zdD (m/10)
   cases hd:dg (m/10) with
   |nil=>rw[hd]at p;simp at p
   |cons a r=>rw[hd]at i;exact i
noncomputable def zaC:List Nat→List Nat
 | []=>[]
 |c::r=>if c=45 then r else c::r
noncomputable def dig (c:Nat):Bool:=decide (c∈("0123456789":Str).cps.toList)
noncomputable def Zx (cs:List Nat):Bool:=decide (1≤(zaC cs).length)&&decide ((zaC cs).length≤60)&&(zaC cs).all dig&&(decide ((zaC cs).head?≠some 48)||decide (cs=[48]))
theorem zfq {c:Nat}:dig c=true↔48≤c∧c≤57:=by
 unfold dig
 have e:("0123456789":Str).cps.toList=[48,49,50,51,52,53,54,55,56,57]:=by decide +kernel
 rw[e,decide_eq_true_iff]
 simp only[xt,xY,or_false]
 omega
theorem zaq {cs:List Nat}:cs.all dig=true↔AllDigits cs:=by
 rw[uF]
 exact⟨fun h c hc=>zfq.mp (h c hc),fun h c hc=>zfq.mpr (h c hc)⟩
theorem zgB {cs:List Nat}(h:AllDigits cs):zaC cs=cs:=by
 cases cs with
 |nil=>rfl
 |cons c r =>
  have:=h c xD
  show(if c=45 then r else c::r)=c::r
  rw[if_neg (by omega)]
theorem zkZ {m:Nat}(h:m<10^60):Zx (dg m)=true:=by
 unfold Zx
 rw[zgB (YO m),decide_eq_true (zdD m),decide_eq_true (zhq (by decide) h),zaq.mpr (YO m)]
 by_cases hm:m=0
 ·subst hm;decide
 ·rw[decide_eq_true (zeR hm)];rfl
theorem zkU {m:Nat}(h:m+1<10^60):Zx (45::dg (m+1))=true:=by
 unfold Zx
 have e:zaC (45::dg (m+1))=dg (m+1):=rfl
 rw[e,decide_eq_true (zdD _),decide_eq_true (zhq (by decide) h),zaq.mpr (YO _),decide_eq_true (zeR (by omega))]
 rfl
theorem zlr {n:Int}(h:n.natAbs<10^60):Zx (tx n).cps.toList=true:=by
 cases n with
 |ofNat m=>rw[show(tx (Int.ofNat m)).cps.toList=dg m from zdS m];exact zkZ h
 |negSucc m=>rw[zhp];exact zkU h
theorem zep {cs:List Nat}(h:Zx cs=true):∃ds,(cs=ds∨cs=45::ds)∧1≤ds.length∧ds.length≤60∧AllDigits ds:=by
 unfold Zx at h
 rw[yq,yq,yq]at h
 obtain⟨⟨⟨h1,h2⟩,h3⟩,_⟩:=h
 refine⟨zaC cs,?_,of_decide_eq_true h1,of_decide_eq_true h2,zaq.mp h3⟩
 cases cs with
 |nil=>exact .inl rfl
 |cons c r =>
  by_cases hc:c=45
  ·exact .inr (by show c::r=45::(if c=45 then r else c::r);rw[if_pos hc,hc])
  ·exact .inl (by show c::r=(if c=45 then r else c::r);rw[if_neg hc])
theorem zme {x:Str}(h:Zx x.cps.toList=true):(∃n,intText? x=some n)∧x.length≤61:=by
 obtain⟨ds,hd,h1,h2,h3⟩:=zep h
 have hne:ds≠[]:=fun e=>by rw[e]at h1;simp at h1
 have hl:x.length=x.cps.toList.length:=by rw[xP];rfl
 rcases hd with e|e
 ·have l61:x.length≤61:=by rw[hl,e];omega
  exact⟨⟨_,intText_digits (by rw[e];exact h3) (by rw[e];exact hne) (by omega)⟩,l61⟩
 ·have l61:x.length≤61:=by rw[hl,e,yr];omega
  exact⟨⟨_,intText_neg e h3 hne (by omega)⟩,l61⟩
theorem zhX {n:Int}(h:n.natAbs<10^60):n.natAbs.log2<1920:=by
 by_cases h0:n.natAbs=0
 ·rw[h0];decide
 ·exact(vz h0).mpr (vj h (by decide +kernel))
theorem zaK {n:Int}(h:n.natAbs<10^60):(tx n).length≤61:=(zme (zlr h)).2
theorem zkX {x y:Str}(h:x.cps.toList=y.cps.toList):x=y:=by
 cases x with|mk a=>cases y with|mk b=>exact congrArg Str.mk (Array.toList_inj.mp h)
theorem zav (x y:Str):(x++y).cps.toList=x.cps.toList++y.cps.toList:=by rw[Str.cps_append,Array.toList_append]
theorem ziK {n:Int}(h:n<0):("-":Str)++tx (-n)=tx n:=by
 apply zkX
 cases n with
 |ofNat m=>exact absurd h (by show ¬((m:Int)<0);omega)
 |negSucc m =>
  have e:-(Int.negSucc m)=((m+1:Nat):Int):=rfl
  rw[zav,zhp,e,zdS]
  rfl
inductive zcz (a:V)(H:Hp)(Q:VK)(E:XK):Prop
 |mk (n:Int) (h0:a=.int n) (hn:n.natAbs<10^60) (q:∀H',zd H H'→Q (.str (tx n)) H'):zcz a H Q E
noncomputable def zao:Sp:=Sp1 zcz
inductive zbh (a:V)(H:Hp)(Q:VK)(E:XK):Prop
 |mk (n:Int) (h0:a=.int n) (h1:0≤n) (hn:n.natAbs<10^60) (q:∀H',zd H H'→Q (.str (tx n)) H'):zbh a H Q E
noncomputable def zcd:Sp:=Sp1 zbh
theorem za2 {t:Str}(h:t.length≤1000):JoinOk "" [t].reverse=true:=by
 unfold JoinOk
 rw[yl]
 exact StrLaws.joinFits (B:=1000) (by intro y hy;have:y=t:=(by simpa using hy);rw[this];exact h) (by show 1*1000+1*0≤16777216;decide)
theorem Zc {c:Bool}{A B:Prop}(h:c=true)(a:A):if c=true then A else B:=by rw[if_pos h];exact a
theorem Jz {c:Bool}{A B:Prop}(h:c=false)(b:B):if c=true then A else B:=by rw[if_neg (by rw[h];exact xB)];exact b
inductive zad (cB cW:Addr)(a b:V)(H:Hp)(Q:VK)(E:XK):Prop
 |mk (kept spare:List Int) (l:Addr) (ns:List Int) (h0:Bas H a kept spare) (h1:b=.ref l) (h2:H l=some (.lst (ns.map V.int))) (right:∀n,js kept spare ns n→∀H',zd H H'→Q (.str (tx n)) H') (wrong:qc kept spare ns→∀H',zd H H'→E (.ref cW) none H') (bad:¬zK (kept++spare) ns→∀H',zd H H'→E (.ref cB) none H'):zad cB cW a b H Q E
noncomputable def zaS (cB cW:Addr):Sp:=Sp2 (zad cB cW)
theorem zl3 {kept spare:List Int}(g:zv kept spare){n:Int}(h:zM kept n):n.natAbs<10^60:=by
 have:=h.small g
 have e:(2:Int)^120<10^60:=by decide +kernel
 have e2:((10^60:Nat):Int)=(10:Int)^60:=by decide +kernel
 omega
end RF
namespace RF
open PySem L2
structure IsM (K:xb)(cR c0 c1 c2 c3 c4 c5 c6 c7 c8 c9:Addr)(c:Addr)(j:Nat):Prop where
 g:zai K c
 r:yL K (.ref c) (.ref cR)=some true
 v:xi K (.ref c) (.type "ValueError")=some true
 k0:xi K (.ref c) (.ref c0)=some (decide (j=0))
 k1:xi K (.ref c) (.ref c1)=some (decide (j=1))
 k2:xi K (.ref c) (.ref c2)=some (decide (j=2))
 k3:xi K (.ref c) (.ref c3)=some (decide (j=3))
 k4:xi K (.ref c) (.ref c4)=some (decide (j=4))
 k5:xi K (.ref c) (.ref c5)=some (decide (j=5))
 k6:xi K (.ref c) (.ref c6)=some (decide (j=6))
 k7:xi K (.ref c) (.ref c7)=some (decide (j=7))
 k8:xi K (.ref c) (.ref c8)=some (decide (j=8))
 k9:xi K (.ref c) (.ref c9)=some (decide (j=9))
noncomputable def Za (j:Nat):List V:=[.bl (decide (j=0)),.bl (decide (j=1)),.bl (decide (j=2)),.bl (decide (j=3)),.bl (decide (j=4)),.bl (decide (j=5)),.bl (decide (j=6)),.bl (decide (j=7)),.bl (decide (j=8)),.bl (decide (j=9))]
theorem zju (j:Nat):Za j=(xH 10).map fun i=>V.bl (decide (j=i)):=rfl
theorem zdg {j m:Nat}{z:V}(h:(Za j)[m]? = some z):z=.bl (decide (j=m)):=by
 rw[zju,xK]at h
 by_cases hm:m<10
 ·rw[yG hm]at h;exact(Option.some.inj h).symm
 ·rw[xX (by rw[xZ];omega)]at h;cases h
theorem zeA {j:Nat}(h:j<10):(Za j).countP (fun z=>eqV z (.bl true))=1:=by
 have:∀i∈xH 10,(Za i).countP (fun z=>eqV z (.bl true))=1:=by decide
 exact this j (yu.mpr h)
theorem zh6 {j:Nat}(h:j<10):∃z,(Za j)[j]? = some z∧eqV z (.bl true)=true:=by
 have hl:j<(Za j).length:=h
 refine⟨(Za j)[j],xm hl,?_⟩
 rw[zdg (xm hl),decide_eq_true rfl];rfl
theorem zjU {j m:Nat}{z:V}(h:m<j)(hz:(Za j)[m]? = some z):eqV z (.bl true)=false:=by
 rw[zdg hz,decide_eq_false (show ¬j=m by omega)];rfl
end RF
namespace L2
open PySem PySem.Spec PyProof.Rows Builtin Builtin.Str
end L2
namespace L2
open PySem PySem.Spec PyProof.Rows Builtin Builtin.ObjectAttr
section
variable {P:Program}{w:World}{K:xb}{mg:Str→Option Value}{base:Heap}{N:List Str}{qual:Str}{scope:Scope}{f:Addr}{cd:Value}{A:Around}{outer:List Env}{s s':Shared}{H H1:Hp}{E:XK}
 {pins:List (Addr×Obj)} {σ:St}
end
section
variable {M:Model}{A:Around}{E:Value→Shared→Prop}{s:Shared}{env:Env}
theorem zbH {o i:Expr}{p pos:Pos}{args:List Expr}{keywords:List Keyword}{Q:Value→Shared→Prop}
  (h:wpAny M A (eval (.Subscript o i p) env) (fun f s₁=>wpAny M A (callWith pos f [] (backTo pos (starEach args env)) (backToKw pos (keywordEach keywords env))) Q E s₁) E s) :
  wpAny M A (eval (.Call (.Subscript o i p) args keywords pos) env) Q E s:=by
 show wpAny M A (do callWith pos (←eval (.Subscript o i p) env) [] (backTo pos (starEach args env)) (backToKw pos (keywordEach keywords env))) Q E s
 exact wpAny_bind h
end
section
variable {prog:Program}{w:World}{A:Around}{E:Value→Shared→Prop}{s:Shared}{env:Env}
variable {nm q:Str}{C N:Addr}{bs bm bmB:List Value}{hdct:Bool}{sn:List Str}{sub:List Value}{ab:Bool}{col:Option Bool}{dd:Option Addr}{k0 k1 k2 k3 k5:Option Value}{B newId initId:String}
theorem zfZ (F:ExcBaseFacts B newId initId bmB){mN:Str→Option Value}{x:Str}{np cpos:Pos}{args:List Expr}{fI:Addr}{oI:Obj}{Q:Value→Shared→Prop}
  (hplain:(backTo cpos (starEach args env)).any (·.1)=false) (hi:mN "__init__"=some (.ref fI)) (hfc:oI.cls=.type "function")
  (h:wpAny (model prog w) A (eval (.Name x np) env) (fun f s₁=>f=.ref C∧wpAny (model prog w) A (evalArgs (.ref C) true (backTo cpos (starEach args env)) [])
   (fun a s₂=>a.kw=[]∧a.pos.length≤sizeLine∧s₂.heap.get? C=some (excClassObj nm q C N bs bm hdct sn sub ab col dd k0 k1 k2 k3 k5 newId)∧s₂.heap.Ns N mN∧OwnTail s₂.heap bmB bm∧s₂.heap.get? fI=some oI ∧
    wpAny (model prog w) (A.under (.builtin "type.__call__" ⟨.ref C::a.pos,[]⟩)) (call (.ref fI) (.ref (s₂.heap.objs.size+1)::a.pos))
     (fun r s'=>r=.none∧Q (.ref (s₂.heap.objs.size+1)) s') E
     {s₂ with heap:=(s₂.heap.push (zay a.pos)).push (Yy C s₂.heap.objs.size)}) E s₁) E s) :
  wpAny (model prog w) A (eval (.Call (.Name x np) args [] cpos) env) Q E s:=by
 refine wpAny_Call_ofName (wpAny_mono h (fun f s₁ h₁=>?_) fun _ _ x=>x)
 obtain⟨rfl,h₁⟩:=h₁
 unfold callWith
 refine wpAny_bind (wpAny_holding (wpAny_mono h₁ (fun a s₂ h₂=>wpAny_bind (wpAny_standAt ?_)) fun _ _ x=>x))
 obtain⟨apos,akw⟩:=a
 obtain⟨hkw,hlen,hC,hn,T,hfI,h₂⟩:=h₂
 obtain rfl:akw=[]:=hkw
 obtain⟨hp,g,d,tk,os⟩:=s₂
 simp only[hplain]
 refine wpAny_bind (wpAny_keeperOf_exc hC ?_)
 refine wpAny_bind (zbx F T hC hn hi hfI hfc hlen (wpAny_mono h₂ (fun r s' hr=>?_) fun _ _ x=>x))
 obtain⟨rfl,hQ⟩:=hr
 exact⟨rfl,wpAny_bind (wpAny_holding (wpAny_point (wpAny_pure hQ)))⟩
end
section
variable {X:Cx}
theorem zaO {o i:Expr}{p pos:Pos}{e:Expr}{es:List Expr}{tc:TE}{t:TA}{k:Nat}{E:XK}(hc:PE X (.Subscript o i p) tc)(hr:jO k X.A)(hx:Zy (CX1 X.prog X.w) X E)(ha:PA X (e::es) t)
  (he:starEach (e::es) X.env=(false,eval e X.env)::starEach es X.env:=by rfl) (hpl:(backTo pos (starEach es X.env)).any (·.1)=false:=by rfl) :
  PE X (.Call (.Subscript o i p) (e::es) [] pos) (fun σ H Q=>tc σ H fun v H1=>∃f ps k' sp,v=.ref f∧FnV X.prog X.w X.K X.mg X.base f ps k' sp∧k'≤k∧t σ H1 fun vs H2=>sp (vs++[]) H2 Q E):=by
 intro pins s σ H Q I h
 refine zbH (thn (hc pins s σ H _ I h) fun u s1 ⟨x,H1,I1,rx,f,ps,k',sp,ex,⟨fd,F,hk,hb⟩,hkk,h⟩=>?_)
 subst ex
 obtain rfl:u=Value.ref f:=rx
 refine uV (h₀:=X.base) I1.ok.mod.kin hk (thn (ha pos pins s1 σ H1 _ I1 h) fun us s2 ⟨vs,H2,I2,r,q⟩=>⟨I2.kIn,?_⟩) he hpl
 exact ziu F (hr.mono hkk) hb .nil hx I2 r q
theorem zgX {x fld:Str}{np cpos:Pos}{e₀:Expr}{t:TA}{C:Addr}{k k':Nat}(F:zdN X.prog X.w X.K X.mg X.base x C fld k')(hr:jO k X.A)
  (ha:PA X [e₀] t) (hkk:k'+1≤k:=by decide) (hg:Gl X x:=by rfl) (hdb:(x==("__debug__":Str))=false:=by decide) (hp:ql e₀=true:=by rfl) :
  PE X (.Call (.Name x np) [e₀] [] cpos) (fun σ H0 Q=>t σ H0 fun vs H1=>∃v,vs=[v]∧∀ea d,H1 ea=none→H1 d=none→d≠ea→Q (.ref ea) (upd (upd H1 d (.xd [(fld,v)])) ea (.ext (jF ea C (some d))))):=by
 intro pins s1 σ H0 Q I h
 obtain⟨fI,fd,p1,hq,hm,hfn,FI,hb⟩:=F.ex
 have he:=jH (es:=[]) (env:=X.env) hp
 obtain⟨tl,N',nm,q,bs,hdct,sn,sub,ab,col,dd,k0,k1,k2,k3,k5,mN,hC,hN,hi,T⟩:=zj1 I.ok.mod.kin hq
 obtain⟨oI,hoI,hfc⟩:=zl9 I.ok.mod.kin hfn
 refine zfZ (C:=C) (nm:=nm) (q:=q) (N:=N') (bs:=bs) (bm:=tl) (hdct:=hdct) (sn:=sn) (sub:=sub) (ab:=ab) (col:=col) (dd:=dd) (k0:=k0) (k1:=k1) (k2:=k2) (k3:=k3) (k5:=k5)
  uf (mN:=mN) (fI:=fI) (oI:=oI) (by rw[he];rfl) hi hfc (Zo I hg hm ⟨rfl,?_⟩ hdb)
 have hs:=ha cpos pins s1 σ H0 _ I h
 rw[he]at hs ⊢
 refine Calls.evalArgs_plain (wpAny_mono hs (fun us s2 h2=>?_) fun _ _ y=>y)
 obtain⟨vs,H2,I2,r,v,rfl,hE⟩:=h2
 obtain⟨u,rfl,ru⟩:=qm r
 refine⟨rfl,(by show 1≤sizeLine;decide),I2.bk _ _ hC,hN.keeps I2.bk,T.keeps I2.bk,I2.bk _ _ hoI,?_⟩
 generalize hea:s2.heap.objs.size+1=ea
 have kp:∀b o,s2.heap.get? b=some o→((s2.heap.push (zay [u])).push (Yy C s2.heap.objs.size)).get? b=some o:=fun b o z=>xg _ (xg _ z)
 have e1:((s2.heap.push (zay [u])).push (Yy C s2.heap.objs.size)).get? ea=some (Yy C s2.heap.objs.size):=by
  have:=xF (s2.heap.push (zay [u])) (o:=Yy C s2.heap.objs.size) rfl
  rw[yi,hea]at this;exact this
 have hle:s2.heap.objs.size≤ea:=by rw[←hea];exact wj _
 have fr:H2 ea=none:=I2.hok.fresh hle
 have I3:Inv X pins σ (upd H2 ea (.ext (Zp ea C))) {s2 with heap:=(s2.heap.push (zay [u])).push (Yy C s2.heap.objs.size),toks:=s2.toks} :=
  I2.laid kp hle ⟨⟨_,_,_,e1,rfl,rfl,rfl,rfl,rfl,(by show 4<6;decide)⟩,⟨_,e1⟩,zgS⟩
 have hsp:zbg C fld [.ref ea,v] (upd H2 ea (.ext (Zp ea C))) (fun v' H'=>v'=.non∧∃d,H2 d=none∧d≠ea∧H'=upd (upd (upd H2 ea (.ext (Zp ea C))) d (.xd [(fld,v)])) ea (.ext (ZO ea C d))) E0 :=
  ⟨_,_,rfl,ea,rfl,zc,fun d hd=>by
   have ne:d≠ea:=by rintro rfl;rw[zc]at hd;cases hd
   rw[zC ne]at hd
   exact⟨rfl,d,hd,ne,rfl⟩⟩
 refine wpAny_call (codeAny_mono (FI.run _ X.stack _ _ ⟨[.ref ea,u],[]⟩ [.ref ea,u] _ _ E0 ((hr.mono hkk).make C [u] []) (I3.env0.make C [u] []) (hb _ [.ref ea,u] I3.kIn rfl) (show zH [V.ref ea,v] [Value.ref ea,u] from .cons rfl (.cons ru .nil)) hsp) fun r s' hq'=>?_)
 cases r with
 |error e =>
  obtain⟨_,_,_,_,_,_,_,_,_,_,z⟩:=(show CX1 X.prog X.w _ _ _ E0 e s' from hq')
  exact z.elim
 |ok fl =>
  cases fl with
  |ret u' =>
   obtain⟨v',H',I4,rv,rfl,d,hd0,hdne,rfl⟩:=I3.after hq'
   have hu':u'=Value.none:=rv
   subst hu'
   obtain⟨⟨oe,vs',a0,he',hc',hd',hdat',h0',h1',_⟩,_⟩:=(show jU X.prog X.w _ s'.heap ea (.ext (ZO ea C d)) from I4.hok ea _ zc)
   have I5:Inv X pins σ (upd (upd (upd (upd H2 ea (.ext (Zp ea C))) d (.xd [(fld,v)])) ea (.ext (ZO ea C d))) ea (.ext (jF ea C (some d)))) {s' with heap:=s'.heap,toks:=s'.toks} :=
    I4.write (x:=ea) (e:=ea) (h':=s'.heap) (t':=s'.toks) (by rw[zc];exact True.intro) (.inl rfl) (fun b o hb q=>q) ⟨_,he'⟩ ⟨⟨oe,vs',he',⟨hc',⟨fun a za=>by cases za;exact hd',fun n=>nomatch n⟩⟩,hdat'⟩,⟨_,he'⟩,zbj⟩
   have eH:upd (upd (upd (upd H2 ea (.ext (Zp ea C))) d (.xd [(fld,v)])) ea (.ext (ZO ea C d))) ea (.ext (jF ea C (some d)))=upd (upd H2 d (.xd [(fld,v)])) ea (.ext (jF ea C (some d))):=by
    funext b
    unfold upd
    by_cases hb:b=ea
    ·rw[if_pos hb,if_pos hb]
    ·simp only[if_neg hb]
   rw[eH]at I5
   exact⟨rfl,.ref ea,_,I5,rfl,hE ea d fr hd0 hdne⟩
  |next=>exact False.elim hq'
  |brk=>exact False.elim hq'
  |cont=>exact False.elim hq'
end
end L2
namespace RF
open PySem L2
noncomputable def WC (cT cB cW cD cP cA cU:Addr)(w:Str)(c:Addr):Prop:=(w="figure"∧c=cB)∨(w="wrong"∧c=cW)∨(w="great"∧c=cT)∨(w="divisor"∧c=cD)∨(w="place"∧c=cP)∨(w="base"∧c=cA)∨(w="unlike"∧c=cU)
section
variable {cT cB cW cD cP cA cU c:Addr}
theorem J1:WC cT cB cW cD cP cA cU "figure" cB:=.inl ⟨rfl,rfl⟩
theorem Jd:WC cT cB cW cD cP cA cU "wrong" cW:=.inr (.inl ⟨rfl,rfl⟩)
theorem Zh:WC cT cB cW cD cP cA cU "great" cT:=.inr (.inr (.inl ⟨rfl,rfl⟩))
theorem zln:WC cT cB cW cD cP cA cU "divisor" cD:=.inr (.inr (.inr (.inl ⟨rfl,rfl⟩)))
theorem zdf:WC cT cB cW cD cP cA cU "place" cP:=.inr (.inr (.inr (.inr (.inl ⟨rfl,rfl⟩))))
theorem zin:WC cT cB cW cD cP cA cU "base" cA:=.inr (.inr (.inr (.inr (.inr (.inl ⟨rfl,rfl⟩)))))
theorem zgW:WC cT cB cW cD cP cA cU "unlike" cU:=.inr (.inr (.inr (.inr (.inr (.inr ⟨rfl,rfl⟩)))))
theorem WC.isfig (h:WC cT cB cW cD cP cA cU "figure" c):c=cB:=by
 rcases h with⟨_,e⟩|⟨z,_⟩|⟨z,_⟩|⟨z,_⟩|⟨z,_⟩|⟨z,_⟩|⟨z,_⟩<;>first|exact e|exact absurd z (by decide)
theorem WC.iswrong (h:WC cT cB cW cD cP cA cU "wrong" c):c=cW:=by
 rcases h with⟨z,_⟩|⟨_,e⟩|⟨z,_⟩|⟨z,_⟩|⟨z,_⟩|⟨z,_⟩|⟨z,_⟩<;>first|exact e|exact absurd z (by decide)
theorem WC.isgreat (h:WC cT cB cW cD cP cA cU "great" c):c=cT:=by
 rcases h with⟨z,_⟩|⟨z,_⟩|⟨_,e⟩|⟨z,_⟩|⟨z,_⟩|⟨z,_⟩|⟨z,_⟩<;>first|exact e|exact absurd z (by decide)
theorem WC.nil (h:WC cT cB cW cD cP cA cU "" c):False:=by
 rcases h with⟨z,_⟩|⟨z,_⟩|⟨z,_⟩|⟨z,_⟩|⟨z,_⟩|⟨z,_⟩|⟨z,_⟩<;>exact absurd z (by decide)
structure Ct (cT cB cW:Addr)(gr:Bool)(ws:List Str)(H:Hp)(Q:VK)(E:XK):Prop where
 bad:("figure":Str)∈ws→∀H',zd H H'→E (.ref cB) none H'
 wr:("figure":Str)∉ws→("wrong":Str)∈ws→∀H',zd H H'→E (.ref cW) none H'
 ok:("figure":Str)∉ws→("wrong":Str)∉ws→∀v H',zd H H'→Q v H'
 gt:gr=true→("figure":Str)∉ws→("wrong":Str)∉ws→∀H',zd H H'→E (.ref cT) none H'
structure Ca (cB:Addr)(w:Str)(H:Hp)(Q:VK)(E:XK):Prop where
 bad:w="figure"→∀H',zd H H'→E (.ref cB) none H'
 ok:w≠"figure"→∀v H',zd H H'→Q v H'
variable {gr:Bool}{ws:List Str}{H:Hp}{Q:VK}{E:XK}{kept spare ns:List Int}{n x:Int}{w:Str}{a b:V}{l:Addr}
theorem Ct.up {G:Hp}(C:Ct cT cB cW gr ws H Q E)(S:zd H G):Ct cT cB cW gr ws G Q E:=⟨fun a H' S'=>C.bad a H' (S.trans S'),fun a b H' S'=>C.wr a b H' (S.trans S'),fun a b v H' S'=>C.ok a b v H' (S.trans S'),fun g a b H' S'=>C.gt g a b H' (S.trans S')⟩
theorem Ct.due (C:Ct cT cB cW true ws H Q E)(h:jj kept spare x ws=(w,[]))(hc:WC cT cB cW cD cP cA cU w c):∀H',zd H H'→E (.ref c) none H':=by
 unfold jj at h
 by_cases h1:("figure":Str)∈ws
 ·rw[if_pos h1]at h
  have e:=(Prod.mk.inj h).1
  subst e
  rw[hc.isfig];exact C.bad h1
 rw[if_neg h1]at h
 by_cases h2:("wrong":Str)∈ws
 ·rw[if_pos h2]at h
  have e:=(Prod.mk.inj h).1
  subst e
  rw[hc.iswrong];exact C.wr h1 h2
 rw[if_neg h2]at h
 by_cases h3:zM kept x
 ·rw[if_pos h3]at h
  have e:=(Prod.mk.inj h).1
  subst e
  exact hc.nil.elim
 ·rw[if_neg h3]at h
  have e:=(Prod.mk.inj h).1
  subst e
  rw[hc.isgreat];exact C.gt rfl h1 h2
theorem YJ {r:List Int}(h:jj kept spare x ws=(("":Str),r)):("figure":Str)∉ws∧("wrong":Str)∉ws:=by
 unfold jj at h
 by_cases h1:("figure":Str)∈ws
 ·rw[if_pos h1]at h
  exact absurd (Prod.mk.inj h).1 (by decide)
 rw[if_neg h1]at h
 by_cases h2:("wrong":Str)∈ws
 ·rw[if_pos h2]at h
  exact absurd (Prod.mk.inj h).1 (by decide)
 exact⟨h1,h2⟩
theorem zmr:("figure":Str)∉[("":Str)]:=by decide
theorem zk2:("wrong":Str)∉[("":Str)]:=by decide
theorem Ct.good (C:Ct cT cB cW gr [w] H Q E)(h:w=""):∀v H',zd H H'→Q v H':=by
 subst h;exact C.ok zmr zk2
theorem Ct.word (C:Ct cT cB cW gr [w] H Q E)(F:ji H b kept spare n w)(hw:w≠"")(hc:WC cT cB cW cD cP cA cU w c):∀H',zd H H'→E (.ref c) none H':=by
 obtain⟨l,ns,_,_,_,_,F⟩:=F
 rcases zcU F with h|h|h
 ·exact absurd h hw
 ·subst h;rw[hc.isfig];exact C.bad (.head _)
 ·subst h;rw[hc.iswrong];exact C.wr (by decide) (.head _)
inductive zfn (cT cB cW:Addr)(gr:Bool)(a b:V)(H:Hp)(Q:VK)(E:XK):Prop
 |mk (kept spare:List Int) (n:Int) (w:Str) (B:Bas H a kept spare) (F:ji H b kept spare n w) (C:Ct cT cB cW gr [w] H Q E):zfn cT cB cW gr a b H Q E
noncomputable def JI (cT cB cW:Addr)(gr:Bool):Sp:=Sp2 (zfn cT cB cW gr)
inductive zeS (cB:Addr)(a b:V)(H:Hp)(Q:VK)(E:XK):Prop
 |mk (kept spare:List Int) (n:Int) (w:Str) (B:Bas H a kept spare) (F:ji H b kept spare n w) (r60:∀(l:Addr) (ns:List Int),b=.ref l→H l=some (.lst (ns.map V.int))→∀n∈ns,n.natAbs<10^60) (C:Ca cB w H Q E):zeS cB a b H Q E
noncomputable def QC (cB:Addr):Sp:=Sp2 (zeS cB)
inductive zfc (cT cB cW:Addr)(gr:Bool)(a b c:V)(H:Hp)(Q:VK)(E:XK):Prop
 |mk (kept spare:List Int) (n1 n2:Int) (w1 w2:Str) (B:Bas H a kept spare) (F1:ji H b kept spare n1 w1) (F2:ji H c kept spare n2 w2) (C:Ct cT cB cW gr [w1,w2] H Q E):zfc cT cB cW gr a b c H Q E
noncomputable def QB (cT cB cW:Addr)(gr:Bool):Sp:=Sp3 (zfc cT cB cW gr)
inductive zeV (cT cB cW:Addr)(z:Int)(a b c:V)(H:Hp)(Q:VK)(E:XK):Prop
 |mk (kept spare:List Int) (n:Int) (w:Str) (hz:1≤z) (hz2:z<2^240) (B:Bas H a kept spare) (F:ji H b kept spare n w) (h:c=.int z) (C:Ct cT cB cW false [w] H Q E):zeV cT cB cW z a b c H Q E
noncomputable def zbp (cT cB cW:Addr)(z:Int):Sp:=Sp3 (zeV cT cB cW z)
theorem zfF (C:Ct cT cB cW false [w] H Q E){bb:Int}{w':Str}(hb:1≤bb)(F:ji H b kept spare n w)(h:QQ kept spare 0 n bb w=(w',[]))(hc:WC cT cB cW cD cP cA cU w' c):∀H',zd H H'→E (.ref c) none H':=by
 unfold QQ at h
 by_cases hw:w≠""
 ·rw[if_pos hw]at h
  have e:=(Prod.mk.inj h).1
  subst e
  exact C.word F hw hc
 ·rw[if_neg hw,if_neg (by omega),if_pos rfl]at h
  have e:=(Prod.mk.inj h).1
  subst e
  exact hc.nil.elim
theorem zax {g:Int→Int→Int}:∀vs H Q E,QB cT cB cW true vs H Q E→QJ (WC cT cB cW cD cP cA cU) g vs H Q E:=by
 intro vs H Q E h
 obtain⟨_,_,_,rfl,kept,spare,n1,n2,w1,w2,B,F1,F2,C⟩:=h
 exact⟨_,_,_,rfl,kept,spare,n1,n2,w1,w2,B,F1,F2,fun e l H' S _ _=>C.ok (YJ e).1 (YJ e).2 _ H' S,fun w c h hc=>C.due h hc⟩
theorem zjf {g:Int→Int}:∀vs H Q E,JI cT cB cW true vs H Q E→zdm (WC cT cB cW cD cP cA cU) g vs H Q E:=by
 intro vs H Q E h
 obtain⟨_,_,rfl,kept,spare,n1,w1,B,F1,C⟩:=h
 exact⟨_,_,rfl,kept,spare,n1,w1,B,F1,fun e l H' S _ _=>C.ok (YJ e).1 (YJ e).2 _ H' S,fun w c h hc=>C.due h hc⟩
theorem zk9 {z:Int}:∀vs H Q E,zbp cT cB cW z vs H Q E→Y8 (WC cT cB cW cD cP cA cU) vs H Q E:=by
 intro vs H Q E h
 obtain⟨_,_,_,rfl,kept,spare,n,w,hz,hz2,B,F,rfl,C⟩:=h
 exact⟨_,_,_,rfl,kept,spare,n,z,w,B,F,rfl,hz2,fun hw _ l H' S _ _=>C.good hw _ H' S,fun w' c h hc=>zfF C hz F h hc⟩
theorem zkQ {z:Int}:∀vs H Q E,zbp cT cB cW z vs H Q E→zfy (WC cT cB cW cD cP cA cU) vs H Q E:=by
 intro vs H Q E h
 obtain⟨_,_,_,rfl,kept,spare,n,w,hz,hz2,B,F,rfl,C⟩:=h
 exact⟨_,_,_,rfl,kept,spare,n,z,w,B,F,rfl,fun hw _ H' S=>C.good hw _ H' S,fun w' c h hc=>zfF C hz F h hc⟩
theorem zll:∀vs H Q E,JI cT cB cW false vs H Q E→zR cB cW vs H Q E:=by
 intro vs H Q E h
 obtain⟨_,_,rfl,kept,spare,n,w,B,⟨l,ns,rfl,el,_,hf,F⟩,C⟩:=h
 exact QV B el hf F (fun hw H1 S1=>C.good hw _ H1 S1) (fun hw H1 S1=>C.bad (by rw[hw];exact .head _) H1 S1) (fun hw H1 S1=>C.wr (by rw[hw];decide) (by rw[hw];exact .head _) H1 S1)
theorem zh8 {Q0:VK}(C:Ct cT cB cW gr [w] H Q0 E)(B:Bas H a kept spare)(el:H l=some (.lst (ns.map V.int)))(hf:zM kept n)(F:Jp kept spare n ns w)(right:w=""→∀H',zd H H'→Q (.int n) H'):zR cB cW [a,.ref l] H Q E :=
 QV B el hf F right (fun hw H1 S1=>C.bad (by rw[hw];exact .head _) H1 S1) (fun hw H1 S1=>C.wr (by rw[hw];decide) (by rw[hw];exact .head _) H1 S1)
theorem zlY:∀vs H Q E,ZR cB cW vs H Q E→QI cB cW vs H Q E:=by
 intro vs H Q E h
 obtain⟨_,_,rfl,kept,spare,lf,l1,l2,ns1,ns2,B,rfl,ef,e1,e2,q⟩:=h
 refine⟨_,_,rfl,kept,spare,[l1,l2],[ns1,ns2],B,⟨lf,rfl,ef,.cons e1 (.cons e2 .nil)⟩,(by show 2<sizeLine;decide),?_⟩
 rcases q with⟨n1,n2,r1,r2,q⟩|⟨hv,e⟩|⟨v1,v2,hw,e⟩
 ·refine .inl ⟨[n1,n2],by rw[r1.1,r2.1];rfl,fun n hn=>?_,q⟩
  rcases xt.mp hn with rfl|hn
  ·exact r1.2
  ·rw[xo.mp hn];exact r2.2
 ·refine .inr (.inl ⟨?_,e⟩)
  rcases hv with h|h
  ·exact⟨ns1,.head _,h⟩
  ·exact⟨ns2,.tail _ (.head _),h⟩
 ·refine .inr (.inr ⟨fun f hf=>?_,?_,e⟩)
  ·rcases xt.mp hf with rfl|hf
   ·exact v1
   ·rw[xo.mp hf];exact v2
  ·rcases hw with h|h
   ·exact⟨ns1,.head _,h⟩
   ·exact⟨ns2,.tail _ (.head _),h⟩
theorem Jp.right {n m:Int}(g:zv kept spare)(F:Jp kept spare n ns w)(h:js kept spare ns m):w="":=by
 rcases F with⟨h',_⟩|⟨_,h'⟩|⟨_,h'⟩
 ·exact h'
 ·exact absurd (h.valid g) h'
 ·exact(h.notWrong h').elim
theorem Jp.wrongW {n:Int}(g:zv kept spare)(F:Jp kept spare n ns w)(hf:zM kept n)(h:qc kept spare ns):w="wrong":=by
 rcases F with⟨_,h'⟩|⟨_,h'⟩|⟨h',_⟩
 ·exact(js.notWrong ⟨h',hf⟩ h).elim
 ·exact absurd h.1 h'
 ·exact h'
theorem Jp.badW {n:Int}(g:zv kept spare)(F:Jp kept spare n ns w)(hf:zM kept n)(h:¬zK (kept++spare) ns):w="figure":=by
 rcases F with⟨_,h'⟩|⟨h',_⟩|⟨_,h'⟩
 ·exact absurd (js.valid g (n:=n) ⟨h',hf⟩) h
 ·exact h'
 ·exact absurd h'.1 h
theorem Jp.notBad {n:Int}(F:Jp kept spare n ns w)(h:zK (kept++spare) ns):w≠"figure":=fun e=>by
 rcases F with⟨h',_⟩|⟨_,h'⟩|⟨h',_⟩
 ·rw[e]at h';exact absurd h' (by decide)
 ·exact h' h
 ·rw[e]at h';exact absurd h' (by decide)
theorem zgl:∀vs H Q E,JI cT cB cW false vs H Q E→zaS cB cW vs H Q E:=by
 intro vs H Q E h
 obtain⟨_,_,rfl,kept,spare,n,w,B,⟨l,ns,rfl,el,_,hf,F⟩,C⟩:=h
 exact⟨_,_,rfl,kept,spare,l,ns,B,rfl,el,fun m hm H' S=>C.good (F.right B.2 hm) _ H' S,fun hw H' S=>C.wr (by rw[F.wrongW B.2 hf hw];decide) (by rw[F.wrongW B.2 hf hw];exact .head _) H' S,fun hb H' S=>C.bad (by rw[F.badW B.2 hf hb];exact .head _) H' S⟩
theorem zj7:∀vs H Q E,QC cB vs H Q E→Qt cB vs H Q E:=by
 intro vs H Q E h
 obtain⟨_,_,rfl,kept,spare,n,w,B,⟨l,ns,rfl,el,_,hf,F⟩,_,C⟩:=h
 exact⟨_,_,rfl,kept,spare,l,ns,B,rfl,el,fun hv v H' _ S=>C.ok (F.notBad hv) _ H' S,fun hb H' S=>C.bad (F.badW B.2 hf hb) H' S⟩
theorem zhQ:∀vs H Q E,QC cB vs H Q E→za5 cB vs H Q E:=by
 intro vs H Q E h
 obtain⟨_,_,rfl,kept,spare,n,w,B,⟨l,ns,rfl,el,_,hf,F⟩,_,C⟩:=h
 exact⟨_,_,rfl,kept,spare,l,ns,B,rfl,el,fun hv t lu w' nv us H' S _ _ _ _=>C.ok (F.notBad hv) _ H' S,fun hb H' S=>C.bad (F.badW B.2 hf hb) H' S⟩
inductive zfm (cT cB cW:Addr)(a b c:V)(H:Hp)(Q:VK)(E:XK):Prop
 |mk (kept spare:List Int) (n:Int) (w:Str) (lp:Addr) (B:Bas H a kept spare) (F:ji H b kept spare n w) (h:c=.ref lp) (e:H lp=some (.lst [.int 0])) (C:Ct cT cB cW false [w] H Q E):zfm cT cB cW a b c H Q E
noncomputable def zhc (cT cB cW:Addr):Sp:=Sp3 (zfm cT cB cW)
theorem zie:∀vs H Q E,zhc cT cB cW vs H Q E→zcc (WC cT cB cW cD cP cA cU) vs H Q E:=by
 intro vs H Q E h
 obtain⟨_,_,_,rfl,kept,spare,n,w,lp,B,F,rfl,e,C⟩:=h
 have k1:=B.2.k1
 have ok:Ja [0] (kept.length:Int):=⟨fun p hp=>by rw[xo.mp hp];omega,by decide⟩
 refine⟨_,_,_,rfl,kept,spare,n,w,lp,[0],B,F,rfl,e,by decide,fun hw _ l H' S _ _=>C.good hw _ H' S,fun w' c h hc=>?_⟩
 by_cases hw:w=""
 ·rw[zky hw ok]at h
  have e:=(Prod.mk.inj h).1
  subst e
  exact hc.nil.elim
 ·rw[zaF hw]at h
  have e:=(Prod.mk.inj h).1
  subst e
  exact C.word F hw hc
theorem Mov.nil' {k s:List Int}{fa y:Str}(h:Mov k s n w fa y)(hx:y=""):w="":=by
 cases h with
 |word h=>exact absurd hx h
 |fault h _=>exact h
 |base h _ _=>exact h
 |great h _ _ _=>exact h
 |ok h _ _ _=>exact h
theorem Mov.nil {k s:List Int}{fa:Str}(h:Mov k s n w fa ""):w="":=h.nil' rfl
theorem Mov.ct {b:V}{kk ss:List Int}{x:Str}(C:Ct cT cB cW false [w] H Q E)(F:ji H b kk ss n w)(g:zv kept spare)(hf:zM kept n)(h:Mov kept spare n w "" x)(hx:x≠"")(hc:WC cT cB cW cD cP cA cU x c):∀H',zd H H'→E (.ref c) none H':=by
 cases h with
 |word h=>exact C.word F h hc
 |fault _ h=>exact absurd rfl h
 |base _ _ h=>exact absurd g h
 |great _ _ _ h=>exact absurd hf h
 |ok _ _ _ _=>exact absurd rfl hx
inductive zfg (cT cB cW:Addr)(a b c d:V)(H:Hp)(Q:VK)(E:XK):Prop
 |mk (kept spare:List Int) (n:Int) (w:Str) (lk ls:Addr) (B:Bas H a kept spare) (F:ji H b kept spare n w) (h:c=.ref lk) (e:H lk=some (.lst [])) (h':d=.ref ls) (e':H ls=some (.lst [])) (C:Ct cT cB cW false [w] H Q E):zfg cT cB cW a b c d H Q E
noncomputable def zhb (cT cB cW:Addr):Sp:=Sp4 (zfg cT cB cW)
theorem zlX:∀vs H Q E,zhb cT cB cW vs H Q E→zfH (WC cT cB cW cD cP cA cU) vs H Q E:=by
 intro vs H Q E h
 obtain⟨_,_,_,_,rfl,kept,spare,n,w,lk,ls,B,F,rfl,e,rfl,e',C⟩:=h
 have hf:zM kept n:=by obtain⟨_,_,_,_,_,hf,_⟩:=F;exact hf
 refine⟨_,_,_,_,rfl,kept,spare,[],[],n,w,lk,ls,B,F,rfl,e,rfl,e',by decide,by decide,fun v H' S m _=>C.good m.nil v H' S,fun x c m hx hc=>?_⟩
 rw[yA,yA]at m
 exact m.ct C F B.2 hf hx hc
theorem zhL (k s:List Int):JK (k++s) 0 k.length []=k:=by
 unfold JK
 have ef:(xH k.length).filter (fun i:Nat=>!decide ((0+i:Int)∈([]:List Int)))=xH k.length:=vQ.mpr (fun i _=>by simp)
 rw[ef]
 apply yZ
 intro i
 rw[xK]
 by_cases hi:i<k.length
 ·rw[yG hi,xm hi]
  show some ((k++s).getD ((0:Int)+(i:Nat)).toNat 0)=_
  rw[show((0:Int)+(i:Nat)).toNat=i by omega,xA,yt hi,xm hi]
  rfl
 ·rw[xX (by rw[xZ];omega),xX (by omega)]
  rfl
theorem zhe (k s:List Int):JK (k++s) (k.length:Int) s.length []=s:=by
 unfold JK
 have ef:(xH s.length).filter (fun i:Nat=>!decide (((k.length:Int)+i:Int)∈([]:List Int)))=xH s.length:=vQ.mpr (fun i _=>by simp)
 rw[ef]
 apply yZ
 intro i
 rw[xK]
 by_cases hi:i<s.length
 ·rw[yG hi,xm hi]
  show some ((k++s).getD ((k.length:Int)+(i:Nat)).toNat 0)=_
  rw[show((k.length:Int)+(i:Nat)).toNat=k.length+i by omega,xA,ue (by omega),Nat.add_sub_cancel_left,xm hi]
  rfl
 ·rw[xX (by rw[xZ];omega),xX (by omega)]
  rfl
inductive zeY (cT cB cW:Addr)(a b c:V)(H:Hp)(Q:VK)(E:XK):Prop
 |mk (kept spare:List Int) (n:Int) (w:Str) (lp:Addr) (B:Bas H a kept spare) (F:ji H b kept spare n w) (h:c=.ref lp) (e:H lp=some (.lst [])) (C:Ct cT cB cW false [w] H Q E):zeY cT cB cW a b c H Q E
noncomputable def zhY (cT cB cW:Addr):Sp:=Sp3 (zeY cT cB cW)
theorem zlp:∀vs H Q E,zhY cT cB cW vs H Q E→zb2 (WC cT cB cW cD cP cA cU) vs H Q E:=by
 intro vs H Q E h
 obtain⟨_,_,_,rfl,kept,spare,n,w,lp,B,F,rfl,e,C⟩:=h
 have hf:zM kept n:=by obtain⟨_,_,_,_,_,hf,_⟩:=F;exact hf
 exact⟨_,_,_,rfl,kept,spare,kept,spare,n,w,"",lp,[],B,F,rfl,e,by decide,zhL _ _,zhe _ _,.inl ⟨rfl,⟨fun p hp=>absurd hp xY,ua⟩⟩,fun v H' S m _=>C.good m.nil v H' S,fun x c m hx hc=>m.ct C F B.2 hf hx hc⟩
theorem zfv {n:Int}(hf:zM kept n)(h:Jp kept spare n ns w):zdr kept spare [n] [ns] w:=by
 have hr:∀m∈[n],zM kept m:=fun m hm=>by rw[xo.mp hm];exact hf
 refine⟨rfl,hr,?_⟩
 rcases h with⟨e,h⟩|⟨e,h⟩|⟨e,h⟩
 ·exact .inl ⟨e,by rw[h];rfl⟩
 ·exact .inr (.inl ⟨e,ns,xo.mpr rfl,h⟩)
 ·exact .inr (.inr ⟨e,fun f hf=>by rw[xo.mp hf];exact h.1,ns,xo.mpr rfl,h⟩)
inductive zfj (cT cB cW:Addr)(a b c:V)(H:Hp)(Q:VK)(E:XK):Prop
 |mk (kept spare:List Int) (n1 n2:Int) (w1 w2:Str) (r1 r2 l1 l2:Addr) (B:Bas H a kept spare) (F1:ji H (.ref l1) kept spare n1 w1) (F2:ji H (.ref l2) kept spare n2 w2) (h1:b=.ref r1) (h2:c=.ref r2) (e1:H r1=some (.lst [.ref l1])) (e2:H r2=some (.lst [.ref l2])) (C:Ct cT cB cW true [w1,w2] H Q E):zfj cT cB cW a b c H Q E
noncomputable def zhs (cT cB cW:Addr):Sp:=Sp3 (zfj cT cB cW)
theorem zmb:∀vs H Q E,zhs cT cB cW vs H Q E→zaT (WC cT cB cW cD cP cA cU) vs H Q E:=by
 intro vs H Q E h
 obtain⟨_,_,_,rfl,kept,spare,n1,n2,w1,w2,r1,r2,l1,l2,B,⟨_,ns1,e3,g1,_,f1,F1⟩,⟨_,ns2,e4,g2,_,f2,F2⟩,rfl,rfl,e1,e2,C⟩:=h
 cases e3;cases e4
 refine⟨_,_,_,rfl,kept,spare,[l1],[l2],[ns1],[ns2],jj kept spare (dot [n1] [n2]) [w1,w2],B,⟨r1,rfl,e1,.cons g1 .nil⟩,⟨r2,rfl,e2,.cons g2 .nil⟩,(by show 1≤61;decide),(by show 1≤61;decide),.inr ⟨rfl,[n1],[n2],w1,w2,zfv f1 F1,zfv f2 F2,rfl⟩,fun e l H' S _ _=>?_,fun w c h hc=>C.due h hc⟩
 have:=YJ (r:=(jj kept spare (dot [n1] [n2]) [w1,w2]).2) (kept:=kept) (spare:=spare) (x:=dot [n1] [n2]) (ws:=[w1,w2]) (by rw[←e])
 exact C.ok this.1 this.2 _ H' S
end
theorem zhw:∀k:Nat,k<1000→2≤k→999983%k≠0:=by decide +kernel
theorem zmF {d:Int}(h2:2≤d)(hd:d<999983):Cop d 999983:=by
 unfold Cop
 have h1:Int.gcd d 999983∣999983:=by
  have:=Int.gcd_dvd_right d 999983
  exact Int.natCast_dvd_natCast.mp (by simpa using this)
 have h3:Int.gcd d 999983∣d.natAbs:=Int.gcd_dvd_natAbs_left d 999983
 generalize Int.gcd d 999983=g at *
 obtain⟨m,hm⟩:=h1
 have gl:g≤d.natAbs:=Nat.le_of_dvd (by omega) h3
 have gp:g≠0:=by rintro rfl;simp at hm
 by_cases hg:g=1
 ·exact hg
 exfalso
 have m2:2≤m:=by
  rcases m with _|_|m
  ·simp at hm
  ·simp at hm;omega
  ·omega
 by_cases hs:g<1000
 ·exact zhw g hs (by omega) (by rw[hm];exact Nat.mul_mod_right g m)
 ·have hs2:m<1000:=by
   rcases yy m 1000 with h|h
   ·exact h
   ·have:1000*1000≤g*m:=wE (by omega) h
    omega
  exact zhw m hs2 m2 (by rw[hm];exact Nat.mul_mod_left g m)
theorem zi3 {d:Int}(h2:2≤d)(hd:d<999983):zv [d] [999983] where
 k1:=by show 1≤1;decide
 k6:=by show 1≤6;decide
 s4:=by show 1≤4;decide
 rng:=fun x hx=>by
  rcases xt.mp hx with rfl|hx
  ·omega
  ·rw[xo.mp hx];decide
 cop:=yV.mpr ⟨fun x hx=>by rw[xo.mp hx];exact zmF h2 hd,vk _ _⟩
 lt:=fun k hk s hs=>by rw[xo.mp hk,xo.mp hs];exact hd
theorem zjs:zv [2] [3] where
 k1:=by decide
 k6:=by decide
 s4:=by decide
 rng:=by decide
 cop:=by decide
 lt:=by decide
theorem zeb:∀{l:List Int},l.Pairwise Cop→∀{x y:Int},x∈l→y∈l→x≠y→Cop x y
 | [],_,_,_,h,_,_=>absurd h xY
 |a::r,hp,x,y,hx,hy,hne=>by
  obtain⟨h1,h2⟩:=yV.mp hp
  rcases xt.mp hx with e|hx'
  ·rcases xt.mp hy with e'|hy'
   ·exact absurd (e.trans e'.symm) hne
   ·rw[e];exact h1 y hy'
  ·rcases xt.mp hy with e'|hy'
   ·rw[e'];exact(h1 x hx').symm
   ·exact zeb h2 hx' hy' hne
theorem zjb {kept:List Int}{top:Int}(g:zv kept [])(hl:1<kept.length)(ht:top∈kept)(hm:∀d∈kept,d≤top):zv (kept.filter fun d=>!decide (d=top)) [top]:=by
 have gc:=g.cop
 have gr:=g.rng
 rw[yA]at gc gr
 have mem:∀{x},x∈kept.filter (fun d=>!decide (d=top))↔x∈kept∧x≠top:=fun {x}=>by rw[yv];simp
 have apart:∀x∈kept,x≠top→Cop x top:=fun x hx hne=>zeb gc hx ht hne
 refine⟨?_,?_,by show 1≤4;decide,fun x hx=>?_,?_,fun k hk s hs=>?_⟩
 ·rcases kept with _|⟨a,_|⟨b,r⟩⟩
  ·simp at hl
  ·simp at hl
  ·have hab:a≠b:=fun e=>by
    have:=(yV.mp gc).1 b (.head _)
    rw[e]at this
    exact Z7 (gr b (.tail _ (.head _))).1 this
   have:∃x,x∈(a::b::r).filter fun d=>!decide (d=top):=by
    by_cases h:a=top
    ·exact⟨b,mem.mpr ⟨.tail _ (.head _),fun e=>hab (h.trans e.symm)⟩⟩
    ·exact⟨a,mem.mpr ⟨.head _,h⟩⟩
   obtain⟨x,hx⟩:=this
   exact ux hx
 ·exact x6 (yC _ _) g.k6
 ·rcases xM.mp hx with hx|hx
  ·exact gr x (mem.mp hx).1
  ·rw[xo.mp hx];exact gr top ht
 ·refine yT.mpr ⟨gc.sublist uS,vk _ _,fun x hx y hy=>?_⟩
  rw[xo.mp hy]
  exact apart x (mem.mp hx).1 (mem.mp hx).2
 ·rw[xo.mp hs]
  have:=hm k (mem.mp hk).1
  have:=(mem.mp hk).2
  omega
end RF
set_option maxHeartbeats 4000000
namespace K28
open PySem L2 RF
seal L2.PE L2.PA L2.PS L2.PSs L2.PT L2.PG L2.PI L2.PK L2.PO L2.PEx L2.PSx L2.Jl L2.PH L2.PW L2.PGs L2.Jk L2.OpR L2.ja L2.SlR L2.IxR
noncomputable def top (i:Nat):Stmt:=PySem.Challenge.pw_restfigures_k28_figures_refused.main.body.getD i (.Pass ⟨0,0,0,0⟩)
structure Txt (K:xb)(mg:Str→Option Value)(cR cT cB cW cD cP cA cU cI cG cX:Addr):Prop where
 len:mg "len"=none
 isinstance:mg "isinstance"=none
 sorted:mg "sorted"=none
 list:mg "list"=none
 tuple:mg "tuple"=none
 int:mg "int"=none
 bool:mg "bool"=none
 str:mg "str"=none
 reversed:mg "reversed"=none
 zip:mg "zip"=none
 all:mg "all"=none
 any:mg "any"=none
 min:mg "min"=none
 max:mg "max"=none
 range:mg "range"=none
 enumerate:mg "enumerate"=none
 sum:mg "sum"=none
 set:mg "set"=none
 ValueError:mg "ValueError"=none
 RestError:mg "RestError"=some (.ref cR)
 TooGreat:mg "TooGreat"=some (.ref cT)
 x_TooGreat:x0 K cT bmV "ValueError.__new__"=true
 BadFigure:mg "BadFigure"=some (.ref cB)
 x_BadFigure:x0 K cB bmV "ValueError.__new__"=true
 Wrong:mg "Wrong"=some (.ref cW)
 x_Wrong:x0 K cW bmV "ValueError.__new__"=true
 BadDivisor:mg "BadDivisor"=some (.ref cD)
 x_BadDivisor:x0 K cD bmV "ValueError.__new__"=true
 BadPlace:mg "BadPlace"=some (.ref cP)
 x_BadPlace:x0 K cP bmV "ValueError.__new__"=true
 BadBase:mg "BadBase"=some (.ref cA)
 x_BadBase:x0 K cA bmV "ValueError.__new__"=true
 Unlike:mg "Unlike"=some (.ref cU)
 x_Unlike:x0 K cU bmV "ValueError.__new__"=true
 BadInput:mg "BadInput"=some (.ref cI)
 RowTooGreat:mg "RowTooGreat"=some (.ref cG)
 BadText:mg "BadText"=some (.ref cX)
 MOST_KEPT:∃tk,mg "MOST_KEPT"=some (.int 6 tk)
 MOST_SPARE:∃tk,mg "MOST_SPARE"=some (.int 4 tk)
 LEAST_DIVISOR:∃tk,mg "LEAST_DIVISOR"=some (.int 2 tk)
 GREATEST_DIVISOR:∃tk,mg "GREATEST_DIVISOR"=some (.int 1000000 tk)
section
variable {P:Program}{w:World}{K:xb}{mg:Str→Option Value}{base:Heap}{cR cT cB cW cD cP cA cU cI cG cX:Addr}
noncomputable abbrev qy:Stmt:=top 74
theorem Q7:zu ["_law_number","_law_k","_law_once"] ["_law_number","_law_k"] (ze qy):=⟨rfl,rfl,rfl,by decide +kernel,rfl,by decide +kernel,by decide +kernel⟩
theorem zd6:zq "_law_mixed" qy ["_law_number","_law_k"]:=je fun _ _ _ _ _ _ _ _=>rfl
theorem ziL (D:Def K mg "_law_mixed" qy):FnS P w K mg base "_law_mixed" ["_law_number","_law_k"] 1 ZZ:=by
 refine D.ok Q7 zd6 zS fun f cdv A outer s H vs Q E hr h=>?_
 obtain⟨_,_,rfl,n,j,rfl,rfl,h0,h1,k⟩:=h
 refine⟨_,(zf (zn (i:=2) Q7.nd rfl (Or.inl rfl) (zi zQ (zi qk (zi jX (zi jX (zi zQ (pv 0) zg) (zi qk zg (pv 1))) zg) zg) zg))
   (zh (zk (zi zQ (zi qk (pv 2) (zi jX (zi jX (zi zQ (pv 2) zg) (pv 1)) zg)) zg)))),?_⟩
 try (set_option simprocs false in dsimp only[zr])
 refine⟨_,rfl,_,_,rfl,rfl,(by show(0:Int)<1000000007;decide),_,rfl,_,_,rfl,rfl,.inl ⟨by decide,by decide⟩,_,_,rfl,rfl,_,_,rfl,rfl,_,_,rfl,rfl,.inr ⟨by decide,by decide⟩,_,_,rfl,rfl,(by show(0:Int)<2147483647;decide),?_⟩
 refine⟨_,rfl,_,rfl,_,_,rfl,rfl,(by show(0:Int)<1009;decide),_,rfl,_,_,rfl,rfl,_,_,rfl,rfl,_,_,rfl,rfl,.inl ⟨by show -(2^64)<(n%1000000007+7*j+1)*48271%2147483647;omega,by show(n%1000000007+7*j+1)*48271%2147483647<2^64;omega⟩,_,_,rfl,rfl,(by show(0:Int)<998244353;decide),?_⟩
 exact k _ (yc _ (by decide)) (xU _ (by decide))
noncomputable abbrev jZ:Stmt:=top 75
theorem jq:zu ["_law_number","_law_some","_law_many","_law_more","_law_at","_law_first","_law_last"] ["_law_number"] (ze jZ):=⟨rfl,rfl,rfl,by decide +kernel,rfl,by decide +kernel,by decide +kernel⟩
theorem zbK:zq "_law_base_by" jZ ["_law_number"]:=qH fun _ _ _ _ _ _ _=>rfl
theorem zge (D:Def K mg "_law_base_by" jZ)(T:Txt K mg cR cT cB cW cD cP cA cU cI cG cX)(F__law_mixed:FnS P w K mg base "_law_mixed" ["_law_number","_law_k"] 1 ZZ):FnS P w K mg base "_law_base_by" ["_law_number"] 2 zbk:=by
 refine D.ok jq zbK jC fun f cdv A outer s H vs Q E hr h=>?_
 obtain⟨_,rfl,n,rfl,k⟩:=h
 refine⟨_,(zf (zn (i:=1) jq.nd rfl (Or.inl rfl) (zJ (ac (zL qg (zJ (ac zg (ac zg (ac zg (ac zg zb))))) (zi zQ (pv 0) zg) (fun _ _=>rfl)) (ac (zL qg (zJ (ac zg (ac zg (ac zg zb)))) (zi zQ (zi jk (pv 0) zg) zg) (fun _ _=>rfl)) (ac (zL qg (zJ (ac zg (ac zg (ac zg zb)))) (zi zQ (zi jk (pv 0) zg) zg) (fun _ _=>rfl)) zb)))))
   (zf (zn (i:=1) jq.nd rfl (Or.inl rfl) (cBi zeq (by rfl) T.sorted PyProof.Rows.Boot.«sorted» (ac (zi qo (pv 1) (zJ (ac zg (ac zg (ac zg (ac zg (ac zg (ac zg (ac zg (ac zg (ac zg (ac zg (ac zg zb))))))))))))) zb)))
   (zf (zn (i:=2) jq.nd rfl (Or.inl rfl) (zi jX zg (zi zQ (zi jk (pv 0) zg) zg)))
   (zf (zn (i:=3) jq.nd rfl (Or.inl rfl) (cFn F__law_mixed hr zw (ac (pv 0) (ac zg zb))))
   (zf (QO zY (zx Zt (cBi zP (by rfl) T.len PyProof.Rows.Boot.«len» (ac (pv 1) zb)) (zi jX (pv 2) (zi zQ (zi jk (pv 0) zg) zg)) (zD _))
    (zf (jr (qU xR PySem.F.slot_list_pop PySem.F.type_list_pop ziS (pv 1) (ac (zi zQ (pv 3) (cBi zP (by rfl) T.len PyProof.Rows.Boot.«len» (ac (pv 1) zb))) zb)))
    (zh (zn (i:=3) jq.nd rfl (Or.inl rfl) (cFn F__law_mixed hr zw (ac (pv 3) (ac zg zb)))))))
   (zf (zn (i:=4) jq.nd rfl (Or.inl rfl) (zi zQ (zi jk (pv 3) zg) (pv 2)))
   (zf (zn (i:=5) jq.nd rfl (Or.inl rfl) (qx Qp (pv 1) qW (qV (pv 2))))
   (zf (zn (i:=6) jq.nd rfl (Or.inl rfl) (qx Qp (pv 1) (qV (pv 2)) qW))
   (zf (zN (zx qI (zi zQ (pv 3) zg) zg (zD _))
    (zh (jr (zl6 xR PySem.F.slot_list_reverse PySem.F.type_list_reverse zgi (pv 6))))
    zA)
   (zh (zk (jV (ac (cTy Jg (by rfl) T.tuple PyProof.Rows.Boot.«tuple» (ac (zi qo (qx Qp (pv 5) (qV (pv 4)) qW) (qx Qp (pv 5) qW (qV (pv 4)))) zb)) (ac (cTy Jg (by rfl) T.tuple PyProof.Rows.Boot.«tuple» (ac (pv 6) zb)) zb)))))))))))))),?_⟩
 try (set_option simprocs false in dsimp only[zr])
 refine⟨by decide,fun p1 h1=>⟨_,rfl,_,_,rfl,rfl,(by show(0:Int)<4;decide),p1,_,_,_,rfl,rfl,SqL.of zc,zbz (ns:=[2,4,8,64]) n rfl (by decide),?_⟩⟩
 refine⟨by decide,fun p2 h2=>⟨_,rfl,_,_,rfl,rfl,⟨by decide,by decide⟩,_,_,rfl,rfl,(by show(0:Int)<3;decide),p2,_,_,_,rfl,rfl,SqL.of zc,zbz (ns:=[3,9,27]) (n/4) rfl (by decide),?_⟩⟩
 refine⟨by decide,fun p3 h3=>⟨_,rfl,_,_,rfl,rfl,⟨by decide,by decide⟩,_,_,rfl,rfl,(by show(0:Int)<3;decide),p3,_,_,_,rfl,rfl,SqL.of zc,zbz (ns:=[5,25,625]) (n/12) rfl (by decide),?_⟩⟩
 refine⟨(by show 3≤sizeLine;decide),fun p4 h4=>?_⟩
 refine⟨_,rfl,by decide,fun p5 h5=>⟨p4,p5,_,_,rfl,rfl,SqL.of (by rw[zC (by rintro rfl;rw[zc]at h5;cases h5)];exact zc),SqL.of zc,(by show 3+11≤sizeLine;decide),fun p6 h6=>?_⟩⟩
 refine⟨p6,Qz n,rfl,SqL.of zc,(by show 14<64;decide),fun l L h7 hp hs=>?_⟩
 obtain⟨l2,lc,lr,l14⟩:=zh7 hp hs
 have hl0:H l=none:=((((((zd.new h1).trans (zd.new h2)).trans (zd.new h3)).trans (zd.new h4)).trans (zd.new h5)).trans (zd.new h6)).free h7
 have S2:=((((((zd.new h1).trans (zd.new h2)).trans (zd.new h3)).trans (zd.new h4)).trans (zd.new h5)).trans (zd.new h6)).trans (zd.new (o:=.lst (L.map V.int)) h7)
 revert S2
 generalize hG:upd _ l _=G
 intro S2
 have hGl:G l=some (.lst (L.map V.int)):=by rw[←hG];exact zc
 clear hG h1 h2 h3 h4 h5 h6 h7
 refine⟨_,rfl,_,_,rfl,rfl,⟨by decide,by decide⟩,_,_,rfl,rfl,(by show(0:Int)<6;decide),_,_,rfl,rfl,?_⟩
 obtain⟨M,hM⟩:∃M:Int,M=1+n/36%6:=⟨_,rfl⟩
 have m1:1≤M:=hM▸(zki (n/36)).1
 have m2:M≤6:=hM▸(zki (n/36)).2
 refine⟨_,rfl,_,_,rfl,n,1,rfl,rfl,by decide,by decide,fun mo mo0 _=>?_⟩
 refine⟨fun m σ H'=>∃(ns:List Int) (mo:Int),σ=[some (.int n),some (.ref l),some (.int M),some (.int mo),none,none,none]∧H' l=some (.lst (ns.map V.int))∧zd H H'∧ns.Sublist L∧M+n/216%5≤ns.length∧0≤mo∧m=ns.length,
  ⟨_,L,mo,by rw[hM];rfl,hGl,S2,List.Sublist.refl L,by rw[l14];exact zmJ m2 _,mo0,rfl⟩,?_⟩
 ·rintro m σ H3 ⟨ns,mo,rfl,hH3,S3,sub,hlen,mo0,rfl⟩
  have hn14:ns.length≤14:=by rw[←l14];exact sub.length_le
  refine⟨_,rfl,l,_,rfl,.inl (SqL.of hH3),_,rfl,_,rfl,_,_,rfl,rfl,⟨by decide,by decide⟩,_,_,rfl,rfl,(by show(0:Int)<5;decide),_,_,rfl,rfl,_,_,rfl,rfl,_,rfl,?_⟩
  rw[xa]
  by_cases hgt:M+n/216%5<(ns.length:Int)
  ·rw[decide_eq_true hgt]
   refine zV ⟨_,fun _ _ h=>h,?_⟩
   have hpos:=zk4 m1 hgt
   have hmod0:=md0 mo hpos
   have hmod1:=md1 mo hpos
   have hlt:=ziV hmod0 hmod1
   have hget:(ns.map V.int)[(mo%(ns.length:Int)).toNat]? = some (.int (ns.getD (mo%(ns.length:Int)).toNat 0)):=by
    rw[xK,xm hlt]
    simp[hlt]
   refine⟨_,rfl,.inl ⟨rfl,_,SqL.of hH3⟩,_,rfl,_,rfl,l,_,rfl,.inl (SqL.of hH3),_,_,rfl,rfl,(by show(0:Int)<((ns.map V.int).length:Int);rw[xa];exact hpos),?_⟩
   rw[xa]
   refine⟨l,_,_,_,_,rfl,rfl,hH3,(zio hmod0 hmod1 hn14).1,(zio hmod0 hmod1 hn14).2,by rw[xa];exact zl5 hmod0 hmod1,hget,?_⟩
   refine⟨_,rfl,_,_,rfl,mo,2,rfl,rfl,by decide,by decide,fun mo' mo0' _=>?_⟩
   have he:(ns.map V.int).eraseIdx (mo%(ns.length:Int)).toNat=(ns.eraseIdx (mo%(ns.length:Int)).toNat).map V.int:=zb3 _ _
   have hle:(ns.eraseIdx (mo%(ns.length:Int)).toNat).length=ns.length - 1:=List.length_eraseIdx_of_lt hlt
   exact⟨_,by rw[hle];exact zmO hpos,ns.eraseIdx (mo%(ns.length:Int)).toNat,mo',rfl,by rw[zc,he],S3.upd hl0,(vD _ _).trans sub,by rw[hle];exact zkW hgt hpos,mo0',rfl⟩
  ·rw[decide_eq_false hgt]
   refine jd ?_
   have hsp:(ns.length:Int)=M+n/216%5:=Int.le_antisymm (Int.not_lt.mp hgt) hlen
   have cn:=zmn m1 m2 hsp
   refine⟨_,rfl,_,_,rfl,rfl,⟨by decide,by decide⟩,_,rfl,_,_,rfl,rfl,zjG m1,?_⟩
   have a0:=md0 (mo/2) (zjG m1)
   refine⟨_,rfl,_,rfl,_,rfl,l,_,rfl,SqL.of hH3,fun q1 g1=>?_⟩
   rw[zbq (nn1 m1)]
   have nq1:l≠q1:=jN hH3 g1
   refine⟨_,rfl,_,rfl,_,rfl,l,_,rfl,SqL.of (by rw[zC nq1];exact hH3),fun q2 g2=>?_⟩
   rw[Q1 (nn1 m1)]
   have q1q2:q1≠q2:=by rintro rfl;rw[zc]at g2;cases g2
   have S4:zd H (upd (upd H3 q1 (.lst ((ns.take M.toNat).map V.int))) q2 (.lst ((ns.drop M.toNat).map V.int))):=(S3.trans (zd.new g1)).trans (zd.new g2)
   have hq1:H q1=none:=S3.free g1
   have hq2:H q2=none:=(S3.trans (zd.new g1)).free g2
   have good:∀rev:Bool,zv ((ns.take M.toNat).drop (mo/2%M).toNat++(ns.take M.toNat).take (mo/2%M).toNat) (if rev then(ns.drop M.toNat).reverse else ns.drop M.toNat):=fun rev =>
    zj6 (fun d hd=>l2 d (sub.subset hd)) (lc.sublist sub) (lr.sublist sub) cn.1.1 cn.1.2 cn.2.1 cn.2.2
   have fin:∀(rev:Bool) (H5:Hp),zd H H5→H5 q1=some (.lst ((ns.take M.toNat).map V.int))→H5 q2=some (.lst ((if rev then(ns.drop M.toNat).reverse else ns.drop M.toNat).map V.int)) →
     (zlE (zl8 (Qf (tCB (fun xs H Q=>∃p ys,xs=[V.ref p]∧((SqL K H p ys∧∀l,H l=none→Q (V.ref l) (upd H l (.tup ys)))∨(SqT K H p ys∧Q (V.ref p) H))) (Qf (tOp (zc0 []) (tSl (zdi []) (Qq 5) (zgk (Qq 4)) zbC) (tSl (zdi []) (Qq 5) zbC (zgk (Qq 4)))) zbV)) (Qf (tCB (fun xs H Q=>∃p ys,xs=[V.ref p]∧((SqL K H p ys∧∀l,H l=none→Q (V.ref l) (upd H l (.tup ys)))∨(SqT K H p ys∧Q (V.ref p) H))) (Qf (Qq 6) zbV)) zbV))) {nx:=fun _ H'=>Q .non H',rt:=Q} [some (.int n),some (.ref l),some (.int M),some (.int mo),some (.int (mo/2%M)),some (.ref q1),some (.ref q2)] H5):=by
    intro rev H5 S5 e1 e2
    refine⟨_,rfl,_,rfl,_,rfl,q1,_,rfl,SqL.of e1,fun r1 k1=>?_⟩
    rw[Q1 a0]
    have n1:q1≠r1:=jN e1 k1
    refine⟨_,rfl,_,rfl,_,rfl,q1,_,rfl,SqL.of (by rw[zC n1];exact e1),fun r2 k2=>?_⟩
    rw[zbq a0]
    have n2:r1≠r2:=by rintro rfl;rw[zc]at k2;cases k2
    refine⟨r1,r2,_,_,rfl,rfl,SqL.of (by rw[zC n2];exact zc),SqL.of zc,?_,fun r3 k3=>?_⟩
    ·exact zjo ns M.toNat M.toNat _ hn14
    rw[←xE]
    refine⟨r3,_,rfl,.inl ⟨SqL.of zc,fun t1 k4=>?_⟩⟩
    have S6':=(((zd.new k1).trans (zd.new k2)).trans (zd.new k3)).trans (zd.new (o:=.tup (((ns.take M.toNat).drop (mo/2%M).toNat++(ns.take M.toNat).take (mo/2%M).toNat).map V.int)) k4)
    have S6:=S5.trans S6'
    refine⟨_,rfl,q2,_,rfl,.inl ⟨SqL.of (S6' _ _ e2),fun t2 k5=>?_⟩⟩
    refine⟨(by show 2≤sizeLine;decide),fun t k6=>?_⟩
    have n5:t1≠t2:=by rintro rfl;rw[zc]at k5;cases k5
    have n6:t2≠t:=by rintro rfl;rw[zc]at k6;cases k6
    have n7:t1≠t:=by rintro rfl;rw[zC n5,zc]at k6;cases k6
    have S7:=(S6.trans (zd.new (o:=.tup ((if rev then(ns.drop M.toNat).reverse else ns.drop M.toNat).map V.int)) k5))
    exact k _ _ t _ (good rev) (S7.trans (zd.new k6)) (S7.free k6) ⟨t1,t2,zc,by rw[zC n7,zC n5,zc],by rw[zC n6,zc]⟩
   refine⟨_,rfl,_,_,rfl,rfl,(by show(0:Int)<2;decide),rfl,_,rfl,?_⟩
   refine qX (fun _=>?_) (fun _=>?_)
   ·refine⟨_,rfl,.inl ⟨rfl,_,SqL.of zc⟩,q2,_,rfl,rfl,zc,?_⟩
    rw[←wu]
    exact fin true _ (S4.upd hq2) (by rw[zC q1q2,zC q1q2,zc]) zc
   ·exact fin false _ S4 (by rw[zC q1q2,zc]) zc
noncomputable abbrev qi:Stmt:=top 20
theorem zbF:zu ["base"] ["base"] (ze qi):=⟨rfl,rfl,rfl,by decide +kernel,rfl,by decide +kernel,by decide +kernel⟩
theorem zcL:zq "divisors_of" qi ["base"]:=qH fun _ _ _ _ _ _ _=>rfl
theorem zbP (D:Def K mg "divisors_of" qi):FnS P w K mg base "divisors_of" ["base"] 1 QE:=by
 refine D.ok zbF zcL jC fun f cdv A outer s H vs Q E hr h=>?_
 obtain⟨_,rfl,kept,spare,⟨⟨t,rfl,B⟩,gb⟩,k⟩:=h
 refine⟨_,(zh (zk (zi zbA (zL jI (pv 0) zg (fun _ _=>rfl)) (zL jI (pv 0) zg (fun _ _=>rfl))))),?_⟩
 try (set_option simprocs false in dsimp only[zr])
 obtain⟨t1,t2,e0,e1,e2⟩:=B.ex
 refine⟨_,rfl,t,_,_,_,rfl,rfl,SqT.of e0,rfl,_,rfl,t,_,_,_,rfl,rfl,SqT.of e0,rfl,t1,t2,_,_,rfl,rfl,SqT.of e1,SqT.of e2,gb.ne,gb.room,fun hs=>?_,fun _ p hp=>?_⟩
 ·have hs:spare=[]:=ul.mp hs
  subst hs
  exact k t1 H (zd.refl H) (by rw[yA];exact e1)
 ·exact k p _ (zd.new hp) (by rw[xE];exact zc)
noncomputable abbrev qa:Stmt:=top 22
theorem jR:zu ["numbers","product","number"] ["numbers"] (ze qa):=⟨rfl,rfl,rfl,by decide +kernel,rfl,by decide +kernel,by decide +kernel⟩
theorem Ys:zq "product_of" qa ["numbers"]:=qH fun _ _ _ _ _ _ _=>rfl
theorem zcN (D:Def K mg "product_of" qa):FnS P w K mg base "product_of" ["numbers"] 1 zdV:=by
 refine D.ok jR Ys jC fun f cdv A outer s H vs Q E hr h=>?_
 obtain⟨_,rfl,t,ds,rfl,e1,rng,k⟩:=h
 refine⟨_,(zf (zn (i:=1) jR.nd rfl (Or.inl rfl) zg)
   (zf (jW zY rfl (QA (pv 0)) (zE (i:=2) jR.nd rfl (Or.inl rfl))
    (zh (zn (i:=1) jR.nd rfl (Or.inl rfl) (zi qk (pv 1) (pv 2)))))
   (zh (zk (pv 1))))),?_⟩
 try (set_option simprocs false in dsimp only[zr])
 refine⟨_,rfl,t,rfl,⟨_,SqT.of e1⟩,zbB (K:=K) (xs:=ds.map V.int) (fun i σ H'=>∃(p:Int) (y:Option V),σ=[some (.ref t),some (.int p),y]∧H'=H∧p=zy (ds.take i))
  ⟨1,none,rfl,rfl,rfl⟩ (fun i σ H' _ ⟨_,_,_,e,_⟩=>by rw[e];exact SqT.of e1) ?_ ?_⟩
 ·rintro i x σ _ hx ⟨p,y,rfl,rfl,e⟩
  obtain⟨d,hi,rfl⟩:=j7 hx
  have h2:=rng d (xq hi)
  exact⟨_,rfl,_,rfl,_,_,rfl,rfl,.inr ⟨by show -(2^64)<d;omega,by show d<2^64;omega⟩,_,_,rfl,rfl,by rw[JC hi,e]⟩
 ·rintro σ _ ⟨p,y,rfl,rfl,e⟩
  rw[xa,xS]at e
  subst e
  exact⟨_,rfl,k⟩
noncomputable abbrev Js:Stmt:=top 23
theorem zfW:zu ["base"] ["base"] (ze Js):=⟨rfl,rfl,rfl,by decide +kernel,rfl,by decide +kernel,by decide +kernel⟩
theorem zg4:zq "span_of" Js ["base"]:=qH fun _ _ _ _ _ _ _=>rfl
theorem zgz (D:Def K mg "span_of" Js)(F_product_of:FnS P w K mg base "product_of" ["numbers"] 1 zdV):FnS P w K mg base "span_of" ["base"] 2 ZS:=by
 refine D.ok zfW zg4 jC fun f cdv A outer s H vs Q E hr h=>?_
 obtain⟨_,rfl,kept,spare,⟨⟨t,rfl,B⟩,gb⟩,k⟩:=h
 refine⟨_,(zh (zk (cFn F_product_of hr zw (ac (zL jI (pv 0) zg (fun _ _=>rfl)) zb)))),?_⟩
 try (set_option simprocs false in dsimp only[zr])
 obtain⟨t1,t2,e0,e1,e2⟩:=B.ex
 exact⟨_,rfl,t,_,_,_,rfl,rfl,SqT.of e0,rfl,_,rfl,t1,kept,rfl,e1,fun d hd=>gb.rng d (xJ _ hd),k⟩
noncomputable abbrev JL:Stmt:=top 24
theorem ziA:zu ["base"] ["base"] (ze JL):=⟨rfl,rfl,rfl,by decide +kernel,rfl,by decide +kernel,by decide +kernel⟩
theorem zjt:zq "lowest" JL ["base"]:=qH fun _ _ _ _ _ _ _=>rfl
theorem ziI (D:Def K mg "lowest" JL)(F_span_of:FnS P w K mg base "span_of" ["base"] 2 ZS):FnS P w K mg base "lowest" ["base"] 3 zhv:=by
 refine D.ok ziA zjt jC fun f cdv A outer s H vs Q E hr h=>?_
 obtain⟨_,rfl,kept,spare,B,k⟩:=h
 refine⟨_,(zh (zk (QL ZU (zi jk (zi jL (cFn F_span_of hr zw (ac (pv 0) zb)) zg) zg)))),?_⟩
 try (set_option simprocs false in dsimp only[zr])
 exact⟨_,rfl,_,rfl,kept,spare,B,_,_,rfl,rfl,_,_,rfl,rfl,⟨by decide,by decide⟩,_,rfl,k⟩
noncomputable abbrev Jt:Stmt:=top 25
theorem zf3:zu ["base"] ["base"] (ze Jt):=⟨rfl,rfl,rfl,by decide +kernel,rfl,by decide +kernel,by decide +kernel⟩
theorem zih:zq "highest" Jt ["base"]:=qH fun _ _ _ _ _ _ _=>rfl
theorem zgn (D:Def K mg "highest" Jt)(F_span_of:FnS P w K mg base "span_of" ["base"] 2 ZS):FnS P w K mg base "highest" ["base"] 3 zfG:=by
 refine D.ok zf3 zih jC fun f cdv A outer s H vs Q E hr h=>?_
 obtain⟨_,rfl,kept,spare,B,k⟩:=h
 refine⟨_,(zh (zk (zi jk (cFn F_span_of hr zw (ac (pv 0) zb)) zg))),?_⟩
 try (set_option simprocs false in dsimp only[zr])
 exact⟨_,rfl,_,rfl,kept,spare,B,_,_,rfl,rfl,⟨by decide,by decide⟩,k⟩
noncomputable abbrev Qe:Stmt:=top 26
theorem zkr:zu ["base","number"] ["base","number"] (ze Qe):=⟨rfl,rfl,rfl,by decide +kernel,rfl,by decide +kernel,by decide +kernel⟩
theorem zl4:zq "fits" Qe ["base","number"]:=je fun _ _ _ _ _ _ _ _=>rfl
theorem zkK (D:Def K mg "fits" Qe)(F_lowest:FnS P w K mg base "lowest" ["base"] 3 zhv)(F_highest:FnS P w K mg base "highest" ["base"] 3 zfG):FnS P w K mg base "fits" ["base","number"] 4 zbO:=by
 refine D.ok zkr zl4 zS fun f cdv A outer s H vs Q E hr h=>?_
 obtain⟨_,_,rfl,kept,spare,n,B,rfl,k⟩:=h
 refine⟨_,(zh (zk (zee ZN ZN (cFn F_lowest hr zw (ac (pv 0) zb)) (pv 1) (cFn F_highest hr zw (ac (pv 0) zb))))),?_⟩
 try (set_option simprocs false in dsimp only[zr])
 refine⟨_,rfl,_,rfl,kept,spare,B,_,rfl,_,_,rfl,rfl,_,rfl,?_⟩
 by_cases h1:RF.jD kept≤n
 ·rw[decide_eq_true h1]
  refine zV ⟨_,rfl,_,rfl,kept,spare,B,_,_,rfl,rfl,?_⟩
  have e:decide (n≤RF.jm kept)=decide (zM kept n):=decide_eq_decide.mpr ⟨fun h=>⟨h1,h⟩,fun h=>h.2⟩
  show Q (.bl (decide (n≤RF.jm kept))) H
  rw[e];exact k
 ·rw[decide_eq_false h1]
  refine jd ?_
  have e:false=decide (zM kept n):=(decide_eq_false fun h=>h1 h.1).symm
  show Q (.bl false) H
  rw[e];exact k
noncomputable abbrev qR:Stmt:=top 76
theorem J5:zu ["_law_base","_law_size","_law_one"] ["_law_base"] (ze qR):=⟨rfl,rfl,rfl,by decide +kernel,rfl,by decide +kernel,by decide +kernel⟩
theorem zeE:zq "_law_span" qR ["_law_base"]:=qH fun _ _ _ _ _ _ _=>rfl
theorem zdC (D:Def K mg "_law_span" qR):FnS P w K mg base "_law_span" ["_law_base"] 1 ZS:=by
 refine D.ok J5 zeE jC fun f cdv A outer s H vs Q E hr h=>?_
 obtain⟨_,rfl,kept,spare,⟨⟨t,rfl,B⟩,gb⟩,k⟩:=h
 refine⟨_,(zf (zn (i:=1) J5.nd rfl (Or.inl rfl) zg)
   (zf (jW zY rfl (QA (zL jI (pv 0) zg (fun _ _=>rfl))) (zE (i:=2) J5.nd rfl (Or.inl rfl))
    (zh (zn (i:=1) J5.nd rfl (Or.inl rfl) (zi qk (pv 1) (pv 2)))))
   (zh (zk (pv 1))))),?_⟩
 try (set_option simprocs false in dsimp only[zr])
 obtain⟨t1,t2,e0,e1,e2⟩:=B.ex
 refine⟨_,rfl,t,_,_,_,rfl,rfl,SqT.of e0,rfl,t1,rfl,⟨_,SqT.of e1⟩,zbB (K:=K) (xs:=kept.map V.int) (fun i σ H'=>∃(p:Int) (y:Option V),σ=[some (.ref t),some (.int p),y]∧H'=H∧p=zy (kept.take i))
  ⟨1,none,rfl,rfl,rfl⟩ (fun i σ H' _ ⟨_,_,_,e,_⟩=>by rw[e];exact SqT.of e1) ?_ ?_⟩
 ·rintro i x σ _ hx ⟨p,y,rfl,rfl,e⟩
  obtain⟨d,hi,rfl⟩:=j7 hx
  have h2:=gb.rng d (xJ _ (xq hi))
  exact⟨_,rfl,_,rfl,_,_,rfl,rfl,.inr ⟨by show -(2^64)<d;omega,by show d<2^64;omega⟩,_,_,rfl,rfl,by rw[JC hi,e]⟩
 ·rintro σ _ ⟨p,y,rfl,rfl,e⟩
  rw[xa,xS]at e
  subst e
  exact⟨_,rfl,k⟩
noncomputable abbrev qG:Stmt:=top 32
theorem zeL:zu ["base","number"] ["base","number"] (ze qG):=⟨rfl,rfl,rfl,by decide +kernel,rfl,by decide +kernel,by decide +kernel⟩
theorem zgK:zq "rests_of" qG ["base","number"]:=je fun _ _ _ _ _ _ _ _=>rfl
theorem zeD (D:Def K mg "rests_of" qG)(F_divisors_of:FnS P w K mg base "divisors_of" ["base"] 1 QE):FnS P w K mg base "rests_of" ["base","number"] 2 Zj:=by
 refine D.ok zeL zgK zS fun f cdv A outer s H vs Q E hr h=>?_
 obtain⟨_,_,rfl,kept,spare,n,B,rfl,k⟩:=h
 refine⟨_,(zh (zk (Jj (lv:=1) (caps:=[1]) (N':=["divisor","number"]) rfl (zW.caps (sc:=ze qG) rfl (by decide +kernel) (by decide +kernel) (by decide +kernel) rfl rfl (qj rfl rfl rfl)) (zZ (by decide)) (QA (cFn F_divisors_of hr zw (ac (pv 0) zb))) (fun _ _ _ _=>zE (i:=0) (show(["divisor","number"]:List Str).Nodup by decide +kernel) rfl (Or.inl rfl)) (fun _ _ _ _=>(zi zQ (pv 1) (pv 0)))))),?_⟩
 try (set_option simprocs false in dsimp only[zr])
 refine⟨_,rfl,_,rfl,kept,spare,B,fun p H1 S1 e1=>⟨p,rfl,⟨_,SqT.of e1⟩,ziB (K:=K) (SqT.of e1) B.2.many (zfV n) ?_ ?_⟩⟩
 ·intro x hx H' Q' S q
  obtain⟨d,hd,rfl⟩:=xI.mp hx
  have h2:=B.2.rng d hd
  exact⟨_,rfl,_,rfl,_,_,rfl,rfl,(by show 0<d;omega),q _ (zd.refl _)⟩
 ·intro D H' hD S e
  exact k D H' (S1.trans S) (S1.free hD) (by rw[e,zcA])
noncomputable abbrev qT:Stmt:=top 28
theorem zdl:zu ["base","number"] ["base","number"] (ze qT):=⟨rfl,rfl,rfl,by decide +kernel,rfl,by decide +kernel,by decide +kernel⟩
theorem zeM:zq "figure_of" qT ["base","number"]:=je fun _ _ _ _ _ _ _ _=>rfl
theorem zdz (D:Def K mg "figure_of" qT)(T:Txt K mg cR cT cB cW cD cP cA cU cI cG cX)(F_fits:FnS P w K mg base "fits" ["base","number"] 4 zbO)(F_rests_of:FnS P w K mg base "rests_of" ["base","number"] 2 Zj):FnS P w K mg base "figure_of" ["base","number"] 5 (qb cT):=by
 refine D.ok zdl zeM zS fun f cdv A outer s H vs Q E hr h=>?_
 obtain⟨_,_,rfl,kept,spare,n,B,rfl,yes,no⟩:=h
 refine⟨_,(zf (zN (J4 (Z4 (cFn F_fits hr zw (ac (pv 0) (ac (pv 1) zb)))))
    (zh (jK T.x_TooGreat T.TooGreat (ac zO zb)))
    zA)
   (zh (zk (cFn F_rests_of hr zw (ac (pv 0) (ac (pv 1) zb)))))),?_⟩
 try (set_option simprocs false in dsimp only[zr])
 refine⟨_,rfl,_,rfl,_,_,rfl,kept,spare,n,B,rfl,_,rfl,?_⟩
 by_cases hf:zM kept n
 ·rw[decide_eq_true hf]
  exact jd ⟨_,rfl,_,rfl,_,_,rfl,kept,spare,n,B,rfl,yes hf⟩
 ·rw[decide_eq_false hf]
  exact zV ⟨by decide,no hf H (zd.refl H)⟩
noncomputable abbrev jS:Stmt:=top 78
theorem zbI:zu ["_law_base","_law_number"] ["_law_base","_law_number"] (ze jS):=⟨rfl,rfl,rfl,by decide +kernel,rfl,by decide +kernel,by decide +kernel⟩
theorem zcF:zq "_law_figure" jS ["_law_base","_law_number"]:=je fun _ _ _ _ _ _ _ _=>rfl
theorem zcO (D:Def K mg "_law_figure" jS):FnS P w K mg base "_law_figure" ["_law_base","_law_number"] 1 Zj:=by
 refine D.ok zbI zcF zS fun f cdv A outer s H vs Q E hr h=>?_
 obtain⟨_,_,rfl,kept,spare,n,⟨⟨t,rfl,B⟩,gb⟩,rfl,k⟩:=h
 refine⟨_,(zh (zk (Jj (lv:=1) (caps:=[1]) (N':=["_law_one","_law_number"]) rfl (zW.caps (sc:=ze jS) rfl (by decide +kernel) (by decide +kernel) (by decide +kernel) rfl rfl (qj rfl rfl rfl)) (zZ (by decide)) (QA (zi zbA (zL jI (pv 0) zg (fun _ _=>rfl)) (zL jI (pv 0) zg (fun _ _=>rfl)))) (fun _ _ _ _=>zE (i:=0) (show(["_law_one","_law_number"]:List Str).Nodup by decide +kernel) rfl (Or.inl rfl)) (fun _ _ _ _=>(zi zQ (pv 1) (pv 0)))))),?_⟩
 try (set_option simprocs false in dsimp only[zr])
 obtain⟨t1,t2,e0,e1,e2⟩:=B.ex
 have go:∀p H1,zd H H1→H1 p=some (.tup ((kept++spare).map V.int))→ZL (Itt K p) (Qi 0) (tOp (rI (fun _ j=>0<j) fun i j=>V.int (i%j)) (Qq 1) (Qq 0)) (jJ 1 [1] [some (.ref t),some (.int n)]) Q H1:=fun p H1 S1 e1=>by
  refine ziB (K:=K) (SqT.of e1) gb.many (zfV n) ?_ ?_
  ·intro x hx H' Q' S q
   obtain⟨d,hd,rfl⟩:=xI.mp hx
   have h2:=gb.rng d hd
   exact⟨_,rfl,_,rfl,_,_,rfl,rfl,(by show 0<d;omega),q _ (zd.refl _)⟩
  ·intro D H' hD S e
   exact k D H' (S1.trans S) (S1.free hD) (by rw[e,zcA])
 refine⟨_,rfl,t,_,_,_,rfl,rfl,SqT.of e0,rfl,_,rfl,t,_,_,_,rfl,rfl,SqT.of e0,rfl,t1,t2,_,_,rfl,rfl,SqT.of e1,SqT.of e2,gb.ne,gb.room,fun hs=>?_,fun _ p hp=>?_⟩
 ·have hs:spare=[]:=ul.mp hs
  subst hs
  exact⟨t1,rfl,⟨_,SqT.of e1⟩,go t1 H (zd.refl H) (by rw[yA];exact e1)⟩
 ·exact⟨p,rfl,⟨_,SqT.of zc⟩,go p _ (zd.new hp) (by rw[xE];exact zc)⟩
noncomputable abbrev j6:Stmt:=top 73
theorem zaV:zu ["_law_script","_law_k"] ["_law_script","_law_k"] (ze j6):=⟨rfl,rfl,rfl,by decide +kernel,rfl,by decide +kernel,by decide +kernel⟩
theorem zbS:zq "_law_cell_at" j6 ["_law_script","_law_k"]:=je fun _ _ _ _ _ _ _ _=>rfl
theorem zgN (D:Def K mg "_law_cell_at" j6)(T:Txt K mg cR cT cB cW cD cP cA cU cI cG cX):FnS P w K mg base "_law_cell_at" ["_law_script","_law_k"] 1 (zbc K):=by
 refine D.ok zaV zbS zS fun f cdv A outer s H vs Q E hr h=>?_
 obtain⟨_,_,rfl,l,ns,i,rfl,rfl,hq,h0,k⟩:=h
 refine⟨_,(zf (zN (zx qA (pv 1) (cBi Yu (by rfl) T.len PyProof.Rows.Boot.«len» (ac (pv 0) zb)) (zD _))
    (zh (zk (zL zeT (pv 0) (pv 1) (fun _ _=>rfl))))
    zA)
   (zh (zk zg))),?_⟩
 try (set_option simprocs false in dsimp only[zr])
 refine⟨_,rfl,_,rfl,l,_,rfl,.inl hq,_,_,rfl,rfl,_,rfl,?_⟩
 rw[xa]
 by_cases hl:i<(ns.length:Int)
 ·rw[decide_eq_true hl]
  exact zV ⟨_,rfl,_,rfl,l,_,_,_,rfl,rfl,hq,qp h0 hl,k _⟩
 ·rw[decide_eq_false hl]
  exact jd (k 0)
noncomputable abbrev j4:Stmt:=top 77
theorem Jm:zu ["_law_base","_law_cell","_law_size","_law_number","_law_low"] ["_law_base","_law_cell"] (ze j4):=⟨rfl,rfl,rfl,by decide +kernel,rfl,by decide +kernel,by decide +kernel⟩
theorem zbL:zq "_law_fitting" j4 ["_law_base","_law_cell"]:=je fun _ _ _ _ _ _ _ _=>rfl
theorem zgD (D:Def K mg "_law_fitting" j4)(F__law_span:FnS P w K mg base "_law_span" ["_law_base"] 1 ZS)(F__law_mixed:FnS P w K mg base "_law_mixed" ["_law_number","_law_k"] 1 ZZ):FnS P w K mg base "_law_fitting" ["_law_base","_law_cell"] 2 zbn:=by
 refine D.ok Jm zbL zS fun f cdv A outer s H vs Q E hr h=>?_
 obtain⟨_,_,rfl,kept,spare,c,B,rfl,k⟩:=h
 refine⟨_,(zf (zn (i:=2) Jm.nd rfl (Or.inl rfl) (cFn F__law_span hr zw (ac (pv 0) zb)))
   (zf (zn (i:=3) Jm.nd rfl (Or.inl rfl) (cFn F__law_mixed hr zw (ac (pv 1) (ac zg zb))))
   (zf (zn (i:=4) Jm.nd rfl (Or.inl rfl) (zi jL zg (zi jk (zi jL (pv 2) zg) zg)))
   (zf (zN (zx qI (zi zQ (pv 3) zg) zg (zD _))
    (zh (zk (zi jX (pv 4) (zi zQ (zi jL (zi zQ (zi jk (pv 3) zg) zg) zg) (pv 2)))))
    zA)
   (zf (zN (zx qI (zi zQ (pv 3) zg) zg (zD _))
    (zh (zk (zi jX (pv 4) (zi zQ (zi jL (zi jX (zi jk (zi jL (pv 2) zg) zg) (zi zQ (zi jk (pv 3) zg) zg)) zg) (pv 2)))))
    zA)
   (zh (zk (zi jX (pv 4) (zi zQ (zi jX (zi zQ (pv 1) (zi zaX zg zg)) (zi qk (zi qk (pv 3) zg) (pv 3))) (pv 2)))))))))),?_⟩
 try (set_option simprocs false in dsimp only[zr])
 have hp:0<zy kept:=B.2.span
 have fin:∀x:Int,Q (.int (0 - (zy kept - 1)/2+x%zy kept)) H:=fun x=>by
  have h0:0≤x%zy kept:=yc _ (by omega)
  have h1:x%zy kept<zy kept:=xU _ hp
  refine k _ ?_ ?_
  ·unfold RF.jD;omega
  ·unfold RF.jm;omega
 refine⟨_,rfl,_,rfl,kept,spare,B,_,rfl,_,_,rfl,c,3,rfl,rfl,by decide,by decide,fun nb nb0 nb1=>?_⟩
 refine⟨_,rfl,_,_,rfl,rfl,_,_,rfl,rfl,⟨by decide,by decide⟩,_,_,rfl,rfl,?_⟩
 refine⟨_,rfl,_,_,rfl,rfl,(by show(0:Int)<4;decide),rfl,_,rfl,qX (fun _=>?_) (fun _=>?_)⟩
 ·exact⟨_,rfl,_,rfl,_,_,rfl,rfl,⟨by decide,by decide⟩,_,_,rfl,rfl,(by show(0:Int)<9;decide),_,_,rfl,rfl,_,rfl,_,_,rfl,rfl,hp,_,_,rfl,rfl,fin _⟩
 refine⟨_,rfl,_,_,rfl,rfl,(by show(0:Int)<4;decide),rfl,_,rfl,qX (fun _=>?_) (fun _=>?_)⟩
 ·exact⟨_,rfl,_,rfl,_,_,rfl,rfl,_,_,rfl,rfl,⟨by decide,by decide⟩,_,rfl,_,_,rfl,rfl,⟨by decide,by decide⟩,_,_,rfl,rfl,(by show(0:Int)<9;decide),_,_,rfl,rfl,_,_,rfl,rfl,_,rfl,_,_,rfl,rfl,hp,_,_,rfl,rfl,fin _⟩
 ·exact⟨_,rfl,_,rfl,_,_,rfl,rfl,⟨by decide,by decide,by decide⟩,_,_,rfl,rfl,(by show(0:Int)<10^50;decide),_,rfl,_,_,rfl,rfl,.inr ⟨by decide,by decide⟩,_,rfl,_,_,rfl,rfl,.inr ⟨by show -(2^64)<nb;omega,by show nb<2^64;omega⟩,_,_,rfl,rfl,_,rfl,_,_,rfl,rfl,hp,_,_,rfl,rfl,fin _⟩
noncomputable abbrev Jy:Stmt:=top 37
theorem ZJ:zu ["number","divisor","left","times"] ["number","divisor"] (ze Jy):=⟨rfl,rfl,rfl,by decide +kernel,rfl,by decide +kernel,by decide +kernel⟩
theorem zb6:zq "inverse" Jy ["number","divisor"]:=je fun _ _ _ _ _ _ _ _=>rfl
theorem zbu (D:Def K mg "inverse" Jy):∀j:Nat,FnS P w K mg base "inverse" ["number","divisor"] (j+1) (zde j)
 |0=>by
  refine D.ok ZJ zb6 zS fun f cdv A outer s H vs Q E hr h=>?_
  obtain⟨_,_,rfl,n,d,rfl,rfl,h2,h6,hc,hs,k⟩:=h
  exfalso
  have h0:=zfi h2 hc
  have h1:=md0 n (zby h2)
  have:=xG (show 1≤n%d by omega) (show 0≤d by omega)
  omega
 |j+1=>by
  have F_inverse:=zbu D j
  refine D.ok ZJ zb6 zS fun f cdv A outer s H vs Q E hr h=>?_
  obtain⟨_,_,rfl,n,d,rfl,rfl,h2,h6,hc,hs,k⟩:=h
  have h0:=zfi h2 hc
  have h1:=md0 n (zby h2)
  have h3:=md1 n (zby h2)
  refine⟨_,(zf (zn (i:=2) ZJ.nd rfl (Or.inl rfl) (zi zQ (pv 0) (pv 1)))
   (zf (zN (zx qI (pv 2) zg (zD _))
    (zh (zk zg))
    zA)
   (zf (zn (i:=3) ZJ.nd rfl (Or.inl rfl) (zi jL (pv 2) (cFn (hkk:=xr _) F_inverse hr zw (ac (pv 1) (ac (pv 2) zb)))))
   (zh (zk (zi jk (zi jX (zi qk (pv 1) (pv 3)) zg) (pv 2))))))),?_⟩
  try (set_option simprocs false in dsimp only[zr])
  refine⟨_,rfl,_,rfl,_,_,rfl,rfl,zby h2,_,rfl,rfl,_,rfl,qX (fun e=>?_) (fun e=>?_)⟩
  ·exact k 1 (zkF h2 (QH e))
  ·have hL:=zlu h1 h0 (YZ e)
   have h30:=zmS hL h3 h6
   refine⟨_,rfl,_,rfl,_,rfl,_,_,rfl,d,n%d,rfl,rfl,hL,h30.1,zjI hc,zhW hL h3 hs,fun v hv=>⟨_,_,rfl,rfl,?_⟩⟩
   exact⟨_,rfl,_,rfl,_,_,rfl,rfl,.inl (d64 h2 h6),_,_,rfl,rfl,_,rfl,_,_,rfl,rfl,h30.2,k _ (zl1 h2 hL hv)⟩
noncomputable abbrev jn:Stmt:=top 36
theorem zI:zu ["divisors","rests","number","step","rest","divisor","steps"] ["divisors","rests"] (ze jn):=⟨rfl,rfl,rfl,by decide +kernel,rfl,by decide +kernel,by decide +kernel⟩
theorem ZI:zq "number_by_rests" jn ["divisors","rests"]:=je fun _ _ _ _ _ _ _ _=>rfl
theorem zeK (D:Def K mg "number_by_rests" jn)(T:Txt K mg cR cT cB cW cD cP cA cU cI cG cX)(F_inverse:FnS P w K mg base "inverse" ["number","divisor"] 41 (zde 40)) :
  FnS P w K mg base "number_by_rests" ["divisors","rests"] 42 zaa:=by
 refine D.ok zI ZI zS fun f cdv A outer s H vs Q E hr h=>?_
 obtain⟨_,_,rfl,t1,l,kept,ns,rfl,rfl,e1,el,rng,copK,hlen,hrng,k⟩:=h
 refine⟨_,(zf (zn (i:=2) zI.nd rfl (Or.inl rfl) zg)
   (zf (zn (i:=3) zI.nd rfl (Or.inl rfl) zg)
   (zf (jW zY rfl (zbw .L .T rfl T.zip (ac (pv 1) (ac (pv 0) zb))) (Qw (n:=2) rfl (jM (zE (i:=4) zI.nd rfl (Or.inl rfl)) (jM (zE (i:=5) zI.nd rfl (Or.inl rfl)) Zg)))
    (zf (zn (i:=6) zI.nd rfl (Or.inl rfl) (zi zQ (zi qk (zi jL (pv 4) (pv 2)) (cFn F_inverse hr zw (ac (pv 3) (ac (pv 5) zb)))) (pv 5)))
    (zf (zn (i:=2) zI.nd rfl (Or.inl rfl) (zi jX (pv 2) (zi qk (pv 6) (pv 3))))
    (zh (zn (i:=3) zI.nd rfl (Or.inl rfl) (zi qk (pv 3) (pv 5)))))))
   (zf (zN (zx Zt (pv 2) (zi jk (pv 3) zg) (zD _))
    (zh (zk (zi jL (pv 2) (pv 3))))
    zA)
   (zh (zk (pv 2))))))),?_⟩
 try (set_option simprocs false in dsimp only[zr])
 refine⟨_,rfl,_,rfl,l,t1,rfl,⟨_,SqL.of el⟩,⟨_,SqT.of e1⟩,zbN (K:=K) (k1:=.L) (k2:=.T) (xs:=ns.map V.int) (ys:=kept.map V.int)
  (fun i σ H'=>∃(number step:Int) (y4 y5 y6:Option V),σ=[some (.ref t1),some (.ref l),some (.int number),some (.int step),y4,y5,y6]∧zd H H'∧zaB kept ns i number step)
  ⟨0,1,none,none,none,rfl,zd.refl H,zcw kept ns⟩ (fun i σ H' ⟨_,_,_,_,_,_,S,_⟩=>⟨SqL.of (S _ _ el),SqT.of (S _ _ e1)⟩) ?_ ?_⟩
 ·rintro i x y p σ H' hx hy ⟨number,step,y4,y5,y6,rfl,S,U⟩ hp
  obtain⟨r,hr',rfl⟩:=j7 hx
  obtain⟨d,hd,rfl⟩:=j7 hy
  have h2:=rng d (xq hd)
  have hrd:=hrng i d r hd hr'
  have hc:Cop step d:=by rw[U.st];exact zdW copK hd
  have dp:=zby h2.1
  have d6:=d64 h2.1 h2.2
  refine⟨p,_,rfl,SqT.of zc,rfl,_,_,rfl,_,_,rfl,rfl,?_⟩
  refine⟨_,rfl,_,rfl,_,_,rfl,rfl,_,rfl,_,rfl,_,_,rfl,step,d,rfl,rfl,h2.1,h2.2,hc,zlm h2.1 h2.2 (md1 step dp),fun v hv=>?_⟩
  refine⟨_,_,rfl,rfl,.inr (v64 (nn1 hv.lo) hv.hi h2.2),_,rfl,_,_,rfl,rfl,dp,?_⟩
  refine⟨_,rfl,_,rfl,_,rfl,_,_,rfl,rfl,.inl (v64 (md0 _ dp) (md1 _ dp) h2.2),_,_,rfl,rfl,?_⟩
  refine⟨_,rfl,_,rfl,_,_,rfl,rfl,.inr d6,?_⟩
  exact⟨_,_,_,_,_,rfl,S.trans (zd.new hp),zcn (fun x hx=>(rng x hx).1) U hd hr' hrd.1 hrd.2 hv⟩
 ·rintro σ H' ⟨number,step,y4,y5,y6,rfl,S,U⟩
  rw[xa,xa,yJ hlen]at U
  have hs:=U.st
  rw[xS]at hs
  subst hs
  refine⟨_,rfl,_,rfl,_,_,rfl,rfl,⟨by decide,by decide⟩,_,_,rfl,rfl,_,rfl,?_⟩
  by_cases hg:zy kept/2<number
  ·rw[decide_eq_true hg]
   exact zV ⟨_,rfl,_,rfl,_,_,rfl,rfl,k _ H' (zcC U hg) S⟩
  ·rw[decide_eq_false hg]
   exact jd ⟨_,rfl,k _ H' (zec U hg) S⟩
noncomputable abbrev jB:Stmt:=top 35
theorem Y0:zu ["base","figure"] ["base","figure"] (ze jB):=⟨rfl,rfl,rfl,by decide +kernel,rfl,by decide +kernel,by decide +kernel⟩
theorem zan:zq "number_by_kept" jB ["base","figure"]:=je fun _ _ _ _ _ _ _ _=>rfl
theorem zfY (D:Def K mg "number_by_kept" jB)(T:Txt K mg cR cT cB cW cD cP cA cU cI cG cX)(F_number_by_rests:FnS P w K mg base "number_by_rests" ["divisors","rests"] 42 zaa) :
  FnS P w K mg base "number_by_kept" ["base","figure"] 43 Q2:=by
 refine D.ok Y0 zan zS fun f cdv A outer s H vs Q E hr h=>?_
 obtain⟨_,_,rfl,kept,spare,l,ns,B,rfl,el,hlen,hrng,k⟩:=h
 refine⟨_,(zh (zk (cFn F_number_by_rests hr zw (ac (zL jI (pv 0) zg (fun _ _=>rfl)) (ac (qx Qp (pv 1) qW (qV (cBi zP (by rfl) T.len PyProof.Rows.Boot.«len» (ac (zL jI (pv 0) zg (fun _ _=>rfl)) zb)))) zb))))),?_⟩
 try (set_option simprocs false in dsimp only[zr])
 obtain⟨⟨t,rfl,hb⟩,gb⟩:=id B
 obtain⟨t1,t2,e0,e1,e2⟩:=hb.ex
 refine⟨_,rfl,t,_,_,_,rfl,rfl,SqT.of e0,rfl,_,rfl,_,rfl,t,_,_,_,rfl,rfl,SqT.of e0,rfl,t1,_,rfl,.inr (SqT.of e1),_,rfl,l,_,rfl,SqL.of el,fun p hp=>?_⟩
 have ec:JP (ns.map V.int) none (some ((kept.map V.int).length:Int))=(ns.take kept.length).map V.int:=by rw[xa,zbq (by omega),xQ]
 rw[ec]
 refine⟨_,_,rfl,t1,p,kept,ns.take kept.length,rfl,rfl,(zd.new hp) _ _ e1,zc,fun d hd=>gb.rng d (xJ _ hd),gb.copK,by rw[ye];omega,zjm hrng,fun v H' hk S=>?_⟩
 exact k v H' (zic hk) ((zd.new hp).trans S)
noncomputable abbrev jt:Stmt:=top 34
theorem qD:zu ["base","figure","divisors","rest","divisor"] ["base","figure"] (ze jt):=⟨rfl,rfl,rfl,by decide +kernel,rfl,by decide +kernel,by decide +kernel⟩
theorem Yx:zq "refuse_no_figure" jt ["base","figure"]:=je fun _ _ _ _ _ _ _ _=>rfl
theorem ziy (D:Def K mg "refuse_no_figure" jt)(T:Txt K mg cR cT cB cW cD cP cA cU cI cG cX)(F_divisors_of:FnS P w K mg base "divisors_of" ["base"] 1 QE):FnS P w K mg base "refuse_no_figure" ["base","figure"] 2 (Zv cB):=by
 refine D.ok qD Yx zS fun f cdv A outer s H vs Q E hr h=>?_
 obtain⟨_,_,rfl,kept,spare,l,ns,B,rfl,el,yes,no⟩:=h
 refine⟨_,(zf (zn (i:=2) qD.nd rfl (Or.inl rfl) (cFn F_divisors_of hr zw (ac (pv 0) zb)))
   (zf (zN (zx Zs (cBi zP (by rfl) T.len PyProof.Rows.Boot.«len» (ac (pv 1) zb)) (cBi zP (by rfl) T.len PyProof.Rows.Boot.«len» (ac (pv 2) zb)) (zD _))
    (zh (jK T.x_BadFigure T.BadFigure (ac zO zb)))
    zA)
   (zh (jW zY rfl (zbw .L .T rfl T.zip (ac (pv 1) (ac (pv 2) zb))) (Qw (n:=2) rfl (jM (zE (i:=3) qD.nd rfl (Or.inl rfl)) (jM (zE (i:=4) qD.nd rfl (Or.inl rfl)) Zg)))
    (zh (zN (J4 (Z2 ZN qA zg (pv 3) (pv 4)))
     (zh (jK T.x_BadFigure T.BadFigure (ac zO zb)))
     zA)))))),?_⟩
 try (set_option simprocs false in dsimp only[zr])
 refine⟨_,rfl,_,rfl,kept,spare,B,fun p H1 S1 ep=>?_⟩
 obtain⟨⟨t,rfl,hb⟩,gb⟩:=id B
 have el1:=S1 _ _ el
 refine⟨_,rfl,l,_,rfl,.inl (SqL.of el1),_,rfl,p,_,rfl,.inr (SqT.of ep),rfl,_,rfl,?_⟩
 rw[xa,xa]
 by_cases hl:ns.length=(kept++spare).length
 case neg =>
  have hb:(!decide (V.int (ns.length:Int)=V.int ((kept++spare).length:Int)))=true:=by
   simp only[V.int.injEq,yl,decide_eq_false_iff_not]
   omega
  rw[hb]
  exact zV ⟨by decide,no (fun v=>hl v.len) H1 S1⟩
 refine QX (by rw[hl]) ?_
 refine⟨_,rfl,_,rfl,l,p,rfl,⟨_,SqL.of el1⟩,⟨_,SqT.of ep⟩,zbN (K:=K) (k1:=.L) (k2:=.T) (xs:=ns.map V.int) (ys:=(kept++spare).map V.int)
  (fun i σ H'=>∃y3 y4,σ=[some (.ref t),some (.ref l),some (.ref p),y3,y4]∧zd H1 H'∧∀(j:Nat) (d r:Int),j<i→(kept++spare)[j]? = some d→ns[j]? = some r→0≤r∧r<d)
  ⟨none,none,rfl,zd.refl H1,fun j _ _ h=>absurd h (yX j)⟩ (fun i σ H' ⟨_,_,_,S,_⟩=>⟨SqL.of (S _ _ el1),SqT.of (S _ _ ep)⟩) ?_ ?_⟩
 ·rintro i x y a σ H' hx hy ⟨y3,y4,rfl,S,U⟩ ha
  obtain⟨r,hr',rfl⟩:=j7 hx
  obtain⟨d,hd,rfl⟩:=j7 hy
  have S':=S1.trans (S.trans (zd.new (o:=.tup [.int r,.int d]) ha))
  refine⟨a,_,rfl,SqT.of zc,rfl,_,_,rfl,_,_,rfl,rfl,?_⟩
  refine⟨_,rfl,_,_,rfl,rfl,_,rfl,?_⟩
  by_cases h0:0≤r
  case neg =>
   rw[decide_eq_false h0]
   exact jd ⟨_,rfl,zV ⟨by decide,no (fun v=>h0 (v.rng i d r hd hr').1) _ S'⟩⟩
  rw[decide_eq_true h0]
  refine zV ⟨_,rfl,_,_,rfl,rfl,_,rfl,?_⟩
  by_cases h1:r<d
  case neg =>
   rw[decide_eq_false h1]
   exact zV ⟨by decide,no (fun v=>h1 (v.rng i d r hd hr').2) _ S'⟩
  rw[decide_eq_true h1]
  refine jd ⟨_,_,rfl,S.trans (zd.new ha),fun j d' r' hj hd' hr2=>?_⟩
  rcases yy j i with h|h
  ·exact U j d' r' h hd' hr2
  ·have e:j=i:=by omega
   subst e
   rw[hd]at hd';cases hd'
   rw[hr']at hr2;cases hr2
   exact⟨h0,h1⟩
 ·rintro σ H' ⟨y3,y4,rfl,S,U⟩
  rw[xa,xa,hl,Nat.min_self]at U
  exact yes ⟨hl,fun j d r hd hr'=>U j d r (xv.mp hd).1 hd hr'⟩ H' (S1.trans S)
noncomputable abbrev Jb:Stmt:=top 31
theorem zex:zu ["base","figure"] ["base","figure"] (ze Jb):=⟨rfl,rfl,rfl,by decide +kernel,rfl,by decide +kernel,by decide +kernel⟩
theorem zfU:zq "is_right" Jb ["base","figure"]:=je fun _ _ _ _ _ _ _ _=>rfl
theorem zew (D:Def K mg "is_right" Jb)(T:Txt K mg cR cT cB cW cD cP cA cU cI cG cX)(F_refuse_no_figure:FnS P w K mg base "refuse_no_figure" ["base","figure"] 2 (Zv cB))(F_number_by_kept:FnS P w K mg base "number_by_kept" ["base","figure"] 43 Q2)(F_rests_of:FnS P w K mg base "rests_of" ["base","number"] 2 Zj) :
  FnS P w K mg base "is_right" ["base","figure"] 44 (Qt cB):=by
 refine D.ok zex zfU zS fun f cdv A outer s H vs Q E hr h=>?_
 obtain⟨_,_,rfl,kept,spare,l,ns,B,rfl,el,yes,no⟩:=h
 refine⟨_,(zf (jr (cFn F_refuse_no_figure hr zG (ac (pv 0) (ac (pv 1) zb))))
   (zh (zk (Zm (zfz K hr.units) (cFn F_rests_of hr zw (ac (pv 0) (ac (cFn F_number_by_kept hr zw (ac (pv 0) (ac (pv 1) zb))) zb))) (pv 1) (zD _))))),?_⟩
 try (set_option simprocs false in dsimp only[zr])
 refine⟨_,rfl,_,rfl,_,_,rfl,kept,spare,l,ns,B,rfl,el,fun hv H1 S1=>?_,no⟩
 refine⟨_,rfl,_,rfl,_,rfl,_,_,rfl,kept,spare,l,ns,B.up S1,rfl,S1 _ _ el,hv.kept_len,hv.kept_rng,fun v H2 hk S2=>?_⟩
 refine⟨_,_,rfl,kept,spare,v,B.up (S1.trans S2),rfl,fun lr H3 S3 hlr e3=>?_⟩
 have SA:=S1.trans (S2.trans S3)
 refine⟨_,rfl,_,_,rdL e3,rdL (SA _ _ el),Ji _,Ji _,?_⟩
 rw[Q4]
 exact yes hv v H3 hk SA
noncomputable abbrev qS:Stmt:=top 29
theorem zd1:zu ["base","figure"] ["base","figure"] (ze qS):=⟨rfl,rfl,rfl,by decide +kernel,rfl,by decide +kernel,by decide +kernel⟩
theorem zev:zq "number_of" qS ["base","figure"]:=je fun _ _ _ _ _ _ _ _=>rfl
theorem zc7 (D:Def K mg "number_of" qS)(T:Txt K mg cR cT cB cW cD cP cA cU cI cG cX)(F_is_right:FnS P w K mg base "is_right" ["base","figure"] 44 (Qt cB))(F_number_by_kept:FnS P w K mg base "number_by_kept" ["base","figure"] 43 Q2) :
  FnS P w K mg base "number_of" ["base","figure"] 45 (zR cB cW):=by
 refine D.ok zd1 zev zS fun f cdv A outer s H vs Q E hr h=>?_
 obtain⟨_,_,rfl,kept,spare,l,ns,B,rfl,el,yes,wr,no⟩:=h
 refine⟨_,(zf (zN (J4 (Z4 (cFn F_is_right hr zG (ac (pv 0) (ac (pv 1) zb)))))
    (zh (jK T.x_Wrong T.Wrong (ac zO zb)))
    zA)
   (zh (zk (cFn F_number_by_kept hr zw (ac (pv 0) (ac (pv 1) zb)))))),?_⟩
 try (set_option simprocs false in dsimp only[zr])
 refine⟨_,rfl,_,rfl,_,_,rfl,kept,spare,l,ns,B,rfl,el,fun hv v H1 hk S1=>⟨_,rfl,?_⟩,no⟩
 by_cases he:zF (kept++spare) v=ns
 ·rw[decide_eq_true he]
  refine jd ⟨_,rfl,_,rfl,_,_,rfl,kept,spare,l,ns,B.up S1,rfl,S1 _ _ el,hv.kept_len,hv.kept_rng,fun u H2 hu S2=>?_⟩
  rw[Qr B.2 hv.kept_len hu hk]
  exact yes hv v H2 hk he (S1.trans S2)
 ·rw[decide_eq_false he]
  exact zV ⟨by decide,wr hv v H1 hk he S1⟩
noncomputable abbrev jp:Stmt:=top 33
theorem J3:zu ["base","figures","figure"] ["base","figures"] (ze jp):=⟨rfl,rfl,rfl,by decide +kernel,rfl,by decide +kernel,by decide +kernel⟩
theorem Yf:zq "refuse_no_figures" jp ["base","figures"]:=je fun _ _ _ _ _ _ _ _=>rfl
theorem zcH (D:Def K mg "refuse_no_figures" jp)(F_refuse_no_figure:FnS P w K mg base "refuse_no_figure" ["base","figure"] 2 (Zv cB)) :
  FnS P w K mg base "refuse_no_figures" ["base","figures"] 3 (zag cB):=by
 refine D.ok J3 Yf zS fun f cdv A outer s H vs Q E hr h=>?_
 obtain⟨_,_,rfl,kept,spare,as,fs,B,⟨lf,rfl,ef,F⟩,yes,bad⟩:=h
 refine⟨_,(zh (jW zY rfl (jg (pv 1)) (zE (i:=2) J3.nd rfl (Or.inl rfl))
    (zh (jr (cFn F_refuse_no_figure hr zG (ac (pv 0) (ac (pv 2) zb))))))),?_⟩
 try (set_option simprocs false in dsimp only[zr])
 obtain⟨⟨t,rfl,hb⟩,gb⟩:=id B
 refine⟨_,rfl,lf,rfl,⟨_,SqL.of ef⟩,qQ (K:=K) (xs:=as.map V.ref) (fun i σ H'=>∃y,σ=[some (.ref t),some (.ref lf),y]∧zd H H'∧∀(j:Nat) f,j<i→fs[j]? = some f→zK (kept++spare) f)
  ⟨none,rfl,zd.refl H,fun j _ h=>absurd h (yX j)⟩ (fun i σ H' _ ⟨_,_,S,_⟩=>SqL.of (S _ _ ef)) ?_ ?_⟩
 ·rintro i x σ H' hx ⟨y,rfl,S,g⟩
  obtain⟨a,ha,rfl⟩:=Jh hx
  obtain⟨f,hf,ea⟩:=F.get ha
  refine⟨_,rfl,_,rfl,_,_,rfl,kept,spare,a,f,B.up S,rfl,S _ _ ea,fun hv H'' S'=>⟨_,rfl,S.trans S',fun j f' hj hf'=>?_⟩,fun hv H'' S'=>bad ⟨f,xq hf,hv⟩ H'' (S.trans S')⟩
  rcases yy j i with h|h
  ·exact g j f' h hf'
  ·have e:j=i:=by omega
   rw[e,hf]at hf';cases hf'
   exact hv
 ·rintro σ H' ⟨y,rfl,S,g⟩
  rw[xa,F.len]at g
  exact yes (fun f hf=>by obtain⟨j,hj⟩:=y9.mp hf;exact g j f (xv.mp hj).1 hj) H' S
noncomputable abbrev qd:Stmt:=top 30
theorem zcM:zu ["base","figures"] ["base","figures"] (ze qd):=⟨rfl,rfl,rfl,by decide +kernel,rfl,by decide +kernel,by decide +kernel⟩
theorem zea:zq "numbers_of" qd ["base","figures"]:=je fun _ _ _ _ _ _ _ _=>rfl
theorem zcQ (D:Def K mg "numbers_of" qd)(F_refuse_no_figures:FnS P w K mg base "refuse_no_figures" ["base","figures"] 3 (zag cB))(F_number_of:FnS P w K mg base "number_of" ["base","figure"] 45 (zR cB cW)) :
  FnS P w K mg base "numbers_of" ["base","figures"] 46 (QI cB cW):=by
 refine D.ok zcM zea zS fun f cdv A outer s H vs Q E hr h=>?_
 obtain⟨_,_,rfl,kept,spare,as,fs,B,R,hsz,hcase⟩:=h
 refine⟨_,(zf (jr (cFn F_refuse_no_figures hr zG (ac (pv 0) (ac (pv 1) zb))))
   (zh (zk (QK (lv:=1) (caps:=[0]) (N':=["figure","base"]) (xe:=fun C s H fp=>Z5 _ E _ C _ s H fp) (fun _ _ _ _ _ _ Q acc _ _ I f hC z=>ZX (Q:=Q) (acc:=acc) I f hC z) rfl (zW.caps (sc:=ze qd) rfl (by decide +kernel) (by decide +kernel) (by decide +kernel) rfl rfl (qj rfl rfl rfl)) (zZ (by decide)) (jg (pv 1)) (fun _ _ _ _=>zE (i:=0) (show(["figure","base"]:List Str).Nodup by decide +kernel) rfl (Or.inl rfl)) (fun _ _ _ _=>(cFn F_number_of hr zaG (ac (pv 1) (ac (pv 0) zb)))))))),?_⟩
 try (set_option simprocs false in dsimp only[zr])
 obtain⟨lf,rfl,ef,F⟩:=id R
 have gb:=B.2
 have vr:∀{ns:List Int},fs=ns.map (zF (kept++spare))→∀f∈fs,zK (kept++spare) f:=fun {ns} e f hf=>by
  rw[e]at hf
  obtain⟨n,_,rfl⟩:=xI.mp hf
  exact JH (fun d hd=>(gb.rng d hd).1) n
 refine⟨_,rfl,_,rfl,_,_,rfl,kept,spare,as,fs,B,R,fun hv H' S=>?_,fun⟨f,hf,hn⟩=>?_⟩
 rotate_left
 ·rcases hcase with⟨ns,e,_⟩|⟨_,e⟩|⟨v,_⟩
  ·exact absurd (vr e f hf) hn
  ·exact e
  ·exact absurd (v f hf) hn
 have wr:∀f∈fs,qc kept spare f→∀H'',zd H' H''→E (.ref cW) none H'':=fun f hf hw H'' S'=>by
  rcases hcase with⟨ns,e,ft,_⟩|⟨⟨g,hg,hn⟩,_⟩|⟨_,_,e⟩
  ·rw[e]at hf
   obtain⟨n,hn,rfl⟩:=xI.mp hf
   exact(js.notWrong ⟨rfl,ft n hn⟩ hw).elim
  ·exact absurd (hv g hg) hn
  ·exact e H'' (S.trans S')
 refine⟨_,rfl,lf,rfl,⟨_,SqL.of (S _ _ ef)⟩,zkL (K:=K) (SqL.of (S _ _ ef)) (by rw[xa];exact hsz) (fun x=>zgP kept spare (zgH H x)) (fun x=>∃n,js kept spare (zgH H x) n) ?_ ?_⟩
 ·intro x hx H2 Q' S2 q
  obtain⟨a,ha,rfl⟩:=xI.mp hx
  obtain⟨i,hi⟩:=y9.mp ha
  obtain⟨f,hf,ea⟩:=F.get hi
  have hf:=xq hf
  have a2:=(S.trans S2) _ _ ea
  have B2:=B.up (S.trans S2)
  rw[zbT ea]at q
  rcases YH (kept:=kept) (spare:=spare) f with⟨n,hn⟩|hw|hn
  ·rw[zbr gb hn]at q
   exact⟨_,rfl,_,rfl,ZG B2 a2 hn fun H3 S3=>q ⟨n,hn⟩ H3 S3⟩
  ·exact⟨_,rfl,_,rfl,ZY B2 a2 hw fun H3 S3=>wr f hf hw H3 (S2.trans S3)⟩
  ·exact absurd (hv f hf) hn
 ·intro hall D H2 hD S2 eD
  rcases hcase with⟨ns,e,ft,k⟩|⟨⟨g,hg,hn⟩,_⟩|⟨_,⟨g,hg,hw⟩,_⟩
  ·exact k D H2 (S.trans S2) (S.free hD) (by rw[eD,F.nums gb e ft])
  ·exact absurd (hv g hg) hn
  ·obtain⟨a,ha,ea⟩:=F.back hg
   obtain⟨n,hn⟩:=hall (.ref a) (xI.mpr ⟨a,ha,rfl⟩)
   rw[zbT ea]at hn
   exact(hn.notWrong hw).elim
end
section
variable {P:Program}{w:World}{K:xb}{mg:Str→Option Value}{base:Heap}{cR cT cB cW cD cP cA cU cI cG cX:Addr}
noncomputable abbrev jz:Stmt:=top 71
theorem jf:zu ["number","piece","words","left"] ["number"] (ze jz):=⟨rfl,rfl,rfl,by decide +kernel,rfl,by decide +kernel,by decide +kernel⟩
theorem ZD:zq "number_text" jz ["number"]:=qH fun _ _ _ _ _ _ _=>rfl
theorem zg2 (D:Def K mg "number_text" jz):FnS P w K mg base "number_text" ["number"] 1 spF :=
 D.ok jf ZD (fun _ _ _ _ z=>z.elim) fun f cdv A outer s H vs Q E hr h=>h.elim
theorem zhH (D:Def K mg "number_text" jz)(T:Txt K mg cR cT cB cW cD cP cA cU cI cG cX)(F_number_text:FnS P w K mg base "number_text" ["number"] 1 spF):FnS P w K mg base "number_text" ["number"] 2 zcd:=by
 refine D.ok jf ZD jC fun f cdv A outer s H vs Q E hr h=>?_
 obtain⟨_,rfl,n,rfl,n0,hn,q⟩:=h
 refine⟨_,(zf (zN (zx qA (pv 0) zg (zD _))
    (zh (zk (zi ZK zO (cFn (hkk:=xr _) F_number_text hr zw (ac (QL ZU (pv 0)) zb)))))
    zA)
   (zf (zn (i:=1) jf.nd rfl (Or.inl rfl) (zi zaX zg zg))
   (zf (zn (i:=2) jf.nd rfl (Or.inl rfl) (zJ zb))
   (zf (zn (i:=3) jf.nd rfl (Or.inl rfl) (pv 0))
   (zf (QO zY (zx zkh (pv 3) (pv 1) (zD _))
    (zf (jr (qU xR ya yb jT (pv 2) (ac (qU yY vx vy zdR (cTy QZ (by rfl) T.str PyProof.Rows.Boot.«str» (ac (zi zQ (pv 3) (pv 1)) zb)) (ac zg zb)) zb)))
    (zh (zn (i:=3) jf.nd rfl (Or.inl rfl) (zi jk (pv 3) (pv 1))))))
   (zf (jr (qU xR ya yb jT (pv 2) (ac (cTy QZ (by rfl) T.str PyProof.Rows.Boot.«str» (ac (pv 3) zb)) zb)))
   (zh (zk (zaN zO (pv 2) rfl rfl T.reversed))))))))),?_⟩
 try (set_option simprocs false in dsimp only[zr])
 refine⟨_,rfl,_,_,rfl,rfl,_,rfl,Jz (decide_eq_false (by omega)) ?_⟩
 refine⟨_,_,rfl,rfl,⟨by decide,by decide,by decide⟩,by decide,fun lw fw=>⟨_,rfl,?_⟩⟩
 refine⟨fun m σ H'=>m=0∧H'=upd H lw (.lst [])∧σ=[some (.int n),some (.int (10^60)),some (.ref lw),some (.int n)],⟨0,rfl,rfl,rfl⟩,?_⟩
 rintro m σ H' ⟨rfl,rfl,rfl⟩
 have lt:¬((10:Int)^60≤n):=fun h=>by
  have h2:n.natAbs=n.toNat:=by omega
  rw[h2]at hn
  have:(n.toNat:Int)<((10^60:Nat):Int):=vg.mpr hn
  rw[vR n0]at this
  exact absurd h (by
   have e:((10^60:Nat):Int)=(10:Int)^60:=by decide +kernel
   rw[←e];omega)
 refine⟨_,rfl,_,rfl,_,_,rfl,rfl,_,rfl,Jz (decide_eq_false lt) ?_⟩
 refine⟨_,rfl,.inl ⟨rfl,_,SqL.of zc⟩,_,rfl,.int n rfl (zhX hn) ⟨lw,_,_,rfl,rfl,zc,by decide,?_⟩⟩
 have S1:zd H (upd (upd H lw (.lst [])) lw (.lst ([]++[.str (Str.ofString (toString n))]))):=(zd.new fw).upd fw
 exact⟨_,rfl,_,rfl,.mk lw [tx n] rfl zc (za2 (x6 (zaK hn) (by decide))) (q _ S1)⟩
theorem zjV (D:Def K mg "number_text" jz)(T:Txt K mg cR cT cB cW cD cP cA cU cI cG cX)(F_number_text:FnS P w K mg base "number_text" ["number"] 2 zcd):FnS P w K mg base "number_text" ["number"] 3 zao:=by
 refine D.ok jf ZD jC fun f cdv A outer s H vs Q E hr h=>?_
 obtain⟨_,rfl,n,rfl,hn,q⟩:=h
 refine⟨_,(zf (zN (zx qA (pv 0) zg (zD _))
    (zh (zk (zi ZK zO (cFn (hkk:=xr _) F_number_text hr zw (ac (QL ZU (pv 0)) zb)))))
    zA)
   (zf (zn (i:=1) jf.nd rfl (Or.inl rfl) (zi zaX zg zg))
   (zf (zn (i:=2) jf.nd rfl (Or.inl rfl) (zJ zb))
   (zf (zn (i:=3) jf.nd rfl (Or.inl rfl) (pv 0))
   (zf (QO zY (zx zkh (pv 3) (pv 1) (zD _))
    (zf (jr (qU xR ya yb jT (pv 2) (ac (qU yY vx vy zdR (cTy QZ (by rfl) T.str PyProof.Rows.Boot.«str» (ac (zi zQ (pv 3) (pv 1)) zb)) (ac zg zb)) zb)))
    (zh (zn (i:=3) jf.nd rfl (Or.inl rfl) (zi jk (pv 3) (pv 1))))))
   (zf (jr (qU xR ya yb jT (pv 2) (ac (cTy QZ (by rfl) T.str PyProof.Rows.Boot.«str» (ac (pv 3) zb)) zb)))
   (zh (zk (zaN zO (pv 2) rfl rfl T.reversed))))))))),?_⟩
 try (set_option simprocs false in dsimp only[zr])
 by_cases n0:n<0
 ·refine⟨_,rfl,_,_,rfl,rfl,_,rfl,Zc (decide_eq_true n0) ?_⟩
  have hn':(-n).natAbs<10^60:=by rw[Int.natAbs_neg];exact hn
  refine⟨_,rfl,_,rfl,_,rfl,-n,rfl,by omega,hn',fun H' S=>⟨_,_,rfl,rfl,?_,?_⟩⟩
  ·have:=zaK hn'
   show 1+(tx (-n)).length≤sizeLine
   have h2:62≤sizeLine:=by decide
   omega
  ·rw[ziK n0];exact q H' S
 refine⟨_,rfl,_,_,rfl,rfl,_,rfl,Jz (decide_eq_false n0) ?_⟩
 refine⟨_,_,rfl,rfl,⟨by decide,by decide,by decide⟩,by decide,fun lw fw=>⟨_,rfl,?_⟩⟩
 refine⟨fun m σ H'=>m=0∧H'=upd H lw (.lst [])∧σ=[some (.int n),some (.int (10^60)),some (.ref lw),some (.int n)],⟨0,rfl,rfl,rfl⟩,?_⟩
 rintro m σ H' ⟨rfl,rfl,rfl⟩
 have lt:¬((10:Int)^60≤n):=fun h=>by
  have h2:n.natAbs=n.toNat:=by omega
  rw[h2]at hn
  have:(n.toNat:Int)<((10^60:Nat):Int):=vg.mpr hn
  rw[vR (by omega)]at this
  exact absurd h (by
   have e:((10^60:Nat):Int)=(10:Int)^60:=by decide +kernel
   rw[←e];omega)
 refine⟨_,rfl,_,rfl,_,_,rfl,rfl,_,rfl,Jz (decide_eq_false lt) ?_⟩
 refine⟨_,rfl,.inl ⟨rfl,_,SqL.of zc⟩,_,rfl,.int n rfl (zhX hn) ⟨lw,_,_,rfl,rfl,zc,by decide,?_⟩⟩
 have S1:zd H (upd (upd H lw (.lst [])) lw (.lst ([]++[.str (Str.ofString (toString n))]))):=(zd.new fw).upd fw
 exact⟨_,rfl,_,rfl,.mk lw [tx n] rfl zc (za2 (x6 (zaK hn) (by decide))) (q _ S1)⟩
noncomputable def Gr (g:St→Hp→Prop):St→Hp→Prop:=g
noncomputable abbrev JA:Stmt:=top 70
theorem zgb:zu ["base","figure"] ["base","figure"] (ze JA):=⟨rfl,rfl,rfl,by decide +kernel,rfl,by decide +kernel,by decide +kernel⟩
theorem zha:zq "written" JA ["base","figure"]:=je fun _ _ _ _ _ _ _ _=>rfl
theorem zf2 (D:Def K mg "written" JA)(F_number_of:FnS P w K mg base "number_of" ["base","figure"] 45 (zR cB cW))(F_number_text:FnS P w K mg base "number_text" ["number"] 3 zao):FnS P w K mg base "written" ["base","figure"] 46 (zaS cB cW):=by
 refine D.ok zgb zha zS fun f cdv A outer s H vs Q E hr h=>?_
 obtain⟨_,_,rfl,kept,spare,l,ns,B,rfl,el,right,wrong,bad⟩:=h
 refine⟨_,(zh (zk (cFn F_number_text hr zw (ac (cFn F_number_of hr zG (ac (pv 0) (ac (pv 1) zb))) zb)))),?_⟩
 try (set_option simprocs false in dsimp only[zr])
 rcases YH (kept:=kept) (spare:=spare) ns with⟨n,hn⟩|hw|hn
 ·exact⟨_,rfl,_,rfl,ZG B el hn fun H1 S1=>⟨_,rfl,n,rfl,zl3 B.2 hn.2,fun H2 S2=>right n hn H2 (S1.trans S2)⟩⟩
 ·exact⟨_,rfl,_,rfl,ZY B el hw fun H1 S1=>wrong hw H1 S1⟩
 ·exact⟨_,rfl,_,rfl,zba B el hn fun H1 S1=>bad hn H1 S1⟩
noncomputable abbrev Zk:Stmt:=top 42
theorem zdX:zu ["base","one","other","numbers"] ["base","one","other"] (ze Zk):=⟨rfl,rfl,rfl,by decide +kernel,rfl,by decide +kernel,by decide +kernel⟩
theorem zla:zq "added" Zk ["base","one","other"]:=qz fun _ _ _ _ _ _ _ _ _=>rfl
theorem ziO (D:Def K mg "added" Zk)(F_numbers_of:FnS P w K mg base "numbers_of" ["base","figures"] 46 (ZR cB cW))(F_figure_of:FnS P w K mg base "figure_of" ["base","number"] 5 (qb cT)) :
  FnS P w K mg base "added" ["base","one","other"] 47 (QJ (WC cT cB cW cD cP cA cU) fun x y=>x+y):=by
 refine D.ok zdX zla jY fun f cdv A outer s H vs Q E hr h=>?_
 obtain⟨_,_,_,rfl,kept,spare,n1,n2,w1,w2,B,⟨l1,ns1,rfl,e1,_,f1,F1⟩,⟨l2,ns2,rfl,e2,_,f2,F2⟩,yes,no⟩:=h
 refine⟨_,(zf (zn (i:=3) zdX.nd rfl (Or.inl rfl) (cFn F_numbers_of hr zG (ac (pv 0) (ac (zJ (ac (pv 1) (ac (pv 2) zb))) zb))))
   (zh (zk (cFn F_figure_of hr zG (ac (pv 0) (ac (zi jX (zL qg (pv 3) zg (fun _ _=>rfl)) (zL qg (pv 3) zg (fun _ _=>rfl))) zb)))))),?_⟩
 try (set_option simprocs false in dsimp only[zr])
 refine⟨_,rfl,_,rfl,_,rfl,(by show 2≤sizeLine;decide),fun lf gf=>?_⟩
 have N:=zd.new (o:=.lst [.ref l1,.ref l2]) gf
 refine QN (B.up N) zc (N _ _ e1) (N _ _ e2) f1 f2 F1 F2 (fun hf hw p H1 S1 hp ep=>?_) (fun hb H1 S1=>?_) (fun hf hw H1 S1=>?_)
 ·refine⟨_,rfl,_,rfl,p,_,_,_,rfl,rfl,SqL.of ep,rfl,_,rfl,p,_,_,_,rfl,rfl,SqL.of ep,rfl,_,_,rfl,rfl,?_⟩
  have S1':=N.trans S1
  refine⟨_,_,rfl,kept,spare,n1+n2,B.up S1',rfl,fun hx l H2 S2 hl el=>?_,fun hx H2 S2=>?_⟩
  ·exact yes (by unfold jj;rw[if_neg hf,if_neg hw,if_pos hx]) l H2 (S1'.trans S2) (S1'.free hl) el
  ·exact no "great" cT (by unfold jj;rw[if_neg hf,if_neg hw,if_neg hx]) Zh H2 (S1'.trans S2)
 ·exact no "figure" cB (by unfold jj;rw[if_pos hb]) J1 H1 (N.trans S1)
 ·exact no "wrong" cW (by unfold jj;rw[if_neg hf,if_pos hw]) Jd H1 (N.trans S1)
noncomputable abbrev Zn:Stmt:=top 43
theorem zdv:zu ["base","one","other","numbers"] ["base","one","other"] (ze Zn):=⟨rfl,rfl,rfl,by decide +kernel,rfl,by decide +kernel,by decide +kernel⟩
theorem zlb:zq "taken" Zn ["base","one","other"]:=qz fun _ _ _ _ _ _ _ _ _=>rfl
theorem zjY (D:Def K mg "taken" Zn)(F_numbers_of:FnS P w K mg base "numbers_of" ["base","figures"] 46 (ZR cB cW))(F_figure_of:FnS P w K mg base "figure_of" ["base","number"] 5 (qb cT)) :
  FnS P w K mg base "taken" ["base","one","other"] 47 (QJ (WC cT cB cW cD cP cA cU) fun x y=>x - y):=by
 refine D.ok zdv zlb jY fun f cdv A outer s H vs Q E hr h=>?_
 obtain⟨_,_,_,rfl,kept,spare,n1,n2,w1,w2,B,⟨l1,ns1,rfl,e1,_,f1,F1⟩,⟨l2,ns2,rfl,e2,_,f2,F2⟩,yes,no⟩:=h
 refine⟨_,(zf (zn (i:=3) zdv.nd rfl (Or.inl rfl) (cFn F_numbers_of hr zG (ac (pv 0) (ac (zJ (ac (pv 1) (ac (pv 2) zb))) zb))))
   (zh (zk (cFn F_figure_of hr zG (ac (pv 0) (ac (zi jL (zL qg (pv 3) zg (fun _ _=>rfl)) (zL qg (pv 3) zg (fun _ _=>rfl))) zb)))))),?_⟩
 try (set_option simprocs false in dsimp only[zr])
 refine⟨_,rfl,_,rfl,_,rfl,(by show 2≤sizeLine;decide),fun lf gf=>?_⟩
 have N:=zd.new (o:=.lst [.ref l1,.ref l2]) gf
 refine QN (B.up N) zc (N _ _ e1) (N _ _ e2) f1 f2 F1 F2 (fun hf hw p H1 S1 hp ep=>?_) (fun hb H1 S1=>?_) (fun hf hw H1 S1=>?_)
 ·refine⟨_,rfl,_,rfl,p,_,_,_,rfl,rfl,SqL.of ep,rfl,_,rfl,p,_,_,_,rfl,rfl,SqL.of ep,rfl,_,_,rfl,rfl,?_⟩
  have S1':=N.trans S1
  refine⟨_,_,rfl,kept,spare,n1 - n2,B.up S1',rfl,fun hx l H2 S2 hl el=>?_,fun hx H2 S2=>?_⟩
  ·exact yes (by unfold jj;rw[if_neg hf,if_neg hw,if_pos hx]) l H2 (S1'.trans S2) (S1'.free hl) el
  ·exact no "great" cT (by unfold jj;rw[if_neg hf,if_neg hw,if_neg hx]) Zh H2 (S1'.trans S2)
 ·exact no "figure" cB (by unfold jj;rw[if_pos hb]) J1 H1 (N.trans S1)
 ·exact no "wrong" cW (by unfold jj;rw[if_neg hf,if_pos hw]) Jd H1 (N.trans S1)
noncomputable abbrev JT:Stmt:=top 45
theorem zhT:zu ["base","one"] ["base","one"] (ze JT):=⟨rfl,rfl,rfl,by decide +kernel,rfl,by decide +kernel,by decide +kernel⟩
theorem zjd:zq "turned" JT ["base","one"]:=je fun _ _ _ _ _ _ _ _=>rfl
theorem zho (D:Def K mg "turned" JT)(F_number_of:FnS P w K mg base "number_of" ["base","figure"] 45 (zR cB cW))(F_figure_of:FnS P w K mg base "figure_of" ["base","number"] 5 (qb cT)) :
  FnS P w K mg base "turned" ["base","one"] 46 (zdm (WC cT cB cW cD cP cA cU) fun x=>0 - x):=by
 refine D.ok zhT zjd zS fun f cdv A outer s H vs Q E hr h=>?_
 obtain⟨_,_,rfl,kept,spare,n1,w1,B,⟨l1,ns1,rfl,e1,_,f1,F1⟩,yes,no⟩:=h
 refine⟨_,(zh (zk (cFn F_figure_of hr zG (ac (pv 0) (ac (QL ZU (cFn F_number_of hr zG (ac (pv 0) (ac (pv 1) zb)))) zb))))),?_⟩
 try (set_option simprocs false in dsimp only[zr])
 refine⟨_,rfl,_,rfl,_,rfl,YW B e1 f1 F1 (fun hf hw H1 S1=>?_) (fun hb H1 S1=>?_) (fun hf hw H1 S1=>?_)⟩
 ·have e0:-n1=0 - n1:=by omega
  refine⟨_,rfl,?_⟩
  refine⟨_,_,rfl,kept,spare,-n1,B.up S1,rfl,fun hx l H2 S2 hl el=>?_,fun hx H2 S2=>?_⟩
  ·rw[e0]at hx el
   exact yes (by unfold jj;rw[if_neg hf,if_neg hw,if_pos hx]) l H2 (S1.trans S2) (S1.free hl) el
  ·rw[e0]at hx
   exact no "great" cT (by unfold jj;rw[if_neg hf,if_neg hw,if_neg hx]) Zh H2 (S1.trans S2)
 ·exact no "figure" cB (by unfold jj;rw[if_pos hb]) J1 H1 S1
 ·exact no "wrong" cW (by unfold jj;rw[if_neg hf,if_pos hw]) Jd H1 S1
noncomputable abbrev qq:Stmt:=top 44
theorem Q8:zu ["base","one","other","numbers"] ["base","one","other"] (ze qq):=⟨rfl,rfl,rfl,by decide +kernel,rfl,by decide +kernel,by decide +kernel⟩
theorem zeo:zq "multiplied" qq ["base","one","other"]:=qz fun _ _ _ _ _ _ _ _ _=>rfl
theorem zcP (D:Def K mg "multiplied" qq)(F_numbers_of:FnS P w K mg base "numbers_of" ["base","figures"] 46 (ZR cB cW))(F_figure_of:FnS P w K mg base "figure_of" ["base","number"] 5 (qb cT)) :
  FnS P w K mg base "multiplied" ["base","one","other"] 47 (QJ (WC cT cB cW cD cP cA cU) fun x y=>x*y):=by
 refine D.ok Q8 zeo jY fun f cdv A outer s H vs Q E hr h=>?_
 obtain⟨_,_,_,rfl,kept,spare,n1,n2,w1,w2,B,⟨l1,ns1,rfl,e1,_,f1,F1⟩,⟨l2,ns2,rfl,e2,_,f2,F2⟩,yes,no⟩:=h
 refine⟨_,(zf (zn (i:=3) Q8.nd rfl (Or.inl rfl) (cFn F_numbers_of hr zG (ac (pv 0) (ac (zJ (ac (pv 1) (ac (pv 2) zb))) zb))))
   (zh (zk (cFn F_figure_of hr zG (ac (pv 0) (ac (zi zeU (zL qg (pv 3) zg (fun _ _=>rfl)) (zL qg (pv 3) zg (fun _ _=>rfl))) zb)))))),?_⟩
 try (set_option simprocs false in dsimp only[zr])
 refine⟨_,rfl,_,rfl,_,rfl,(by show 2≤sizeLine;decide),fun lf gf=>?_⟩
 have N:=zd.new (o:=.lst [.ref l1,.ref l2]) gf
 refine QN (B.up N) zc (N _ _ e1) (N _ _ e2) f1 f2 F1 F2 (fun hf hw p H1 S1 hp ep=>?_) (fun hb H1 S1=>?_) (fun hf hw H1 S1=>?_)
 ·have s1:=zM.small B.2 f1
  have s2:=zM.small B.2 f2
  refine⟨_,rfl,_,rfl,p,_,_,_,rfl,rfl,SqL.of ep,rfl,_,rfl,p,_,_,_,rfl,rfl,SqL.of ep,rfl,_,_,rfl,rfl,⟨⟨by show -(2^250)<n1;omega,by show n1<2^250;omega⟩,⟨by show -(2^250)<n2;omega,by show n2<2^250;omega⟩⟩,?_⟩
  have S1':=N.trans S1
  refine⟨_,_,rfl,kept,spare,n1*n2,B.up S1',rfl,fun hx l H2 S2 hl el=>?_,fun hx H2 S2=>?_⟩
  ·exact yes (by unfold jj;rw[if_neg hf,if_neg hw,if_pos hx]) l H2 (S1'.trans S2) (S1'.free hl) el
  ·exact no "great" cT (by unfold jj;rw[if_neg hf,if_neg hw,if_neg hx]) Zh H2 (S1'.trans S2)
 ·exact no "figure" cB (by unfold jj;rw[if_pos hb]) J1 H1 (N.trans S1)
 ·exact no "wrong" cW (by unfold jj;rw[if_neg hf,if_pos hw]) Jd H1 (N.trans S1)
noncomputable abbrev ju:Stmt:=top 48
theorem Zf:zu ["base","figure","by","number"] ["base","figure","by"] (ze ju):=⟨rfl,rfl,rfl,by decide +kernel,rfl,by decide +kernel,by decide +kernel⟩
theorem Yv:zq "number_to_divide" ju ["base","figure","by"]:=qz fun _ _ _ _ _ _ _ _ _=>rfl
theorem zd8 (D:Def K mg "number_to_divide" ju)(T:Txt K mg cR cT cB cW cD cP cA cU cI cG cX)(F_number_of:FnS P w K mg base "number_of" ["base","figure"] 45 (zR cB cW)):FnS P w K mg base "number_to_divide" ["base","figure","by"] 46 (Qa (WC cT cB cW cD cP cA cU)):=by
 refine D.ok Zf Yv jY fun f cdv A outer s H vs Q E hr h=>?_
 obtain⟨_,_,_,rfl,kept,spare,n,b',w',B,⟨l1,ns1,rfl,e1,_,f1,F1⟩,rfl,yes,no⟩:=h
 refine⟨_,(zf (zn (i:=3) Zf.nd rfl (Or.inl rfl) (cFn F_number_of hr zG (ac (pv 0) (ac (pv 1) zb))))
   (zf (zN (zx qA (pv 2) zg (zD _))
    (zh (jK T.x_BadDivisor T.BadDivisor (ac zO zb)))
    zA)
   (zh (zk (pv 3))))),?_⟩
 try (set_option simprocs false in dsimp only[zr])
 have d1:("figure":Str)≠"":=by decide
 have d2:("wrong":Str)≠"":=by decide
 refine⟨_,rfl,_,rfl,YW B e1 f1 F1 (fun hf hw H1 S1=>?_) (fun hb H1 S1=>?_) (fun hf hw H1 S1=>?_)⟩
 ·have hw0:w'="":=by
   rcases zcU F1 with h|h|h
   ·exact h
   ·exact absurd (by rw[h];simp) hf
   ·exact absurd (by rw[h];simp) hw
  refine⟨_,rfl,_,_,rfl,rfl,_,rfl,?_⟩
  by_cases hb:b'<1
  ·rw[decide_eq_true hb]
   exact zV ⟨by decide,no "divisor" cD (zjz hw0 hb) zln H1 S1⟩
  ·rw[decide_eq_false hb]
   exact jd ⟨_,rfl,yes hw0 (by omega) H1 S1⟩
 ·have hw0:w'="figure":=(xo.mp hb).symm
  exact no "figure" cB (by rw[zdZ (by rw[hw0];exact d1),hw0]) J1 H1 S1
 ·have hw0:w'="wrong":=(xo.mp hw).symm
  exact no "wrong" cW (by rw[zdZ (by rw[hw0];exact d2),hw0]) Jd H1 S1
noncomputable abbrev Jc:Stmt:=top 46
theorem zeO:zu ["base","figure","by"] ["base","figure","by"] (ze Jc):=⟨rfl,rfl,rfl,by decide +kernel,rfl,by decide +kernel,by decide +kernel⟩
theorem zgw:zq "quotient" Jc ["base","figure","by"]:=qz fun _ _ _ _ _ _ _ _ _=>rfl
theorem zet (D:Def K mg "quotient" Jc)(F_number_to_divide:FnS P w K mg base "number_to_divide" ["base","figure","by"] 46 (Qa (WC cT cB cW cD cP cA cU)))(F_figure_of:FnS P w K mg base "figure_of" ["base","number"] 5 (qb cT)):FnS P w K mg base "quotient" ["base","figure","by"] 47 (Y8 (WC cT cB cW cD cP cA cU)):=by
 refine D.ok zeO zgw jY fun f cdv A outer s H vs Q E hr h=>?_
 obtain⟨_,_,_,rfl,kept,spare,n,b',w',B,I1,rfl,hb2,yes,no⟩:=h
 refine⟨_,(zh (zk (cFn F_figure_of hr zG (ac (pv 0) (ac (zi zjP (cFn F_number_to_divide hr zG (ac (pv 0) (ac (pv 1) (ac (pv 2) zb)))) (pv 2)) zb))))),?_⟩
 try (set_option simprocs false in dsimp only[zr])
 have c240:(2:Int)^240<2^250:=by decide
 obtain⟨l1,ns1,rfl,e1,c1,f1,F1⟩:=id I1
 refine⟨_,rfl,_,rfl,_,rfl,_,rfl,_,_,_,rfl,kept,spare,n,b',w',B,I1,rfl,fun hw hb H1 S1=>?_,no⟩
 refine⟨_,rfl,_,_,rfl,rfl,⟨by show 0<b';omega,by show b'<2^250;omega⟩,_,_,rfl,kept,spare,n/b',B.up S1,rfl,fun hx l H2 S2 hl el=>?_,fun hx=>absurd (zce B.2 f1 hb) hx⟩
 exact yes hw hb l H2 (S1.trans S2) (S1.free hl) el
noncomputable abbrev Qb:Stmt:=top 47
theorem zkv:zu ["base","figure","by"] ["base","figure","by"] (ze Qb):=⟨rfl,rfl,rfl,by decide +kernel,rfl,by decide +kernel,by decide +kernel⟩
theorem zlJ:zq "rest" Qb ["base","figure","by"]:=qz fun _ _ _ _ _ _ _ _ _=>rfl
theorem zk7 (D:Def K mg "rest" Qb)(F_number_to_divide:FnS P w K mg base "number_to_divide" ["base","figure","by"] 46 (Qa (WC cT cB cW cD cP cA cU))):FnS P w K mg base "rest" ["base","figure","by"] 47 (zfy (WC cT cB cW cD cP cA cU)):=by
 refine D.ok zkv zlJ jY fun f cdv A outer s H vs Q E hr h=>?_
 obtain⟨_,_,_,rfl,kept,spare,n,b',w',B,I1,rfl,yes,no⟩:=h
 refine⟨_,(zh (zk (zi zQ (cFn F_number_to_divide hr zG (ac (pv 0) (ac (pv 1) (ac (pv 2) zb)))) (pv 2)))),?_⟩
 try (set_option simprocs false in dsimp only[zr])
 obtain⟨l1,ns1,rfl,e1,c1,f1,F1⟩:=id I1
 refine⟨_,rfl,_,rfl,_,rfl,_,_,_,rfl,kept,spare,n,b',w',B,I1,rfl,fun hw hb H1 S1=>?_,no⟩
 exact⟨_,rfl,_,_,rfl,rfl,(by show 0<b';omega),yes hw hb H1 S1⟩
noncomputable abbrev jo:Stmt:=top 21
theorem J0:zu ["places","count","place"] ["places","count"] (ze jo):=⟨rfl,rfl,rfl,by decide +kernel,rfl,by decide +kernel,by decide +kernel⟩
theorem Yg:zq "refuse_bad_places" jo ["places","count"]:=je fun _ _ _ _ _ _ _ _=>rfl
theorem zhg (D:Def K mg "refuse_bad_places" jo)(T:Txt K mg cR cT cB cW cD cP cA cU cI cG cX):FnS P w K mg base "refuse_bad_places" ["places","count"] 1 (Yh cP):=by
 refine D.ok J0 Yg zS fun f cdv A outer s H vs Q E hr h=>?_
 obtain⟨_,_,rfl,l,ps,count,rfl,rfl,el,h64,yes,no⟩:=h
 refine⟨_,(zf (jW zY rfl (jg (pv 0)) (zE (i:=2) J0.nd rfl (Or.inl rfl))
    (zh (zN (J4 (Z2 ZN qA zg (pv 2) (pv 1)))
     (zh (jK T.x_BadPlace T.BadPlace (ac zO zb)))
     zA)))
   (zh (zN (zx Zs (cBi zcI (by rfl) T.len PyProof.Rows.Boot.«len» (ac (cTy (zhl rfl) (by rfl) T.set PyProof.Rows.Boot.«set» (ac (pv 0) zb)) zb)) (cBi zP (by rfl) T.len PyProof.Rows.Boot.«len» (ac (pv 0) zb)) (zD _))
    (zh (jK T.x_BadPlace T.BadPlace (ac zO zb)))
    zA))),?_⟩
 try (set_option simprocs false in dsimp only[zr])
 refine⟨_,rfl,l,rfl,⟨_,SqL.of el⟩,qQ (K:=K) (xs:=ps.map V.int) (fun i σ H'=>∃y,σ=[some (.ref l),some (.int count),y]∧H'=H∧∀p∈ps.take i,0≤p∧p<count) ⟨none,rfl,rfl,fun p hp=>absurd hp (by simp)⟩ (fun i σ H' _ ⟨_,_,e,_⟩=>by rw[e];exact SqL.of el) ?_ ?_⟩
 ·rintro i x σ _ hx ⟨y,rfl,rfl,U⟩
  obtain⟨p,hp,rfl⟩:=j7 hx
  have hm:=xq hp
  refine⟨_,rfl,_,_,rfl,rfl,_,rfl,?_⟩
  by_cases h0:0≤p
  case neg =>
   rw[decide_eq_false h0]
   exact jd ⟨_,rfl,zV ⟨by decide,no (fun ok=>h0 (ok.1 p hm).1) _ (zd.refl _)⟩⟩
  rw[decide_eq_true h0]
  refine zV ⟨_,rfl,_,_,rfl,rfl,_,rfl,?_⟩
  by_cases h1:p<count
  case neg =>
   rw[decide_eq_false h1]
   exact zV ⟨by decide,no (fun ok=>h1 (ok.1 p hm).2) _ (zd.refl _)⟩
  rw[decide_eq_true h1]
  refine jd ⟨_,rfl,rfl,fun q hq=>?_⟩
  rw[yn,hp]at hq
  rcases xM.mp hq with z|z
  ·exact U q z
  ·have:q=p:=by simpa using z
   rw[this];exact⟨h0,h1⟩
 ·rintro σ _ ⟨y,rfl,rfl,U⟩
  rw[xa,xS]at U
  refine⟨_,rfl,l,ps,rfl,SqL.of el,h64,fun a ha=>?_⟩
  have N:=zd.new (o:=.set (fun k=>(Zr ps).any (·==k)) (Zr ps).length) ha
  refine⟨a,_,_,rfl,zc,_,rfl,l,_,rfl,.inl (SqL.of (N _ _ el)),rfl,_,rfl,?_⟩
  rw[xa]
  by_cases hn:ps.Nodup
  ·exact QX (by rw[(zcp ps).mpr hn]) (yes ⟨U,hn⟩ _ N)
  ·have hb:(!decide (V.int ((Zr ps).length:Int)=V.int (ps.length:Int)))=true:=by
    have:(Zr ps).length≠ps.length:=fun z=>hn ((zcp ps).mp z)
    simp only[V.int.injEq,yl,decide_eq_false_iff_not]
    omega
   rw[hb]
   exact zV ⟨by decide,no (fun ok=>hn ok.2) _ N⟩
theorem zbD (D:Def K mg "product_of" qa):FnS P w K mg base "product_of" ["numbers"] 1 zc5:=by
 refine D.ok jR Ys jC fun f cdv A outer s H vs Q E hr h=>?_
 obtain⟨_,rfl,t,ds,rfl,e1,rng,k⟩:=h
 refine⟨_,(zf (zn (i:=1) jR.nd rfl (Or.inl rfl) zg)
   (zf (jW zY rfl (jg (pv 0)) (zE (i:=2) jR.nd rfl (Or.inl rfl))
    (zh (zn (i:=1) jR.nd rfl (Or.inl rfl) (zi qk (pv 1) (pv 2)))))
   (zh (zk (pv 1))))),?_⟩
 try (set_option simprocs false in dsimp only[zr])
 refine⟨_,rfl,t,rfl,⟨_,SqL.of e1⟩,qQ (K:=K) (xs:=ds.map V.int) (fun i σ H'=>∃(p:Int) (y:Option V),σ=[some (.ref t),some (.int p),y]∧H'=H∧p=zy (ds.take i))
  ⟨1,none,rfl,rfl,rfl⟩ (fun i σ H' _ ⟨_,_,_,e,_⟩=>by rw[e];exact SqL.of e1) ?_ ?_⟩
 ·rintro i x σ _ hx ⟨p,y,rfl,rfl,e⟩
  obtain⟨d,hi,rfl⟩:=j7 hx
  have h2:=rng d (xq hi)
  exact⟨_,rfl,_,rfl,_,_,rfl,rfl,.inr (d64 h2.1 h2.2),_,_,rfl,rfl,by rw[JC hi,e]⟩
 ·rintro σ _ ⟨p,y,rfl,rfl,e⟩
  rw[xa,xS]at e
  subst e
  exact⟨_,rfl,k⟩
noncomputable abbrev Jn:Stmt:=top 49
theorem YI:zu ["base","figure","places","number","kept"] ["base","figure","places"] (ze Jn):=⟨rfl,rfl,rfl,by decide +kernel,rfl,by decide +kernel,by decide +kernel⟩
theorem zjr:zq "scaled" Jn ["base","figure","places"]:=qz fun _ _ _ _ _ _ _ _ _=>rfl
theorem zh9 (D:Def K mg "scaled" Jn)(T:Txt K mg cR cT cB cW cD cP cA cU cI cG cX)(F_number_of:FnS P w K mg base "number_of" ["base","figure"] 45 (zR cB cW))(F_refuse_bad_places:FnS P w K mg base "refuse_bad_places" ["places","count"] 1 (Yh cP))(F_product_of:FnS P w K mg base "product_of" ["numbers"] 1 zc5)
  (F_figure_of:FnS P w K mg base "figure_of" ["base","number"] 5 (qb cT)):FnS P w K mg base "scaled" ["base","figure","places"] 46 (zcc (WC cT cB cW cD cP cA cU)):=by
 refine D.ok YI zjr jY fun f cdv A outer s H vs Q E hr h=>?_
 obtain⟨_,_,_,rfl,kept,spare,n,w',lp,ps,B,⟨l1,ns1,rfl,e1,_,f1,F1⟩,rfl,ep,h64,yes,no⟩:=h
 refine⟨_,(zf (zn (i:=3) YI.nd rfl (Or.inl rfl) (cFn F_number_of hr zG (ac (pv 0) (ac (pv 1) zb))))
   (zf (zn (i:=4) YI.nd rfl (Or.inr rfl) (zL jI (pv 0) zg (fun _ _=>rfl)))
   (zf (jr (cFn F_refuse_bad_places hr zG (ac (pv 2) (ac (cBi zP (by rfl) T.len PyProof.Rows.Boot.«len» (ac (pv 4) zb)) zb))))
   (zh (zk (cFn F_figure_of hr zG (ac (pv 0) (ac (zi zjA (pv 3) (cFn F_product_of hr zw (ac (Jj (lv:=1) (caps:=[4]) (N':=["place","kept"]) rfl (zW.caps (sc:=ze Jn) rfl (by decide +kernel) (by decide +kernel) (by decide +kernel) rfl rfl (qj rfl rfl rfl)) (zZ (by decide)) (jg (pv 2)) (fun _ _ _ _=>zE (i:=0) (show(["place","kept"]:List Str).Nodup by decide +kernel) rfl (Or.inl rfl)) (fun _ _ _ _=>(zL jI (pv 1) (pv 0) (fun _ _=>rfl)))) zb))) zb)))))))),?_⟩
 try (set_option simprocs false in dsimp only[zr])
 obtain⟨⟨t,rfl,hb⟩,gb⟩:=id B
 have d1:("figure":Str)≠"":=by decide
 have d2:("wrong":Str)≠"":=by decide
 refine⟨_,rfl,_,rfl,YW B e1 f1 F1 (fun hf hw H1 S1=>?_) (fun hb H1 S1=>?_) (fun hf hw H1 S1=>?_)⟩
 rotate_left
 ·have hw0:w'="figure":=(xo.mp hb).symm
  exact no "figure" cB (by rw[zaF (by rw[hw0];exact d1),hw0]) J1 H1 S1
 ·have hw0:w'="wrong":=(xo.mp hw).symm
  exact no "wrong" cW (by rw[zaF (by rw[hw0];exact d2),hw0]) Jd H1 S1
 have hw0:w'="":=by
  rcases zcU F1 with h|h|h
  ·exact h
  ·exact absurd (by rw[h];simp) hf
  ·exact absurd (by rw[h];simp) hw
 obtain⟨t1,t2,e0,ek,es⟩:=(hb.up S1).ex
 refine⟨_,rfl,t,_,_,_,rfl,rfl,SqT.of e0,rfl,?_⟩
 refine⟨_,rfl,_,rfl,t1,_,rfl,.inr (SqT.of ek),_,_,rfl,lp,ps,_,rfl,rfl,S1 _ _ ep,h64,fun ok H2 S2=>?_,fun bad H2 S2=>?_⟩
 rotate_left
 ·rw[xa]at bad
  exact no "place" cP (zf4 hw0 bad) zdf H2 (S1.trans S2)
 rw[xa]at ok
 have A2:=S1.trans S2
 have pb:=ziR gb ok.1 h64
 refine⟨_,rfl,_,rfl,_,rfl,lp,rfl,⟨_,SqL.of (A2 _ _ ep)⟩,Zw (K:=K) (SqL.of (A2 _ _ ep)) (by rw[xa];exact vj h64 (by decide)) (zcZ kept) ?_ ?_⟩
 ·intro x hx H' Q' S q
  obtain⟨p,hp,rfl⟩:=xI.mp hx
  have hr:=ok.1 p hp
  exact⟨_,rfl,_,rfl,t1,_,_,_,rfl,rfl,SqT.of ((S2.trans S) _ _ ek),qp hr.1 hr.2,q _ (zd.refl _)⟩
 ·intro Dd H3 hD S3 e
  rw[zaE]at e
  refine⟨_,rfl,Dd,Zd kept ps,rfl,e,zc1 gb ok.1,_,_,rfl,rfl,pb,_,_,rfl,kept,spare,n/zy (Zd kept ps),B.up (A2.trans S3),rfl,fun hx l H4 S4 hl el=>?_,fun hx=>absurd (zce gb f1 pb.1) hx⟩
  exact yes hw0 ok l H4 (A2.trans (S3.trans S4)) ((A2.trans S3).free hl) el
end
end K28
namespace RF
open PySem L2
end RF
set_option maxHeartbeats 2000000
namespace RF
open PySem PySem.NumText L2
noncomputable def jl (c:Nat):List (List Nat)→List Nat
 | []=>[]
 | [x]=>x
 |x::y::r=>x++c::jl c (y::r)
theorem ze0 (c:Nat):∀ts:List Str,(Str.join ⟨#[c]⟩ ts).cps.toList=jl c (ts.map fun t=>t.cps.toList)
 | []=>rfl
 | [t]=>rfl
 |t::u::r=>by
  have ih:=ze0 c (u::r)
  show(t++⟨#[c]⟩++Str.join ⟨#[c]⟩ (u::r)).cps.toList=t.cps.toList++c::jl c ((u::r).map fun t=>t.cps.toList)
  rw[zav,zav,ih,wa]
  rfl
theorem zgY {c B:Nat}:∀{xs:List (List Nat)},(∀x∈xs,x.length≤B)→(jl c xs).length≤xs.length*(B+1)
 | [],_=>by simp[jl]
 | [x],h=>by have:=h x xD;show x.length≤1*(B+1);omega
 |x::y::r,h=>by
  have h1:=h x xD
  have h2:=zgY (c:=c) (xs:=y::r) fun z hz=>h z (xx _ hz)
  show(x++c::jl c (y::r)).length≤_
  rw[xw,yr,yr (a:=x),wO]
  omega
theorem zii (c:Nat)(ts:List Str):(Txt.join ⟨#[c]⟩ ts).cps.toList=jl c (ts.map fun t=>t.cps.toList):=by
 rw[show Txt.join ⟨#[c]⟩ ts=Str.join ⟨#[c]⟩ ts from StrLaws.glued_eq_join _ _,ze0]
theorem zfw (x:Str):x.length=x.cps.toList.length:=by rw[xP];rfl
theorem ze2 {sep:Str}{ts:List Str}(h1:sep.length≤1)(h2:∀t∈ts,t.length≤1000)(h3:ts.length≤1000):JoinOk sep ts=true:=by
 unfold JoinOk
 rw[yl]
 refine StrLaws.joinFits (B:=1000) h2 ?_
 have a:ts.length*1000≤1000*1000:=uK _ h3
 have b:ts.length*sep.length≤1000*1:=wE h3 h1
 omega
end RF
namespace RF
open PySem PySem.NumText L2 Builtin Builtin.Str
noncomputable abbrev Dj (ws:List Str):Str:=Txt.join ⟨#[46]⟩ ws
noncomputable def zja (k s:Nat)(ws:List Str):Str:=if s=0 then Dj (ws.take k) else Dj (ws.take k)++":"++Dj (ws.drop k)
noncomputable def zjv (k s:Nat)(ns:List Int):Str:=zja k s (ns.map tx)
end RF
set_option maxHeartbeats 4000000
namespace K28
open PySem L2 RF
seal L2.PE L2.PA L2.PS L2.PSs L2.PT L2.PG L2.PI L2.PK L2.PO L2.PEx L2.PSx L2.Jl L2.PH L2.PW L2.PGs L2.Jk L2.OpR L2.ja L2.SlR L2.IxR
section
variable {P:Program}{w:World}{K:xb}{mg:Str→Option Value}{base:Heap}{cR cT cB cW cD cP cA cU cI cG cX:Addr}
noncomputable def wdV (v:V):Str:=match v with
 | .int n=>tx n
 | .str t=>t
 |_=>""
noncomputable def txV (v:V):V:=.str (wdV v)
theorem zlx (vs:List V):vs.map txV=(vs.map wdV).map V.str:=by rw[yj];rfl
theorem zku (ns:List Int):(ns.map V.int).map wdV=ns.map tx:=by rw[yj];rfl
theorem zhM {ns:List Str}{k:Int}(h:0≤k):JP (ns.map V.str) (some k) none=(ns.drop k.toNat).map V.str:=by
 have e:k=(k.toNat:Int):=by omega
 unfold JP
 rw[HT.sIx_none,e,HT.sIx_nat,xQ,wG]
 rcases uP k.toNat (ns.map V.str).length with hl|hl
 ·rw[uq hl]
  exact yK (by rw[yB];exact xr _)
 ·rw[yJ hl,vb,vv hl]
  simp
theorem zkA {ns:List Str}{k:Int}(h:0≤k):JP (ns.map V.str) none (some k)=(ns.take k.toNat).map V.str:=by
 have e:k=(k.toNat:Int):=by omega
 unfold JP
 rw[HT.sIx_none,e,HT.sIx_nat,vH,v3,xQ,vM]
 rcases uP k.toNat (ns.map V.str).length with hl|hl
 ·rw[uq hl]
 ·rw[yJ hl,xS,yK hl]
theorem zid {ws:List Str}(h:∀t∈ws,t.length≤100)(hl:ws.length≤100):(Dj ws).length≤10200:=by
 have:=zgY (c:=46) (B:=100) (xs:=ws.map fun t=>t.cps.toList) (fun x hx=>by
  obtain⟨t,ht,rfl⟩:=xI.mp hx
  have:=h t ht
  rw[zfw]at this
  exact this)
 rw[zfw,zii]
 rw[xa]at this
 have:ws.length*101≤100*101:=uK _ hl
 omega
inductive zcs (cB:Addr)(a b:V)(H:Hp)(Q:VK)(E:XK):Prop
 |mk (kept spare:List Int) (l:Addr) (ns:List Int) (B:Bas H a kept spare) (h1:b=.ref l) (e:H l=some (.lst (ns.map V.int))) (n60:∀n∈ns,n.natAbs<10^60)
   (yes:zK (kept++spare) ns→∀H',zd H H'→Q (.str (zjv kept.length spare.length ns)) H') (no:¬zK (kept++spare) ns→∀H',zd H H'→E (.ref cB) none H'):zcs cB a b H Q E
noncomputable def zdG (cB:Addr):Sp:=Sp2 (zcs cB)
noncomputable abbrev qh:Stmt:=top 69
theorem Zi:zu ["base","figure","words","kept"] ["base","figure"] (ze qh):=⟨rfl,rfl,rfl,by decide +kernel,rfl,by decide +kernel,by decide +kernel⟩
theorem zcR:zq "figure_text" qh ["base","figure"]:=je fun _ _ _ _ _ _ _ _=>rfl
theorem zjc (D:Def K mg "figure_text" qh)(T:Txt K mg cR cT cB cW cD cP cA cU cI cG cX)(F_refuse_no_figure:FnS P w K mg base "refuse_no_figure" ["base","figure"] 2 (Zv cB))(F_number_text:FnS P w K mg base "number_text" ["number"] 3 zao):FnS P w K mg base "figure_text" ["base","figure"] 4 (zdG cB):=by
 refine D.ok Zi zcR zS fun f cdv A outer s H vs Q E hr h=>?_
 obtain⟨_,_,rfl,kept,spare,l,ns,B,rfl,el,n60,yes,no⟩:=h
 refine⟨_,(zf (jr (cFn F_refuse_no_figure hr zG (ac (pv 0) (ac (pv 1) zb))))
   (zf (ze5 (i:=2) (lv:=1) (caps:=[]) (N':=["rest"]) (xe:=fun _ _ _ _ _ _=>False) (fun _ _ _ _ _ _ _ _ _ _ _ _ _ z=>z.elim) Zi.nd rfl (Or.inl rfl) rfl (zW.alone rfl (by decide +kernel) (by decide +kernel) rfl) (zZ (by decide)) (jg (pv 1)) (fun _ _ _ _=>zE (i:=0) (show(["rest"]:List Str).Nodup by decide +kernel) rfl (Or.inl rfl)) (fun _ _ _ _=>(cFn F_number_text hr zw (ac (pv 0) zb))))
   (zf (zn (i:=3) Zi.nd rfl (Or.inl rfl) (qU yY vE vF zfJ zO (ac (qx Qp (pv 2) qW (qV (cBi zP (by rfl) T.len PyProof.Rows.Boot.«len» (ac (zL jI (pv 0) zg (fun _ _=>rfl)) zb)))) zb)))
   (zf (zN (zx qI (cBi zP (by rfl) T.len PyProof.Rows.Boot.«len» (ac (zL jI (pv 0) zg (fun _ _=>rfl)) zb)) zg (zD _))
    (zh (zk (pv 3)))
    zA)
   (zh (zk (zi ZK (zi ZK (pv 3) zO) (qU yY vE vF zfJ zO (ac (qx Qp (pv 2) (qV (cBi zP (by rfl) T.len PyProof.Rows.Boot.«len» (ac (zL jI (pv 0) zg (fun _ _=>rfl)) zb))) qW) zb))))))))),?_⟩
 try (set_option simprocs false in dsimp only[zr])
 have s99:99999≤sizeLine:=by decide
 obtain⟨⟨t,rfl,BA⟩,gb⟩:=id B
 obtain⟨t1,t2,e0,e1,e2⟩:=BA.ex
 have k6:=gb.k6;have s4:=gb.s4;have k1:=gb.k1
 refine⟨_,rfl,_,rfl,_,_,rfl,kept,spare,l,ns,B,rfl,el,fun hv H1 S1=>?_,fun hv H1 S1=>no hv H1 S1⟩
 have hlen:ns.length=kept.length+spare.length:=by rw[hv.len,xw]
 have el1:=S1 _ _ el
 refine⟨_,rfl,l,rfl,⟨_,SqL.of el1⟩,Zw (K:=K) (SqL.of el1) (by rw[xa];omega) txV ?_ ?_⟩
 ·intro x hx H' Q' S q'
  obtain⟨n,hn,rfl⟩:=xI.mp hx
  exact⟨_,rfl,_,rfl,n,rfl,n60 n hn,fun H2 S2=>q' _ S2⟩
 intro p1 H2 f2 S2 ep
 rw[zlx,zku]at ep
 have S12:=S1.trans S2
 have wl:∀t∈ns.map tx,t.length≤100:=fun t ht=>by
  obtain⟨n,hn,rfl⟩:=xI.mp ht
  have:=zaK (n60 n hn);omega
 refine⟨rfl,_,rfl,_,rfl,t,_,_,_,rfl,rfl,SqT.of (S12 _ _ e0),rfl,t1,_,rfl,.inr (SqT.of (S12 _ _ e1)),_,rfl,p1,_,rfl,SqL.of ep,fun p2 f3=>?_⟩
 rw[xa,zkA (by omega)]
 have ek:(kept.length:Int).toNat=kept.length:=xQ _
 rw[ek]
 have N3:=zd.new (o:=.lst (((ns.map tx).take kept.length).map V.str)) f3
 have S13:=S12.trans N3
 have ep3:=N3 _ _ ep
 refine .mk "." p2 ((ns.map tx).take kept.length) rfl rfl zc (ze2 (by decide) (fun t ht=>by have:=wl t (uc ht);omega) (by rw[ye,xa];omega)) ?_
 refine⟨_,rfl,t,_,_,_,rfl,rfl,SqT.of (S13 _ _ e0),rfl,t2,_,rfl,.inr (SqT.of (S13 _ _ e2)),rfl,_,rfl,?_⟩
 rw[xa]
 by_cases hs:spare.length=0
 ·refine Zc (by show decide (V.int (spare.length:Int)=V.int 0)=true;rw[hs];exact decide_eq_true rfl) ⟨_,rfl,?_⟩
  have r:=yes hv _ S13
  unfold zjv zja at r
  rw[if_pos hs]at r
  exact r
 refine Jz (by show decide (V.int (spare.length:Int)=V.int 0)=false;exact decide_eq_false fun z=>hs (by injection z with z;omega)) ?_
 have d1:=zid (ws:=(ns.map tx).take kept.length) (fun t ht=>wl t (uc ht)) (by rw[ye,xa];omega)
 have d2:=zid (ws:=(ns.map tx).drop kept.length) (fun t ht=>wl t (vJ ht)) (by rw[yB,xa];omega)
 refine⟨_,rfl,_,_,rfl,rfl,(by show(Dj _).length+1≤_;omega),rfl,_,rfl,_,rfl,t,_,_,_,rfl,rfl,SqT.of (S13 _ _ e0),rfl,t1,_,rfl,.inr (SqT.of (S13 _ _ e1)),_,rfl,p1,_,rfl,SqL.of ep3,fun p4 f4=>?_⟩
 rw[xa,zhM (by omega),ek]
 have N4:=zd.new (o:=.lst (((ns.map tx).drop kept.length).map V.str)) f4
 refine .mk "." p4 ((ns.map tx).drop kept.length) rfl rfl zc (ze2 (by decide) (fun t ht=>by have:=wl t (vJ ht);omega) (by rw[yB,xa];omega)) ⟨_,_,rfl,rfl,?_,?_⟩
 ·rw[strLen_append];show(Dj _).length+1+(Dj _).length≤_;omega
 ·have r:=yes hv _ (S13.trans N4)
  unfold zjv zja at r
  rw[if_neg hs]at r
  exact r
end
section
variable {P:Program}{w:World}{K:xb}{mg:Str→Option Value}{base:Heap}{cR cT cB cW cD cP cA cU cI cG cX:Addr}
noncomputable abbrev JO:Stmt:=top 17
theorem JZ:zu ["a","b","greater","less","left"] ["a","b"] (ze JO):=⟨rfl,rfl,rfl,by decide +kernel,rfl,by decide +kernel,by decide +kernel⟩
theorem ziX:zq "common" JO ["a","b"]:=je fun _ _ _ _ _ _ _ _=>rfl
theorem ziv (D:Def K mg "common" JO):FnS P w K mg base "common" ["a","b"] 1 zch:=by
 refine D.ok JZ ziX zS fun f cdv A outer s H vs Q E hr h=>?_
 obtain⟨_,_,rfl,x,y,rfl,rfl,hx,hy,k⟩:=h
 refine⟨_,(zf (zn (i:=2) JZ.nd rfl (Or.inl rfl) (pv 0))
   (zf (zn (i:=3) JZ.nd rfl (Or.inl rfl) (pv 1))
   (zf (QO zY (zx Zs (pv 3) zg (zD _))
    (zf (zn (i:=4) JZ.nd rfl (Or.inl rfl) (zi zQ (pv 2) (pv 3)))
    (zf (zn (i:=2) JZ.nd rfl (Or.inl rfl) (pv 3))
    (zh (zn (i:=3) JZ.nd rfl (Or.inl rfl) (pv 4))))))
   (zh (zk (pv 2)))))),?_⟩
 try (set_option simprocs false in dsimp only[zr])
 refine⟨_,rfl,_,rfl,fun m σ H'=>∃(g l:Int) (t:Option V),σ=[some (.int x),some (.int y),some (.int g),some (.int l),t]∧H'=H∧0≤g∧0≤l∧Int.gcd g l=Int.gcd x y∧m=l.toNat,
  ⟨_,x,y,none,rfl,rfl,hx,hy,rfl,rfl⟩,?_⟩
 rintro m σ _ ⟨g,l,t,rfl,rfl,hg,hl,e,rfl⟩
 refine⟨_,rfl,rfl,_,rfl,?_⟩
 by_cases h0:l=0
 ·subst h0
  refine QX rfl ⟨_,rfl,?_⟩
  have:((Int.gcd x y:Nat):Int)=g:=by rw[←e,Int.gcd_zero_right];omega
  rw[this]at k
  exact k
 ·have hb:(!decide (V.int l=V.int 0))=true:=by simp[h0]
  rw[hb]
  refine zV ⟨_,fun _ _ h=>h,?_⟩
  have hlt:=xU g (show 0<l by omega)
  have hnn:=yc g h0
  exact⟨_,rfl,_,rfl,_,_,rfl,rfl,(by show 0<l;omega),_,rfl,_,rfl,(g%l).toNat,by omega,l,g%l,_,rfl,rfl,hl,hnn,by rw[←e,zc9 g l],rfl⟩
noncomputable abbrev jw:Stmt:=top 19
theorem qC:zu ["divisors","product","divisor"] ["divisors"] (ze jw):=⟨rfl,rfl,rfl,by decide +kernel,rfl,by decide +kernel,by decide +kernel⟩
theorem YC:zq "have_common_part" jw ["divisors"]:=qH fun _ _ _ _ _ _ _=>rfl
theorem zly (D:Def K mg "have_common_part" jw)(F_common:FnS P w K mg base "common" ["a","b"] 1 zch):FnS P w K mg base "have_common_part" ["divisors"] 2 (zhR K):=by
 refine D.ok qC YC jC fun f cdv A outer s H vs Q E hr h=>?_
 obtain⟨_,rfl,l,ds,rfl,hl,hd,k⟩:=h
 refine⟨_,(zf (zn (i:=1) qC.nd rfl (Or.inl rfl) zg)
   (zf (jW zY rfl (jg (pv 0)) (zE (i:=2) qC.nd rfl (Or.inl rfl))
    (zf (zN (zx Zs (cFn F_common hr zw (ac (pv 1) (ac (pv 2) zb))) zg (zD _))
     (zh (zk Qk))
     zA)
    (zh (zn (i:=1) qC.nd rfl (Or.inl rfl) (zi qk (pv 1) (pv 2))))))
   (zh (zk Qk)))),?_⟩
 try (set_option simprocs false in dsimp only[zr])
 refine⟨_,rfl,l,rfl,⟨_,SqL.of hl⟩,qQ (K:=K) (xs:=ds.map V.int) (fun i σ H'=>∃(p:Int) (t:Option V),σ=[some (.ref l),some (.int p),t]∧H'=H∧1≤p∧jE p (ds.drop i)=jE 1 ds)
  ⟨1,none,rfl,rfl,by omega,rfl⟩ (fun i σ H' _ ⟨_,_,_,e,_⟩=>by rw[e];exact SqL.of hl) ?_ ?_⟩
 ·rintro i x σ _ hx ⟨p,t,rfl,rfl,hp,e⟩
  rw[xK]at hx
  cases hi:ds[i]? with
  |none=>rw[hi]at hx;cases hx
  |some d =>
   rw[hi]at hx
   cases hx
   have h2:=hd d (xq hi)
   rw[zbM hi]at e
   refine⟨_,rfl,_,rfl,_,_,rfl,p,d,rfl,rfl,by omega,by omega,rfl,_,rfl,?_⟩
   by_cases hg:Int.gcd p d=1
   ·rw[if_pos hg]at e
    refine QX (by rw[hg];rfl) ?_
    refine⟨_,rfl,_,rfl,_,_,rfl,rfl,.inr ⟨by show -(2^64)<d;omega,by show d<2^64;omega⟩,_,_,rfl,rfl,?_,e⟩
    have:=Int.mul_le_mul hp (show 1≤d by omega) (by omega) (by omega)
    omega
   ·rw[if_neg hg]at e
    have hb:(!decide (V.int ((Int.gcd p d:Nat):Int)=V.int 1))=true:=by
     simp only[V.int.injEq,yl,decide_eq_false_iff_not]
     omega
    rw[hb]
    refine zV ?_
    show Q (.bl true) _
    rw[e];exact k
 ·rintro σ _ ⟨p,t,rfl,rfl,hp,e⟩
  rw[xa,vb]at e
  show Q (.bl false) _
  rw[show false=jE 1 ds from e]
  exact k
noncomputable abbrev Jr:Stmt:=top 18
theorem zaI:zu ["kept","spare","divisors"] ["kept","spare"] (ze Jr):=⟨rfl,rfl,rfl,by decide +kernel,rfl,by decide +kernel,by decide +kernel⟩
theorem ziE:zq "base_of" Jr ["kept","spare"]:=je fun _ _ _ _ _ _ _ _=>rfl
theorem zgQ (D:Def K mg "base_of" Jr)(T:Txt K mg cR cT cB cW cD cP cA cU cI cG cX)(F_have_common_part:FnS P w K mg base "have_common_part" ["divisors"] 2 (zhR K)):FnS P w K mg base "base_of" ["kept","spare"] 3 (Q3 cA):=by
 refine D.ok zaI ziE zS fun f cdv A outer s H vs Q E hr h=>?_
 obtain⟨_,_,rfl,lk,ls,kept,spare,rfl,rfl,ek,es,lk100,ls100,good,bad⟩:=h
 refine⟨_,(zf (zN (PW.pt (YU (J4 (Z2 ZN ZN zg (cBi zP (by rfl) T.len PyProof.Rows.Boot.«len» (ac (pv 0) zb)) (Z8 T.MOST_KEPT))) (Yt (zx Zt (cBi zP (by rfl) T.len PyProof.Rows.Boot.«len» (ac (pv 1) zb)) (Z8 T.MOST_SPARE) (zD _)))))
    (zh (jK T.x_BadBase T.BadBase (ac zO zb)))
    zA)
   (zf (zn (i:=2) zaI.nd rfl (Or.inl rfl) (zi qo (cTy JX (by rfl) T.list PyProof.Rows.Boot.«list» (ac (pv 0) zb)) (cTy JX (by rfl) T.list PyProof.Rows.Boot.«list» (ac (pv 1) zb))))
   (zf (zN (PW.pt (YU (zx qA (cBi (zim rfl) (by rfl) T.min PyProof.Rows.Boot.«min» (ac (pv 2) zb)) (Z8 T.LEAST_DIVISOR) (zD _)) (Yt (zx Zt (cBi (zcl rfl) (by rfl) T.max PyProof.Rows.Boot.«max» (ac (pv 2) zb)) (Z8 T.GREATEST_DIVISOR) (zD _)))))
    (zh (jK T.x_BadBase T.BadBase (ac zO zb)))
    zA)
   (zf (zN (Z4 (cFn F_have_common_part hr zw (ac (pv 2) zb)))
    (zh (jK T.x_BadBase T.BadBase (ac zO zb)))
    zA)
   (zf (zN (zx qA (zks (by rfl) T.min (pv 1) (zi jX (Z8 T.GREATEST_DIVISOR) zg)) (cBi (zcl rfl) (by rfl) T.max PyProof.Rows.Boot.«max» (ac (pv 0) zb)) (zD _))
    (zh (jK T.x_BadBase T.BadBase (ac zO zb)))
    zA)
   (zh (zk (jV (ac (cTy Jg (by rfl) T.tuple PyProof.Rows.Boot.«tuple» (ac (pv 0) zb)) (ac (cTy Jg (by rfl) T.tuple PyProof.Rows.Boot.«tuple» (ac (pv 1) zb)) zb)))))))))),?_⟩
 try (set_option simprocs false in dsimp only[zr])
 have s100:(300:Nat)≤sizeLine:=by decide
 refine⟨_,rfl,lk,_,rfl,.inl (SqL.of ek),_,_,rfl,rfl,_,rfl,?_⟩
 rw[xa]
 by_cases c1:(1:Int)≤kept.length
 case neg =>
  rw[decide_eq_false c1]
  refine jd ⟨_,rfl,zV (zV ⟨by decide,bad (fun g=>?_) H (zd.refl H)⟩)⟩
  have:=g.k1;omega
 rw[decide_eq_true c1]
 refine zV ⟨_,_,rfl,rfl,_,rfl,?_⟩
 by_cases c2:(kept.length:Int)≤6
 case neg =>
  rw[decide_eq_false c2]
  refine zV (zV ⟨by decide,bad (fun g=>?_) H (zd.refl H)⟩)
  have:=g.k6;omega
 rw[decide_eq_true c2]
 refine jd ⟨_,rfl,ls,_,rfl,.inl (SqL.of es),_,_,rfl,rfl,_,rfl,?_⟩
 rw[xa]
 by_cases c3:(4:Int)<spare.length
 ·rw[decide_eq_true c3]
  refine zV ⟨by decide,bad (fun g=>?_) H (zd.refl H)⟩
  have:=g.s4;omega
 rw[decide_eq_false c3]
 refine jd ?_
 refine⟨_,rfl,lk,_,rfl,.inl (SqL.of ek),fun l1 g1=>⟨_,rfl,ls,_,rfl,.inl (SqL.of (by rw[zC (jN es g1)];exact es)),fun l2 g2=>?_⟩⟩
 have n12:l1≠l2:=by rintro rfl;rw[zc]at g2;cases g2
 refine⟨l1,l2,_,_,rfl,rfl,SqL.of (by rw[zC n12];exact zc),SqL.of zc,by rw[xa,xa];omega,fun l3 g3=>?_⟩
 rw[←xE]
 have S1:=((zd.new (o:=.lst (kept.map V.int)) g1).trans (zd.new (o:=.lst (spare.map V.int)) g2)).trans (zd.new (o:=.lst ((kept++spare).map V.int)) g3)
 generalize hH2:upd (upd (upd H l1 (.lst (kept.map V.int))) l2 (.lst (spare.map V.int))) l3 (.lst ((kept++spare).map V.int))=H2 at S1 ⊢
 have e3:H2 l3=some (.lst ((kept++spare).map V.int)):=by rw[←hH2,zc]
 have ek2:=S1 _ _ ek
 have es2:=S1 _ _ es
 have hne:kept++spare≠[]:=by
  intro z
  have:=congrArg wf z
  rw[xw]at this
  simp only[vw]at this
  omega
 have hkne:kept≠[]:=by rintro rfl;simp at c1
 refine⟨_,rfl,l3,_,rfl,SqL.of e3,hne,fun mi hmi hmin=>⟨_,_,rfl,rfl,_,rfl,?_⟩⟩
 by_cases c4:mi<2
 ·rw[decide_eq_true c4]
  refine zV (zV ⟨by decide,bad (fun g=>?_) H2 S1⟩)
  have:=g.rng mi hmi;omega
 rw[decide_eq_false c4]
 refine jd ⟨_,rfl,l3,_,rfl,SqL.of e3,hne,fun ma hma hmax=>⟨_,_,rfl,rfl,_,rfl,?_⟩⟩
 by_cases c5:(1000000:Int)<ma
 ·rw[decide_eq_true c5]
  refine zV ⟨by decide,bad (fun g=>?_) H2 S1⟩
  have:=g.rng ma hma;omega
 rw[decide_eq_false c5]
 have rng:∀d∈kept++spare,2≤d∧d≤1000000:=fun d hd=>by
  have h1:=hmin d hd
  have h2:=hmax d hd
  omega
 refine jd ⟨_,rfl,_,rfl,l3,_,rfl,e3,rng,_,rfl,?_⟩
 by_cases c6:jE 1 (kept++spare)=true
 ·rw[c6]
  refine zV ⟨by decide,bad (fun g=>?_) H2 S1⟩
  rw[(Ya _).mpr g.cop]at c6;cases c6
 have c6':jE 1 (kept++spare)=false:=by simpa using c6
 rw[c6']
 have cop:=(Ya _).mp c6'
 refine jd ⟨_,rfl,_,_,rfl,rfl,ls,spare,_,rfl,rfl,SqL.of es2,fun ms m1 m2=>⟨_,rfl,lk,_,rfl,SqL.of ek2,hkne,fun mk hmk hmkx=>⟨_,_,rfl,rfl,_,rfl,?_⟩⟩⟩
 by_cases c7:ms<mk
 ·rw[decide_eq_true c7]
  refine zV ⟨by decide,bad (fun g=>?_) H2 S1⟩
  by_cases hs:spare=[]
  ·have:=m1 hs
   have:=(rng mk (xJ _ hmk)).2
   omega
  ·have:=g.lt mk hmk ms (m2 hs).1
   omega
 rw[decide_eq_false c7]
 have lt:∀k∈kept,∀s∈spare,k<s:=fun k hk s hs=>by
  have h1:=hmkx k hk
  have h2:=(m2 (List.ne_nil_of_mem hs)).2 s hs
  have hks:k≠s:=by
   rintro rfl
   have:=(yT.mp cop).2.2 k hk k hs
   exact Z7 (rng k (xJ _ hk)).1 this
  omega
 have gb:zv kept spare:=⟨by omega,by omega,by omega,rng,cop,lt⟩
 refine jd ⟨_,rfl,lk,_,rfl,.inl ⟨SqL.of ek2,fun t1 f1=>?_⟩⟩
 have es3:upd H2 t1 (.tup (kept.map V.int)) ls=some (.lst (spare.map V.int)):=by rw[zC (jN es2 f1)];exact es2
 refine⟨_,rfl,ls,_,rfl,.inl ⟨SqL.of es3,fun t2 f2=>⟨(by show 2≤sizeLine;decide),fun t f3=>?_⟩⟩⟩
 have n1:t1≠t2:=by rintro rfl;rw[zc]at f2;cases f2
 have n2:t2≠t:=by rintro rfl;rw[zc]at f3;cases f3
 have n3:t1≠t:=by rintro rfl;rw[zC n1,zc]at f3;cases f3
 have S2:=(S1.trans (zd.new (o:=.tup (kept.map V.int)) f1)).trans (zd.new (o:=.tup (spare.map V.int)) f2)
 exact good gb t _ (S2.trans (zd.new f3)) (S2.free f3) ⟨t1,t2,zc,by rw[zC n3,zC n1,zc],by rw[zC n2,zc]⟩
noncomputable abbrev JU:Stmt:=top 39
theorem YA:zu ["base","figure","kept","spare","number","wider"] ["base","figure","kept","spare"] (ze JU):=⟨rfl,rfl,rfl,by decide +kernel,rfl,by decide +kernel,by decide +kernel⟩
theorem zjJ:zq "put_in" JU ["base","figure","kept","spare"]:=zd0 fun _ _ _ _ _ _ _ _ _ _=>rfl
theorem zlO (D:Def K mg "put_in" JU)(T:Txt K mg cR cT cB cW cD cP cA cU cI cG cX)(F_number_of:FnS P w K mg base "number_of" ["base","figure"] 45 (zR cB cW))(F_base_of:FnS P w K mg base "base_of" ["kept","spare"] 3 (Q3 cA))(F_figure_of:FnS P w K mg base "figure_of" ["base","number"] 5 (qb cT)) :
  FnS P w K mg base "put_in" ["base","figure","kept","spare"] 46 (zfH (WC cT cB cW cD cP cA cU)):=by
 refine D.ok YA zjJ zbU fun f cdv A outer s H vs Q E hr h=>?_
 obtain⟨_,_,_,_,rfl,kept,spare,kk,ss,n,w',lk,ls,B,⟨l,ns,rfl,el,_,hf,F1⟩,rfl,ek,rfl,es,k20,s20,k,kE⟩:=h
 refine⟨_,(zf (zn (i:=4) YA.nd rfl (Or.inl rfl) (cFn F_number_of hr zG (ac (pv 0) (ac (pv 1) zb))))
   (zf (zn (i:=5) YA.nd rfl (Or.inl rfl) (cFn F_base_of hr zG (ac (zi qo (cTy JX (by rfl) T.list PyProof.Rows.Boot.«list» (ac (zL jI (pv 0) zg (fun _ _=>rfl)) zb)) (pv 2)) (ac (zi qo (cTy JX (by rfl) T.list PyProof.Rows.Boot.«list» (ac (zL jI (pv 0) zg (fun _ _=>rfl)) zb)) (pv 3)) zb))))
   (zh (zk (jV (ac (pv 5) (ac (cFn F_figure_of hr zG (ac (pv 5) (ac (pv 4) zb))) zb))))))),?_⟩
 try (set_option simprocs false in dsimp only[zr])
 obtain⟨⟨t,rfl,hb⟩,gb⟩:=id B
 obtain⟨t1,t2,e0,e1,e2⟩:=hb.ex
 have s300:(300:Nat)≤sizeLine:=by decide
 have k6:=gb.k6
 have s4:=gb.s4
 refine⟨_,rfl,_,rfl,QV B el hf F1 (fun hw H1 S1=>?_) (fun hw H1 S1=>kE "figure" cB (hw▸.word (by rw[hw];decide)) (by decide) J1 H1 S1) (fun hw H1 S1=>kE "wrong" cW (hw▸.word (by rw[hw];decide)) (by decide) Jd H1 S1)⟩
 refine⟨_,rfl,t,_,_,_,rfl,rfl,SqT.of (S1 _ _ e0),rfl,t1,_,rfl,.inr (SqT.of (S1 _ _ e1)),fun p1 f1=>?_⟩
 have N1:=zd.new (o:=.lst (kept.map V.int)) f1
 refine⟨_,rfl,p1,lk,_,_,rfl,rfl,SqL.of zc,SqL.of ((S1.trans N1) _ _ ek),(by rw[xa,xa];omega),fun p2 f2=>?_⟩
 rw[←xE]
 have N2:=zd.new (o:=.lst ((kept++kk).map V.int)) f2
 have A2:=S1.trans (N1.trans N2)
 refine⟨_,rfl,t,_,_,_,rfl,rfl,SqT.of (A2 _ _ e0),rfl,t2,_,rfl,.inr (SqT.of (A2 _ _ e2)),fun p3 f3=>?_⟩
 have N3:=zd.new (o:=.lst (spare.map V.int)) f3
 refine⟨_,rfl,p3,ls,_,_,rfl,rfl,SqL.of zc,SqL.of ((A2.trans N3) _ _ es),(by rw[xa,xa];omega),fun p4 f4=>?_⟩
 rw[←xE]
 have N4:=zd.new (o:=.lst ((spare++ss).map V.int)) f4
 have A4:=A2.trans (N3.trans N4)
 refine⟨_,_,rfl,p2,p4,kept++kk,spare++ss,rfl,rfl,(N3.trans N4) _ _ zc,zc,(by rw[xw];omega),(by rw[xw];omega),fun gw tw H3 S3 htw hw3=>?_,fun z H3 S3=>kE "base" cA (.base hw rfl z) (by decide) zin H3 (A4.trans S3)⟩
 have A3:=A4.trans S3
 have hfw:zM (kept++kk) n:=hf.wide gb.span fun d hd=>(gw.rng d (xJ _ (xu _ hd))).1
 refine⟨_,rfl,_,rfl,_,rfl,_,_,rfl,kept++kk,spare++ss,n,⟨⟨tw,rfl,hw3⟩,gw⟩,rfl,fun _ lf H4 S4 hlf elf=>⟨(by show 2≤sizeLine;decide),fun tt ft=>?_⟩,fun z=>absurd hfw z⟩
 have N5:=zd.new (o:=.tup [.ref tw,.ref lf]) ft
 exact k _ _ (A3.trans (S4.trans N5)) (.ok hw rfl gw hfw) (.yes tt tw lf gw zc (hw3.up (S4.trans N5)) (N5 _ _ elf) (A3.free hlf))
noncomputable abbrev j9:Stmt:=top 40
theorem qr:zu ["base","figure","places","number","divisors","first_spare","kept","spare","narrower"] ["base","figure","places"] (ze j9):=⟨rfl,rfl,rfl,by decide +kernel,rfl,by decide +kernel,by decide +kernel⟩
theorem zeB:zq "taken_out" j9 ["base","figure","places"]:=qz fun _ _ _ _ _ _ _ _ _=>rfl
theorem zeP (D:Def K mg "taken_out" j9)(T:Txt K mg cR cT cB cW cD cP cA cU cI cG cX)(F_number_of:FnS P w K mg base "number_of" ["base","figure"] 45 (zR cB cW))(F_divisors_of:FnS P w K mg base "divisors_of" ["base"] 1 QE)(F_refuse_bad_places:FnS P w K mg base "refuse_bad_places" ["places","count"] 1 (Yh cP))(F_base_of:FnS P w K mg base "base_of" ["kept","spare"] 3 (Q3 cA))(F_figure_of:FnS P w K mg base "figure_of" ["base","number"] 5 (qb cT)) :
  FnS P w K mg base "taken_out" ["base","figure","places"] 46 (zb2 (WC cT cB cW cD cP cA cU)):=by
 refine D.ok qr zeB jY fun f cdv A outer s H vs Q E hr h=>?_
 obtain⟨_,_,_,rfl,kept,spare,k',s',m,w',fa,lp,ps,B,⟨l,ns,rfl,el,_,hf,F1⟩,rfl,elp,h64,hk',hs',hfa,k,kE⟩:=h
 refine⟨_,(zf (zn (i:=3) qr.nd rfl (Or.inl rfl) (cFn F_number_of hr zG (ac (pv 0) (ac (pv 1) zb))))
   (zf (zn (i:=4) qr.nd rfl (Or.inr rfl) (cFn F_divisors_of hr zw (ac (pv 0) zb)))
   (zf (jr (cFn F_refuse_bad_places hr zG (ac (pv 2) (ac (cBi zP (by rfl) T.len PyProof.Rows.Boot.«len» (ac (pv 4) zb)) zb))))
   (zf (zn (i:=5) qr.nd rfl (Or.inl rfl) (cBi zP (by rfl) T.len PyProof.Rows.Boot.«len» (ac (zL jI (pv 0) zg (fun _ _=>rfl)) zb)))
   (zf (YX (i:=6) (lv:=1) (caps:=[4,2]) (N':=["place","divisors","places"]) (xe:=fun _ _ _ _ _ _=>False) (fun _ _ _ _ _ _ _ _ _ _ _ _ _ z=>z.elim) qr.nd rfl (Or.inl rfl) rfl (zW.caps (sc:=ze j9) rfl (by decide +kernel) (by decide +kernel) (by decide +kernel) rfl rfl (QR rfl rfl rfl rfl rfl rfl)) (zZ (by decide)) (Qh rfl T.range (ac (pv 5) zb)) (fun _ _ _ _=>zE (i:=0) (show(["place","divisors","places"]:List Str).Nodup by decide +kernel) rfl (Or.inl rfl)) (fun _ _ _ _=>(zx zaw (pv 0) (pv 2) (by with_unfolding_all rfl))) (fun _ _ _ _=>(zL jI (pv 1) (pv 0) (fun _ _=>rfl))))
   (zf (YX (i:=7) (lv:=1) (caps:=[4,2]) (N':=["place","divisors","places"]) (xe:=fun _ _ _ _ _ _=>False) (fun _ _ _ _ _ _ _ _ _ _ _ _ _ z=>z.elim) qr.nd rfl (Or.inl rfl) rfl (zW.caps (sc:=ze j9) rfl (by decide +kernel) (by decide +kernel) (by decide +kernel) rfl rfl (QR rfl rfl rfl rfl rfl rfl)) (zZ (by decide)) (zh0 rfl T.range (ac (pv 5) (ac (cBi zP (by rfl) T.len PyProof.Rows.Boot.«len» (ac (pv 4) zb)) zb))) (fun _ _ _ _=>zE (i:=0) (show(["place","divisors","places"]:List Str).Nodup by decide +kernel) rfl (Or.inl rfl)) (fun _ _ _ _=>(zx zaw (pv 0) (pv 2) (by with_unfolding_all rfl))) (fun _ _ _ _=>(zL jI (pv 1) (pv 0) (fun _ _=>rfl))))
   (zf (zn (i:=8) qr.nd rfl (Or.inl rfl) (cFn F_base_of hr zG (ac (pv 6) (ac (pv 7) zb))))
   (zh (zk (jV (ac (pv 8) (ac (cFn F_figure_of hr zG (ac (pv 8) (ac (pv 3) zb))) zb)))))))))))),?_⟩
 try (set_option simprocs false in dsimp only[zr])
 obtain⟨⟨t,rfl,hb⟩,gb⟩:=id B
 obtain⟨t1,t2,e0,e1,e2⟩:=hb.ex
 have s30:(300:Nat)≤sizeLine:=by decide
 have k6:=gb.k6
 have s4:=gb.s4
 have la:(kept++spare).length=kept.length+spare.length:=xw
 refine⟨_,rfl,_,rfl,QV B el hf F1 (fun hw H1 S1=>?_) (fun hw H1 S1=>kE "figure" cB (hw▸.word (by rw[hw];decide)) (by decide) J1 H1 S1) (fun hw H1 S1=>kE "wrong" cW (hw▸.word (by rw[hw];decide)) (by decide) Jd H1 S1)⟩
 refine⟨_,rfl,_,rfl,kept,spare,B.up S1,fun p H2 S2 ep=>?_⟩
 have A2:=S1.trans S2
 refine⟨_,rfl,_,rfl,p,_,rfl,.inr (SqT.of ep),_,_,rfl,lp,ps,_,rfl,rfl,A2 _ _ elp,h64,fun hpl H3 S3=>?_,fun z H3 S3=>?_⟩
 rotate_left
 ·rw[xa]at z
  rcases hfa with⟨_,y⟩|⟨y,_⟩
  ·exact absurd y z
  ·exact kE "place" cP (y▸.fault hw (by rw[y];decide)) (by decide) zdf H3 (A2.trans S3)
 rw[xa]at hpl
 have hfa0:fa="":=by
  rcases hfa with⟨y,_⟩|⟨_,y⟩
  ·exact y
  ·exact absurd hpl y
 have A3:=A2.trans S3
 have ep3:=S3 _ _ ep
 have elp3:=A3 _ _ elp
 refine⟨_,rfl,t,_,_,_,rfl,rfl,SqT.of (A3 _ _ e0),rfl,t1,_,rfl,.inr (SqT.of (A3 _ _ e1)),?_⟩
 rw[xa]
 generalize hall:kept++spare=all at *
 refine⟨_,rfl,_,rfl,(by show -(2^62)≤(kept.length:Int);omega),(by show(kept.length:Int)<2^62;omega),zbY (lo:=0) _ (by rw[xQ];omega) (fun x=>!decide (x∈ps)) (fun x=>V.int (all.getD x.toNat 0)) ?_ ?_⟩
 ·intro j hj H' Q' R S yes no
  rw[xQ]at hj
  refine⟨_,rfl,_,rfl,lp,ps.map V.int,rfl,.inl (SqL.of (S _ _ elp3)),rfl,YG ps,_,rfl,?_⟩
  show if (!inV (V.int (0+(j:Int))) (ps.map V.int))=true then _ else _
  rw[YY]
  by_cases hm:0+(j:Int)∈ps
  ·rw[decide_eq_true hm]
   exact jd (no (by rw[decide_eq_true hm];rfl) H' (zd.refl _))
  ·rw[decide_eq_false hm]
   exact zV ⟨_,rfl,_,rfl,p,_,_,_,rfl,rfl,SqT.of (S _ _ ep3),qp (by omega) (by omega),yes (by rw[decide_eq_false hm];rfl) H' (zd.refl _)⟩
 intro lk H4 hlk S4 elk
 have elk:H4 lk=some (.lst (k'.map V.int)):=by rw[elk,xQ,←hk'];unfold JK;rw[yj];rfl
 have ep4:=S4 _ _ ep3
 have elp4:=S4 _ _ elp3
 refine⟨_,rfl,_,rfl,p,_,rfl,.inr (SqT.of ep4),_,_,rfl,⟨(by show -(2^62)≤(kept.length:Int);omega),(by show(kept.length:Int)<2^62;omega),(by show -(2^62)≤((all.map V.int).length:Int);omega),(by show((all.map V.int).length:Int)<2^62;rw[xa];omega)⟩,?_⟩
 rw[xa,show((all.length:Int) - (kept.length:Int)).toNat=spare.length by omega]
 refine zbY (lo:=(kept.length:Int)) _ (by omega) (fun x=>!decide (x∈ps)) (fun x=>V.int (all.getD x.toNat 0)) ?_ ?_
 ·intro j hj H' Q' R S yes no
  refine⟨_,rfl,_,rfl,lp,ps.map V.int,rfl,.inl (SqL.of (S _ _ elp4)),rfl,YG ps,_,rfl,?_⟩
  show if (!inV (V.int ((kept.length:Int)+(j:Int))) (ps.map V.int))=true then _ else _
  rw[YY]
  by_cases hm:(kept.length:Int)+(j:Int)∈ps
  ·rw[decide_eq_true hm]
   exact jd (no (by rw[decide_eq_true hm];rfl) H' (zd.refl _))
  ·rw[decide_eq_false hm]
   exact zV ⟨_,rfl,_,rfl,p,_,_,_,rfl,rfl,SqT.of (S _ _ ep4),qp (by omega) (by omega),yes (by rw[decide_eq_false hm];rfl) H' (zd.refl _)⟩
 intro ls H5 hls S5 els
 have els:H5 ls=some (.lst (s'.map V.int)):=by rw[els,←hs'];unfold JK;rw[yj];rfl
 have lk':k'.length≤kept.length:=by rw[←hk'];exact zdj
 have ls':s'.length≤spare.length:=by rw[←hs'];exact zdj
 have A5:=A3.trans (S4.trans S5)
 refine⟨_,rfl,_,rfl,_,_,rfl,lk,ls,k',s',rfl,rfl,S5 _ _ elk,els,by omega,by omega,fun gw tw H6 S6 htw hw6=>?_,fun z H6 S6=>kE "base" cA (.base hw hfa0 z) (by decide) zin H6 (A5.trans S6)⟩
 have A6:=A3.trans (S4.trans (S5.trans S6))
 refine⟨_,rfl,_,rfl,_,rfl,_,_,rfl,k',s',m,⟨⟨tw,rfl,hw6⟩,gw⟩,rfl,fun hx lf H7 S7 hlf elf=>⟨(by show 2≤sizeLine;decide),fun tt ft=>?_⟩,fun hx H7 S7=>kE "great" cT (.great hw hfa0 gw hx) (by decide) Zh H7 (A6.trans S7)⟩
 have N5:=zd.new (o:=.tup [.ref tw,.ref lf]) ft
 exact k _ _ (A6.trans (S7.trans N5)) (.ok hw hfa0 gw hx) (.yes tt tw lf gw zc (hw6.up (S7.trans N5)) (N5 _ _ elf) (A6.free hlf))
end
section
variable {P:Program}{w:World}{K:xb}{mg:Str→Option Value}{base:Heap}{cR cT cB cW cD cP cA cU cI cG cX:Addr}
theorem zdP (D:Def K mg "number_by_rests" jn)(T:Txt K mg cR cT cB cW cD cP cA cU cI cG cX)(F_inverse:FnS P w K mg base "inverse" ["number","divisor"] 41 (zde 40)) :
  FnS P w K mg base "number_by_rests" ["divisors","rests"] 42 Yz:=by
 refine D.ok zI ZI zS fun f cdv A outer s H vs Q E hr h=>?_
 obtain⟨_,_,rfl,t1,l,kept,ns,rfl,rfl,e1,el,rng,copK,hlen,hrng,k⟩:=h
 refine⟨_,(zf (zn (i:=2) zI.nd rfl (Or.inl rfl) zg)
   (zf (zn (i:=3) zI.nd rfl (Or.inl rfl) zg)
   (zf (jW zY rfl (zbw .L .L rfl T.zip (ac (pv 1) (ac (pv 0) zb))) (Qw (n:=2) rfl (jM (zE (i:=4) zI.nd rfl (Or.inl rfl)) (jM (zE (i:=5) zI.nd rfl (Or.inl rfl)) Zg)))
    (zf (zn (i:=6) zI.nd rfl (Or.inl rfl) (zi zQ (zi qk (zi jL (pv 4) (pv 2)) (cFn F_inverse hr zw (ac (pv 3) (ac (pv 5) zb)))) (pv 5)))
    (zf (zn (i:=2) zI.nd rfl (Or.inl rfl) (zi jX (pv 2) (zi qk (pv 6) (pv 3))))
    (zh (zn (i:=3) zI.nd rfl (Or.inl rfl) (zi qk (pv 3) (pv 5)))))))
   (zf (zN (zx Zt (pv 2) (zi jk (pv 3) zg) (zD _))
    (zh (zk (zi jL (pv 2) (pv 3))))
    zA)
   (zh (zk (pv 2))))))),?_⟩
 try (set_option simprocs false in dsimp only[zr])
 refine⟨_,rfl,_,rfl,l,t1,rfl,⟨_,SqL.of el⟩,⟨_,SqL.of e1⟩,zbN (K:=K) (k1:=.L) (k2:=.L) (xs:=ns.map V.int) (ys:=kept.map V.int)
  (fun i σ H'=>∃(number step:Int) (y4 y5 y6:Option V),σ=[some (.ref t1),some (.ref l),some (.int number),some (.int step),y4,y5,y6]∧zd H H'∧zaB kept ns i number step)
  ⟨0,1,none,none,none,rfl,zd.refl H,zcw kept ns⟩ (fun i σ H' ⟨_,_,_,_,_,_,S,_⟩=>⟨SqL.of (S _ _ el),SqL.of (S _ _ e1)⟩) ?_ ?_⟩
 ·rintro i x y p σ H' hx hy ⟨number,step,y4,y5,y6,rfl,S,U⟩ hp
  obtain⟨r,hr',rfl⟩:=j7 hx
  obtain⟨d,hd,rfl⟩:=j7 hy
  have h2:=rng d (xq hd)
  have hrd:=hrng i d r hd hr'
  have hc:Cop step d:=by rw[U.st];exact zdW copK hd
  have dp:=zby h2.1
  have d6:=d64 h2.1 h2.2
  refine⟨p,_,rfl,SqT.of zc,rfl,_,_,rfl,_,_,rfl,rfl,?_⟩
  refine⟨_,rfl,_,rfl,_,_,rfl,rfl,_,rfl,_,rfl,_,_,rfl,step,d,rfl,rfl,h2.1,h2.2,hc,zlm h2.1 h2.2 (md1 step dp),fun v hv=>?_⟩
  refine⟨_,_,rfl,rfl,.inr (v64 (nn1 hv.lo) hv.hi h2.2),_,rfl,_,_,rfl,rfl,dp,?_⟩
  refine⟨_,rfl,_,rfl,_,rfl,_,_,rfl,rfl,.inl (v64 (md0 _ dp) (md1 _ dp) h2.2),_,_,rfl,rfl,?_⟩
  refine⟨_,rfl,_,rfl,_,_,rfl,rfl,.inr d6,?_⟩
  exact⟨_,_,_,_,_,rfl,S.trans (zd.new hp),zcn (fun x hx=>(rng x hx).1) U hd hr' hrd.1 hrd.2 hv⟩
 ·rintro σ H' ⟨number,step,y4,y5,y6,rfl,S,U⟩
  rw[xa,xa,yJ hlen]at U
  have hs:=U.st
  rw[xS]at hs
  subst hs
  refine⟨_,rfl,_,rfl,_,_,rfl,rfl,⟨by decide,by decide⟩,_,_,rfl,rfl,_,rfl,?_⟩
  by_cases hg:zy kept/2<number
  ·rw[decide_eq_true hg]
   exact zV ⟨_,rfl,_,rfl,_,_,rfl,rfl,k _ H' (zcC U hg) S⟩
  ·rw[decide_eq_false hg]
   exact jd ⟨_,rfl,k _ H' (zec U hg) S⟩
noncomputable abbrev jb:Stmt:=top 58
theorem JD:zu ["base","figure","places","divisors","left"] ["base","figure","places"] (ze jb):=⟨rfl,rfl,rfl,by decide +kernel,rfl,by decide +kernel,by decide +kernel⟩
theorem zau:zq "number_without" jb ["base","figure","places"]:=qz fun _ _ _ _ _ _ _ _ _=>rfl
theorem zgr (D:Def K mg "number_without" jb)(T:Txt K mg cR cT cB cW cD cP cA cU cI cG cX)(F_divisors_of:FnS P w K mg base "divisors_of" ["base"] 1 QE)(F_number_by_rests:FnS P w K mg base "number_by_rests" ["divisors","rests"] 42 Yz) :
  FnS P w K mg base "number_without" ["base","figure","places"] 43 zaP:=by
 refine D.ok JD zau jY fun f cdv A outer s H vs Q E hr h=>?_
 obtain⟨_,_,_,rfl,kept,spare,l,lp,fig,ps,B,rfl,el,hv,rfl,elp,k⟩:=h
 refine⟨_,(zf (zn (i:=3) JD.nd rfl (Or.inr rfl) (cFn F_divisors_of hr zw (ac (pv 0) zb)))
   (zf (YX (i:=4) (lv:=1) (caps:=[2]) (N':=["place","places"]) (xe:=fun _ _ _ _ _ _=>False) (fun _ _ _ _ _ _ _ _ _ _ _ _ _ z=>z.elim) JD.nd rfl (Or.inl rfl) rfl (zW.caps (sc:=ze jb) rfl (by decide +kernel) (by decide +kernel) (by decide +kernel) rfl rfl (qj rfl rfl rfl)) (zZ (by decide)) (Qh rfl T.range (ac (cBi zP (by rfl) T.len PyProof.Rows.Boot.«len» (ac (pv 3) zb)) zb)) (fun _ _ _ _=>zE (i:=0) (show(["place","places"]:List Str).Nodup by decide +kernel) rfl (Or.inl rfl)) (fun _ _ _ _=>(zx zaw (pv 0) (pv 1) (by with_unfolding_all rfl))) (fun _ _ _ _=>(pv 0)))
   (zh (zk (cFn F_number_by_rests hr zw (ac (Jj (lv:=1) (caps:=[3]) (N':=["place","divisors"]) rfl (zW.caps (sc:=ze jb) rfl (by decide +kernel) (by decide +kernel) (by decide +kernel) rfl rfl (qj rfl rfl rfl)) (zZ (by decide)) (jg (pv 4)) (fun _ _ _ _=>zE (i:=0) (show(["place","divisors"]:List Str).Nodup by decide +kernel) rfl (Or.inl rfl)) (fun _ _ _ _=>(zL jI (pv 1) (pv 0) (fun _ _=>rfl)))) (ac (Jj (lv:=1) (caps:=[1]) (N':=["place","figure"]) rfl (zW.caps (sc:=ze jb) rfl (by decide +kernel) (by decide +kernel) (by decide +kernel) rfl rfl (qj rfl rfl rfl)) (zZ (by decide)) (jg (pv 4)) (fun _ _ _ _=>zE (i:=0) (show(["place","figure"]:List Str).Nodup by decide +kernel) rfl (Or.inl rfl)) (fun _ _ _ _=>(zL qg (pv 1) (pv 0) (fun _ _=>rfl)))) zb))))))),?_⟩
 try (set_option simprocs false in dsimp only[zr])
 have gb:=B.2
 have hlen:=hv.len
 have k6:=gb.k6
 have s4:=gb.s4
 have la:(kept++spare).length≤10:=by rw[xw];omega
 have s30:(30:Nat)≤sizeLine:=by decide
 refine⟨_,rfl,_,rfl,kept,spare,B,fun p H1 S1 ep=>?_⟩
 generalize hall:kept++spare=all at *
 have en:((all.map V.int).length:Int).toNat=all.length:=by rw[xa,xQ]
 refine⟨_,rfl,p,_,rfl,.inr (SqT.of ep),_,rfl,(by show -(2^62)≤((all.map V.int).length:Int);omega),(by show((all.map V.int).length:Int)<2^62;rw[xa];omega),zbY (lo:=0) _ (by rw[en];omega) (fun x=>!decide (x∈ps)) V.int ?_ ?_⟩
 ·intro j hj H' Q' R S yes no
  refine⟨_,rfl,_,rfl,lp,ps.map V.int,rfl,.inl (SqL.of ((S1.trans S) _ _ elp)),rfl,YG ps,_,rfl,?_⟩
  show if (!inV (V.int (0+(j:Int))) (ps.map V.int))=true then _ else _
  rw[YY]
  by_cases hm:0+(j:Int)∈ps
  ·rw[decide_eq_true hm]
   exact jd (no (by rw[decide_eq_true hm];rfl) H' (zd.refl _))
  ·rw[decide_eq_false hm]
   exact zV ⟨_,rfl,yes (by rw[decide_eq_false hm];rfl) H' (zd.refl _)⟩
 intro lo H2 hlo S2 elo
 have elo:H2 lo=some (.lst ((Zz all.length ps).map V.int)):=by rw[elo,en];unfold Zz;rw[yj];rfl
 have ll:(Zz all.length ps).length≤10:=by rw[Qm,zkb];exact x6 (zhK _ _) la
 have A2:=S1.trans S2
 have ep2:=S2 _ _ ep
 have el2:=A2 _ _ el
 refine⟨_,rfl,lo,rfl,⟨_,SqL.of elo⟩,Zw (K:=K) (SqL.of elo) (by rw[xa];omega) (zcZ all) ?_ ?_⟩
 ·intro x hx H' Q' S q
  obtain⟨i,rfl,i0,i1⟩:=zfL hx
  exact⟨_,rfl,_,rfl,p,_,_,_,rfl,rfl,SqT.of (S _ _ ep2),qp i0 i1,q _ (zd.refl _)⟩
 intro q1 H3 hq1 S3 eq1
 rw[zaE,Qm,zcb]at eq1
 have elo3:=S3 _ _ elo
 refine⟨_,rfl,lo,rfl,⟨_,SqL.of elo3⟩,Zw (K:=K) (SqL.of elo3) (by rw[xa];omega) (zcZ fig) ?_ ?_⟩
 ·intro x hx H' Q' S q
  obtain⟨i,rfl,i0,i1⟩:=zfL hx
  exact⟨_,rfl,_,rfl,l,_,_,_,rfl,rfl,SqL.of (S _ _ (S3 _ _ el2)),qp i0 (by rw[hlen];exact i1),q _ (zd.refl _)⟩
 intro q2 H4 hq2 S4 eq2
 rw[zaE,Qm,zcb]at eq2
 have sub:=ze9 all fun i:Nat=>!decide ((i:Int)∈ps)
 refine⟨_,_,rfl,q1,q2,_,_,rfl,rfl,S4 _ _ eq1,eq2,fun d hd=>?_,?_,?_,zfX hv,fun v H5 hk S5=>?_⟩
 ·have:=gb.rng d (by rw[hall];exact sub.subset hd)
  exact this
 ·have:=gb.cop
  rw[hall]at this
  exact this.sublist sub
 ·rw[zfI,zfI];exact xr _
 ·exact k v H5 (zga hlen hk) (A2.trans (S3.trans (S4.trans S5)))
noncomputable abbrev JW:Stmt:=top 57
theorem zek:zu ["base","figure","number","unlike"] ["base","figure","number"] (ze JW):=⟨rfl,rfl,rfl,by decide +kernel,rfl,by decide +kernel,by decide +kernel⟩
theorem zkV:zq "found" JW ["base","figure","number"]:=qz fun _ _ _ _ _ _ _ _ _=>rfl
theorem zkd (D:Def K mg "found" JW)(T:Txt K mg cR cT cB cW cD cP cA cU cI cG cX)(F_rests_of:FnS P w K mg base "rests_of" ["base","number"] 2 Zj) :
  FnS P w K mg base "found" ["base","figure","number"] 3 zdq:=by
 refine D.ok zek zkV jY fun f cdv A outer s H vs Q E hr h=>?_
 obtain⟨_,_,_,rfl,kept,spare,l,fig,n,B,rfl,el,hl,rfl,k⟩:=h
 refine⟨_,(zf (YX (i:=3) (lv:=2) (caps:=[1]) (N':=["place","rest","figure"]) (xe:=fun _ _ _ _ _ _=>False) (fun _ _ _ _ _ _ _ _ _ _ _ _ _ z=>z.elim) zek.nd rfl (Or.inl rfl) rfl (zW.caps (sc:=ze JW) rfl (by decide +kernel) (by decide +kernel) (by decide +kernel) rfl rfl (qj rfl rfl rfl)) (zdF (by decide) (by decide)) (zkM rfl T.enumerate (ac (cFn F_rests_of hr zw (ac (pv 0) (ac (pv 2) zb))) zb)) (fun _ _ _ _=>ze6 (n:=2) K rfl (jM (zE (i:=0) (show(["place","rest","figure"]:List Str).Nodup by decide +kernel) rfl (Or.inl rfl)) (jM (zE (i:=1) (show(["place","rest","figure"]:List Str).Nodup by decide +kernel) rfl (Or.inl rfl)) Zg))) (fun _ _ _ _=>(zx Zs (pv 1) (zL qg (pv 2) (pv 0) (fun _ _=>rfl)) (zD _))) (fun _ _ _ _=>(pv 0)))
   (zf (zN (zx (zfz K hr.units) (pv 3) (zJ zb) (zD _))
    (zh (zk (jV (ac zO (ac (pv 2) (ac (pv 3) zb))))))
    zA)
   (zh (zk (jV (ac zO (ac (pv 2) (ac (pv 3) zb)))))))),?_⟩
 try (set_option simprocs false in dsimp only[zr])
 have gb:=B.2
 have h20:=gb.r20 n
 have s30:(30:Nat)≤sizeLine:=by decide
 refine⟨_,rfl,_,rfl,_,_,rfl,kept,spare,n,B,rfl,fun lr H1 S1 hlr elr=>?_⟩
 have hlr':fig.length=(zF (kept++spare) n).length:=by rw[qv,hl]
 have el1:=S1 _ _ el
 refine⟨lr,rfl,⟨_,SqL.of elr⟩,?_⟩
 have fin:∀lu H2,zd H H2→H lu=none→H2 lu=some (.lst ((JE (unl (zF (kept++spare) n) fig)).map V.int))→∀(wd:Str),wd=YS (JE (unl (zF (kept++spare) n) fig))→∀t,H2 t=none→Q (.ref t) (upd H2 t (.tup [.str wd,.int n,.ref lu])):=fun lu H2 S2 hlu elu wd hw t ft=>by
  have N:=zd.new (o:=.tup [.str wd,.int n,.ref lu]) ft
  exact k t lu _ (S2.trans N) hlu (by rw[←hw];exact zc) (N _ _ elu)
 generalize hr0:zF (kept++spare) n=rs at *
 refine zaU (J:=Ite K lr) rs.length (by omega) (fun i=>!decide (rs.getD i 0=fig.getD i 0)) (fun i=>V.int i) (fun i H' hi S=>?_) (fun H' S=>?_) ?_ ?_
 ·exact⟨_,.int rs[i],SqL.of (S _ _ elr),by rw[xK,xm hi];rfl⟩
 ·exact⟨_,SqL.of (S _ _ elr),by rw[xa];exact xr _⟩
 ·intro i x H' H'' Q' R hi S hy yes no
  obtain⟨p,u,rfl,hp,rfl,hu⟩:=hy
  obtain⟨v,hv,rfl⟩:=j7 (hu _ (SqL.of (S _ _ elr)))
  have ev:rs.getD i 0=v:=by rw[xA,hv];rfl
  have N:=zd.new (o:=.tup [.int (i:Int),.int v]) hp
  refine⟨p,_,rfl,SqT.of zc,rfl,_,_,rfl,_,_,rfl,rfl,?_⟩
  refine⟨_,rfl,_,rfl,_,rfl,l,_,_,_,rfl,rfl,SqL.of ((S.trans N) _ _ el1),qp (ns:=fig) (uW _) (by omega),rfl,_,rfl,?_⟩
  rw[xQ]
  by_cases hm:v=fig.getD i 0
  ·refine QX (by rw[hm]) (no (by rw[ev,hm,decide_eq_true rfl];rfl) _ N)
  ·have hb:(!decide (V.int v=V.int (fig.getD i 0)))=true:=by
    simp only[V.int.injEq,yl,decide_eq_false_iff_not];exact hm
   rw[hb]
   exact zV ⟨_,rfl,yes (by rw[ev,decide_eq_false hm];rfl) _ N⟩
 intro lu H2 hlu S2 elu
 have elu:H2 lu=some (.lst ((JE (unl rs fig)).map V.int)):=by rw[elu,zjL];rfl
 have A2:=S1.trans S2
 refine⟨_,rfl,by decide,fun q fq=>⟨_,_,rdL ((zd.new fq) _ _ elu),.lst (SqL.of zc) .nil,Ji _,Ji [],_,rfl,?_⟩⟩
 have Nq:=zd.new (o:=.lst []) fq
 have ee:PyData.eqv (.list ((JE (unl rs fig)).map .int)) (.list [])=decide (JE (unl rs fig)=[]):=Q4 _ []
 rw[ee]
 have three:∀{a b c:V},([a,b,c]:List V).length≤sizeLine:=fun {_ _ _}=>by show 3≤sizeLine;decide
 rcases zez (JE (unl rs fig)) with⟨hu,hw⟩|⟨hu,hw⟩
 ·rw[decide_eq_true hu]
  exact zV ⟨_,rfl,_,rfl,three,fun t ft=>fin lu _ (A2.trans Nq) (S1.free hlu) (Nq _ _ elu) "right" hw.symm t ft⟩
 ·rw[decide_eq_false hu]
  exact jd ⟨_,rfl,_,rfl,three,fun t ft=>fin lu _ (A2.trans Nq) (S1.free hlu) (Nq _ _ elu) "mended" hw.symm t ft⟩
noncomputable abbrev q9:Stmt:=top 59
theorem J7:zu ["count","size","told","last","ahead"] ["count","size"] (ze q9):=⟨rfl,rfl,rfl,by decide +kernel,rfl,by decide +kernel,by decide +kernel⟩
theorem zcv:zq "choices" q9 ["count","size"]:=je fun _ _ _ _ _ _ _ _=>rfl
theorem zey (D:Def K mg "choices" q9):FnS P w K mg base "choices" ["count","size"] 1 (zcS 0) :=
 D.ok J7 zcv (fun _ _ _ _ z=>z.elim) fun f cdv A outer s H vs Q E hr h=>h.elim
theorem QT {sz:Nat}(hsz:sz≤2)(D:Def K mg "choices" q9)(T:Txt K mg cR cT cB cW cD cP cA cU cI cG cX)(F_choices:FnS P w K mg base "choices" ["count","size"] (sz+1) (zcS sz)):FnS P w K mg base "choices" ["count","size"] (sz+2) (zcS (sz+1)):=by
 refine D.ok J7 zcv zS fun f cdv A outer s H vs Q E hr h=>?_
 obtain⟨_,_,rfl,c,t,ht,rfl,rfl,hc,k⟩:=h
 refine⟨_,(zf (zN (zx qI (pv 1) zg (zD _))
    (zh (zk (zJ (ac (zJ zb) zb))))
    zA)
   (zf (zn (i:=2) J7.nd rfl (Or.inl rfl) (zJ zb))
   (zf (jW zY rfl (Qh rfl T.range (ac (pv 0) zb)) (zE (i:=3) J7.nd rfl (Or.inl rfl))
    (zh (jW zY rfl (jg (cFn (hkk:=xr _) F_choices hr zw (ac (pv 3) (ac (zi jL (pv 1) zg) zb)))) (zE (i:=4) J7.nd rfl (Or.inl rfl))
     (zh (jr (qU xR ya yb jT (pv 2) (ac (zi qo (pv 4) (zJ (ac (pv 3) zb))) zb)))))))
   (zh (zk (pv 2)))))),?_⟩
 try (set_option simprocs false in dsimp only[zr])
 have s200:(200:Nat)≤sizeLine:=by decide
 refine⟨_,rfl,rfl,_,rfl,?_⟩
 cases t with
 |zero =>
  refine zV ⟨by decide,fun p1 f1=>⟨(by show 1≤sizeLine;decide),fun p2 f2=>?_⟩⟩
  have N1:=zd.new (o:=.lst []) f1
  have N2:=zd.new (o:=.lst [.ref p1]) f2
  exact k p2 [p1] _ (N1.trans N2) (N1.free f2) (fun a ha=>by rw[xo.mp ha];exact f1) zc (.cons (N2 _ _ zc) .nil)
 |succ u =>
  have hne:¬decide (V.int ((u+1:Nat):Int)=V.int 0)=true:=fun z=>by have:=QH z;omega
  refine qX (fun z=>absurd z hne) (fun _=>?_)
  obtain⟨sz',rfl⟩:∃sz',sz=sz'+1:=⟨sz - 1,by omega⟩
  refine⟨by decide,fun DD fD=>?_⟩
  have N:=zd.new (o:=.lst []) fD
  refine⟨_,rfl,_,rfl,(by show -(2^62)≤(c:Int);omega),(by show(c:Int)<2^62;omega),zb9 (lo:=0) (fun i σ H'=>∃(as:List Addr) (y3 y4:Option V),σ=[some (.int (c:Int)),some (.int ((u+1:Nat):Int)),some (.ref DD),y3,y4]∧zd H H'∧H' DD=some (.lst (as.map V.ref))∧zT H' as (chs i (u+1))∧DD∉as∧∀a∈as,H a=none)
   ⟨[],_,_,rfl,N,zc,.nil,(fun h=>nomatch h),(fun _ h=>nomatch h)⟩ ?_ ?_⟩
  rotate_left
  ·rintro σ H2 ⟨as,y3,y4,rfl,S2,eD,F2,nD,hn⟩
   rw[xQ]at F2
   exact⟨_,rfl,k DD as H2 S2 fD hn eD F2⟩
  rintro i σ H2 hi ⟨as,y3,y4,rfl,S2,eD,F2,nD,hn⟩
  have hi:i<c:=by rw[xQ]at hi;exact hi
  refine⟨_,rfl,_,rfl,_,_,rfl,rfl,_,_,rfl,i,u,by omega,by rw[v4],by show V.int (((u+1:Nat):Int) - 1)=V.int (u:Int);congr 1;omega,by omega,fun l2 as2 H3 S3 hl2 hn2 el2 F3=>?_⟩
  have eD3:=S3 _ _ eD
  have lD:l2≠DD:=fun z=>by rw[z,eD]at hl2;cases hl2
  have D2:DD∉as2:=fun z=>by have:=hn2 _ z;rw[eD]at this;cases this
  refine⟨l2,rfl,⟨_,SqL.of el2⟩,qQ (K:=K) (xs:=as2.map V.ref) (fun j σ H'=>∃(bs:List Addr) (y4:Option V),σ=[some (.int (c:Int)),some (.int ((u+1:Nat):Int)),some (.ref DD),some (.int (0+(i:Int))),y4]∧zd H H'∧H' DD=some (.lst (bs.map V.ref))∧zT H' bs (chs i (u+1)++((chs i u).take j).map (·++[(i:Int)]))∧DD∉bs∧(∀a∈bs,H a=none)∧H' l2=some (.lst (as2.map V.ref))∧zT H' as2 (chs i u))
   ⟨as,_,rfl,S2.trans S3,eD3,by rw[List.take_zero,vY,yA];exact F2.up S3,nD,hn,el2,F3⟩ (fun j σ H' _ ⟨_,_,_,_,_,_,_,_,e,_⟩=>SqL.of e) ?_ ?_⟩
  rotate_left
  ·rintro σ H4 ⟨bs,y4',rfl,S4,e4,F4,n4,h4,_,_⟩
   rw[xa,F3.len,zlV]at F4
   exact⟨bs,_,_,rfl,S4,e4,F4,n4,h4⟩
  rintro j x σ H4 hx ⟨bs,y4',rfl,S4,e4,F4,n4,h4,el4,F4'⟩
  obtain⟨a,ha,rfl⟩:=Jh hx
  obtain⟨q,hq,ea⟩:=F4'.get ha
  have q2:=ziq (c:=i) (s:=u) (by omega) q (xq hq)
  have lb:=zjH (c:=c) (i:=i) (t:=u) (j:=j) hc (by omega) hi
  rw[←F4.len]at lb
  refine⟨_,rfl,.inl ⟨rfl,_,SqL.of e4⟩,_,rfl,_,rfl,(by show 1≤sizeLine;decide),fun p1 f1=>?_⟩
  have N1:=zd.new (o:=.lst [.int (0+(i:Int))]) f1
  refine⟨a,p1,_,_,rfl,rfl,SqL.of (N1 _ _ ea),SqL.of zc,(by rw[xa];show _+1≤_;omega),fun p2 f2=>?_⟩
  have ec:q.map V.int++[V.int (0+(i:Int))]=(q++[(i:Int)]).map V.int:=by rw[xE,v4];rfl
  rw[ec]
  have N2:=zd.new (o:=.lst ((q++[(i:Int)]).map V.int)) f2
  have N12:=N1.trans N2
  have eD4:=N12 _ _ e4
  refine⟨DD,_,_,rfl,rfl,eD4,(by rw[xa];omega),?_⟩
  have pD:p2≠DD:=fun z=>by rw[z,N1 _ _ e4]at f2;cases f2
  obtain⟨g1,g2⟩:=zhJ (D:=DD) (c:=p2) (f:=q++[(i:Int)]) (xs:=bs.map V.ref++[.ref p2]) F4 n4 N12 zc pD
  refine⟨bs++[p2],_,rfl,(S4.trans N12).upd fD,zc.trans (by rw[xE];rfl),by rw[zkt hq];exact g1,g2,fun b hb=>?_,by rw[zC lD];exact N12 _ _ el4,(F4'.up N12).but (fun b o hb h=>by rw[zC hb];exact h) D2⟩
  rcases xM.mp hb with z|z
  ·exact h4 b z
  ·rw[xo.mp z];exact(S4.trans N1).free f2
noncomputable abbrev JN:Stmt:=top 56
theorem YE:zu ["base","figure","places","number"] ["base","figure"] (ze JN):=⟨rfl,rfl,rfl,by decide +kernel,rfl,by decide +kernel,by decide +kernel⟩
theorem zjQ:zq "mended" JN ["base","figure"]:=je fun _ _ _ _ _ _ _ _=>rfl
theorem zib (D:Def K mg "mended" JN)(T:Txt K mg cR cT cB cW cD cP cA cU cI cG cX)(F_refuse_no_figure:FnS P w K mg base "refuse_no_figure" ["base","figure"] 2 (Zv cB))(F_choices:FnS P w K mg base "choices" ["count","size"] 4 (zcS 3))(F_number_without:FnS P w K mg base "number_without" ["base","figure","places"] 43 zaP)(F_fits:FnS P w K mg base "fits" ["base","number"] 4 zbO)(F_found:FnS P w K mg base "found" ["base","figure","number"] 3 zdq) :
  FnS P w K mg base "mended" ["base","figure"] 44 (za5 cB):=by
 refine D.ok YE zjQ zS fun f cdv A outer s H vs Q E hr h=>?_
 obtain⟨_,_,rfl,kept,spare,l,fig,B,rfl,el,k,kE⟩:=h
 refine⟨_,(zf (jr (cFn F_refuse_no_figure hr zG (ac (pv 0) (ac (pv 1) zb))))
   (zf (jW zY rfl (jg (cFn F_choices hr zw (ac (cBi zP (by rfl) T.len PyProof.Rows.Boot.«len» (ac (pv 1) zb)) (ac (zi jk (cBi zP (by rfl) T.len PyProof.Rows.Boot.«len» (ac (zL jI (pv 0) zg (fun _ _=>rfl)) zb)) zg) zb)))) (zE (i:=2) YE.nd rfl (Or.inl rfl))
    (zf (zn (i:=3) YE.nd rfl (Or.inl rfl) (cFn F_number_without hr zw (ac (pv 0) (ac (pv 1) (ac (pv 2) zb)))))
    (zh (zN (Z4 (cFn F_fits hr zw (ac (pv 0) (ac (pv 3) zb))))
     (zh (zk (cFn F_found hr zw (ac (pv 0) (ac (pv 1) (ac (pv 3) zb))))))
     zA))))
   (zh (zk (jV (ac zO (ac zed (ac (zJ zb) zb)))))))),?_⟩
 try (set_option simprocs false in dsimp only[zr])
 obtain⟨⟨t,rfl,hb⟩,gb⟩:=id B
 obtain⟨t1,t2,e0,e1,e2⟩:=hb.ex
 have k6:=gb.k6
 have s4:=gb.s4
 have la:(kept++spare).length≤10:=by rw[xw];omega
 refine⟨_,rfl,_,rfl,_,_,rfl,kept,spare,l,fig,B,rfl,el,fun hv H1 S1=>?_,kE⟩
 refine⟨_,rfl,l,_,rfl,.inl (SqL.of (S1 _ _ el)),_,rfl,t,_,_,_,rfl,rfl,SqT.of (S1 _ _ e0),rfl,t2,_,rfl,.inr (SqT.of (S1 _ _ e2)),_,_,rfl,rfl,⟨by decide,by decide⟩,_,_,rfl,(kept++spare).length,spare.length/2,(by show spare.length/2≤2;omega),by show V.int ((fig.map V.int).length:Int)=_;rw[xa,hv.len],by show V.int (((spare.map V.int).length:Int)/2)=V.int ((spare.length/2:Nat):Int);rw[xa];congr 1,la,fun lc as H2 S2 _ _ elc F2=>?_⟩
 have A2:=S1.trans S2
 refine⟨lc,rfl,⟨_,SqL.of elc⟩,qQ (K:=K) (xs:=as.map V.ref) (fun i σ H'=>∃y2 y3:Option V,σ=[some (.ref t),some (.ref l),y2,y3]∧zd H2 H'∧∀(j:Nat) ps,j<i→(chs (kept++spare).length (spare.length/2))[j]? = some ps→∃v,ZT (kept++spare) fig ps v∧¬zM kept v)
  ⟨_,_,rfl,zd.refl _,fun j _ h=>absurd h (yX j)⟩ (fun i σ H' _ ⟨_,_,_,S,_⟩=>SqL.of (S _ _ elc)) ?_ ?_⟩
 ·rintro i x σ H3 hx ⟨y2,y3,rfl,S3,g⟩
  obtain⟨a,ha,rfl⟩:=Jh hx
  obtain⟨ps,hps,ea⟩:=F2.get ha
  have A3:=A2.trans S3
  refine⟨_,rfl,_,rfl,_,rfl,_,_,_,rfl,kept,spare,l,a,fig,ps,B.up A3,rfl,A3 _ _ el,hv,rfl,S3 _ _ ea,fun v H4 hw S4=>?_⟩
  have A4:=A3.trans S4
  refine⟨_,rfl,_,rfl,_,_,rfl,kept,spare,v,B.up A4,rfl,_,rfl,?_⟩
  by_cases hf:zM kept v
  ·rw[decide_eq_true hf]
   exact zV ⟨_,rfl,_,rfl,_,rfl,_,_,_,rfl,kept,spare,l,fig,v,B.up A4,rfl,A4 _ _ el,hv.len,rfl,fun t' lu H5 S5 hlu et elu=>k hv t' lu _ _ _ H5 (A4.trans S5) (A4.free hlu) et elu (.inl ⟨v,zdp hw hf (YQ _ _ _ (xq hps)),rfl,rfl,rfl⟩)⟩
  ·rw[decide_eq_false hf]
   refine jd ⟨_,_,rfl,S3.trans S4,fun j ps' hj hp'=>?_⟩
   rcases yy j i with h|h
   ·exact g j ps' h hp'
   ·have e:j=i:=by omega
    rw[e,hps]at hp'
    cases hp'
    exact⟨v,hw,hf⟩
 ·rintro σ H3 ⟨y2,y3,rfl,S3,g⟩
  rw[xa,F2.len]at g
  refine⟨by decide,fun q fq=>⟨(by show 3≤sizeLine;decide),fun t' ft=>?_⟩⟩
  have N1:=zd.new (o:=.lst []) fq
  have N2:=zd.new (o:=.tup [.str "lost",.non,.ref q]) ft
  exact k hv t' q "lost" .non [] _ (A2.trans (S3.trans (N1.trans N2))) ((A2.trans S3).free fq) zc (N2 _ _ zc) (.inr ⟨ziw gb fun ps hps=>by obtain⟨j,hj⟩:=y9.mp hps;exact g j ps (xv.mp hj).1 hj,rfl,rfl,rfl⟩)
end
section
variable {P:Program}{w:World}{K:xb}{mg:Str→Option Value}{base:Heap}{cR cT cB cW cD cP cA cU cI cG cX:Addr}
noncomputable abbrev jx:Stmt:=top 67
theorem Yj:zu ["ones","others"] ["ones","others"] (ze jx):=⟨rfl,rfl,rfl,by decide +kernel,rfl,by decide +kernel,by decide +kernel⟩
theorem Y1:zq "sum_of_products" jx ["ones","others"]:=je fun _ _ _ _ _ _ _ _=>rfl
theorem zlZ (D:Def K mg "sum_of_products" jx)(T:Txt K mg cR cT cB cW cD cP cA cU cI cG cX):FnS P w K mg base "sum_of_products" ["ones","others"] 1 zc3:=by
 refine D.ok Yj Y1 zS fun f cdv A outer s H vs Q E hr h=>?_
 obtain⟨_,_,rfl,p,q,xs,ys,rfl,rfl,ep,eq,hl,h200,bx,bY,k⟩:=h
 refine⟨_,(zh (zk (cBi (zg8 rfl) (by rfl) T.sum PyProof.Rows.Boot.«sum» (ac (Jj (lv:=2) (caps:=[]) (N':=["one","other"]) rfl (zW.alone rfl (by decide +kernel) (by decide +kernel) rfl) (zdF (by decide) (by decide)) (zbw .L .L rfl T.zip (ac (pv 0) (ac (pv 1) zb))) (fun _ _ _ _=>ze6 (n:=2) K rfl (jM (zE (i:=0) (show(["one","other"]:List Str).Nodup by decide +kernel) rfl (Or.inl rfl)) (jM (zE (i:=1) (show(["one","other"]:List Str).Nodup by decide +kernel) rfl (Or.inl rfl)) Zg))) (fun _ _ _ _=>(zi zeU (pv 0) (pv 1)))) zb)))),?_⟩
 try (set_option simprocs false in dsimp only[zr])
 refine⟨_,rfl,_,rfl,p,q,rfl,⟨_,SqL.of ep⟩,⟨_,SqL.of eq⟩,zj2 (K:=K) (k1:=.L) (k2:=.L) (SqL.of ep) (SqL.of eq) (by rw[xa,xa,hl]) ?_ (fun i=>V.int (xs.getD i 0*ys.getD i 0)) ?_ ?_⟩
 ·rw[xa];exact ut h200 (by decide)
 ·intro i x y hx hy pp H' Q' S epp q'
  obtain⟨a,ha,rfl⟩:=j7 hx
  obtain⟨b,hb,rfl⟩:=j7 hy
  have h1:=bx a (xq ha)
  have h2:=bY b (xq hb)
  have e1:xs.getD i 0=a:=by rw[xA,ha];rfl
  have e2:ys.getD i 0=b:=by rw[xA,hb];rfl
  rw[e1,e2]at q'
  exact⟨pp,_,rfl,SqT.of epp,rfl,_,_,rfl,_,_,rfl,rfl,_,rfl,_,rfl,_,_,rfl,rfl,⟨h1,h2⟩,q' _ (zd.refl _)⟩
 ·intro Dd H' hD S e
  rw[xa,zg0 hl]at e
  exact⟨Dd,_,rfl,SqL.of e,k H' S⟩
inductive Tab (H:Hp):List Addr→List (List Addr)→List (List (List Int))→Prop
 |nil:Tab H [] [] []
 |cons {r:Addr} {as:List Addr} {fs:List (List Int)} {rs:List Addr} {ass:List (List Addr)} {fss:List (List (List Int))} (h:H r=some (.lst (as.map V.ref))) (h':zT H as fs) (t:Tab H rs ass fss):Tab H (r::rs) (as::ass) (fs::fss)
theorem Tab.up {H H':Hp}{rs:List Addr}{ass:List (List Addr)}{fss:List (List (List Int))}(h:Tab H rs ass fss)(S:zd H H'):Tab H' rs ass fss:=by
 induction h with
 |nil=>exact .nil
 |cons h h' _ ih=>exact .cons (S _ _ h) (h'.up S) ih
theorem Tab.len {H:Hp}{rs:List Addr}{ass:List (List Addr)}{fss:List (List (List Int))}(h:Tab H rs ass fss):rs.length=fss.length:=by
 induction h with
 |nil=>rfl
 |cons _ _ _ ih=>exact congrArg (·+1) ih
theorem Tab.get {H:Hp}{rs:List Addr}{ass:List (List Addr)}{fss:List (List (List Int))}(h:Tab H rs ass fss):∀{i:Nat} {r:Addr},rs[i]? = some r→∃as fs,ass[i]? = some as∧fss[i]? = some fs∧H r=some (.lst (as.map V.ref))∧zT H as fs:=by
 induction h with
 |nil=>intro i r e;cases e
 |cons h h' _ ih =>
  intro i r e
  cases i with
  |zero=>cases e;exact⟨_,_,rfl,rfl,h,h'⟩
  |succ i=>exact ih (i:=i) e
theorem Tab.append {H:Hp}{rs rs':List Addr}{ass ass':List (List Addr)}{fss fss':List (List (List Int))}(h:Tab H rs ass fss)(h':Tab H rs' ass' fss'):Tab H (rs++rs') (ass++ass') (fss++fss'):=by
 induction h with
 |nil=>exact h'
 |cons a b _ ih=>exact .cons a b ih
noncomputable def Yp (R1 R2:List (List (List Int))):Prop:=(∀r∈R1,r.length=R2.length)∧∀r∈R2,r.length=(R2.headD []).length
inductive zdw (cU:Addr)(a b:V)(H:Hp)(Q:VK)(E:XK):Prop
 |mk (l1 l2:Addr) (rs rs':List Addr) (ass ass':List (List Addr)) (R1 R2:List (List (List Int))) (h0:a=.ref l1) (h1:b=.ref l2) (e1:H l1=some (.lst (rs.map V.ref))) (e2:H l2=some (.lst (rs'.map V.ref))) (t1:Tab H rs ass R1) (t2:Tab H rs' ass' R2)
   (yes:Yp R1 R2→Q .non H) (no:¬Yp R1 R2→E (.ref cU) none H):zdw cU a b H Q E
noncomputable def zfs (cU:Addr):Sp:=Sp2 (zdw cU)
theorem zfM {a b:Nat}(h:(!decide (V.int (a:Int)=V.int (b:Int)))=true):a≠b:=fun e=>by
 rw[e,decide_eq_true rfl]at h;cases h
theorem zfE {a b:Nat}(h:(!decide (V.int (a:Int)=V.int (b:Int)))=false):a=b:=by
 by_cases e:a=b
 ·exact e
 ·rw[decide_eq_false (fun z=>e (by have:=V.int.inj z;omega))]at h;cases h
theorem zlj {c:Bool}{A B:Prop}(h1:c=true→A)(h2:c=false→B):if c=true then A else B:=by
 cases c
 ·rw[if_neg xB];exact h2 rfl
 ·rw[if_pos rfl];exact h1 rfl
noncomputable abbrev jc:Stmt:=top 63
theorem qE:zu ["one","other","row"] ["one","other"] (ze jc):=⟨rfl,rfl,rfl,by decide +kernel,rfl,by decide +kernel,by decide +kernel⟩
theorem Qn:zq "refuse_unlike_tables" jc ["one","other"]:=je fun _ _ _ _ _ _ _ _=>rfl
theorem zlg (D:Def K mg "refuse_unlike_tables" jc)(T:Txt K mg cR cT cB cW cD cP cA cU cI cG cX):FnS P w K mg base "refuse_unlike_tables" ["one","other"] 1 (zfs cU):=by
 refine D.ok qE Qn zS fun f cdv A outer s H vs Q E hr h=>?_
 obtain⟨_,_,rfl,l1,l2,rs,rs',ass,ass',R1,R2,rfl,rfl,e1,e2,t1,t2,yes,no⟩:=h
 refine⟨_,(zf (jW zY rfl (jg (pv 0)) (zE (i:=2) qE.nd rfl (Or.inl rfl))
    (zh (zN (zx Zs (cBi zP (by rfl) T.len PyProof.Rows.Boot.«len» (ac (pv 2) zb)) (cBi zP (by rfl) T.len PyProof.Rows.Boot.«len» (ac (pv 1) zb)) (zD _))
     (zh (jK T.x_Unlike T.Unlike (ac zO zb)))
     zA)))
   (zh (jW zY rfl (jg (pv 1)) (zE (i:=2) qE.nd rfl (Or.inl rfl))
    (zh (zN (zx Zs (cBi zP (by rfl) T.len PyProof.Rows.Boot.«len» (ac (pv 2) zb)) (cBi zP (by rfl) T.len PyProof.Rows.Boot.«len» (ac (zL qg (pv 1) zg (fun _ _=>rfl)) zb)) (zD _))
     (zh (jK T.x_Unlike T.Unlike (ac zO zb)))
     zA))))),?_⟩
 try (set_option simprocs false in dsimp only[zr])
 refine⟨_,rfl,l1,rfl,⟨_,SqL.of e1⟩,qQ (K:=K) (xs:=rs.map V.ref) (fun i σ H'=>H'=H∧(∃y:Option V,σ=[some (.ref l1),some (.ref l2),y])∧∀(j:Nat) fs,j<i→R1[j]? = some fs→fs.length=R2.length)
  ⟨rfl,⟨_,rfl⟩,fun j _ h=>absurd h (yX j)⟩ (fun i σ H' _ hh=>hh.1▸SqL.of e1) ?_ ?_⟩
 ·rintro i x σ H' hx ⟨rfl,⟨y,rfl⟩,g⟩
  obtain⟨r,hr',rfl⟩:=Jh hx
  obtain⟨as,fs,_,hf,er,F⟩:=t1.get hr'
  refine⟨_,rfl,r,_,rfl,.inl (SqL.of er),_,rfl,l2,_,rfl,.inl (SqL.of e2),rfl,_,rfl,?_⟩
  rw[xa,xa,F.len,t2.len]
  refine zlj (fun h=>?_) (fun h=>?_)
  ·exact⟨by decide,no fun L=>zfM h (L.1 fs (xq hf))⟩
  ·refine⟨rfl,⟨_,rfl⟩,fun j fs' hj hf'=>?_⟩
   rcases yy j i with h'|h'
   ·exact g j fs' h' hf'
   ·have:j=i:=by omega
    rw[this,hf]at hf';cases hf'
    exact zfE h
 rintro σ H' ⟨rfl,⟨y,rfl⟩,g⟩
 have g1:∀r∈R1,r.length=R2.length:=fun r hr'=>by
  obtain⟨j,hj⟩:=yx hr'
  refine g j r ?_ hj
  rw[xa,t1.len]
  exact(xv.mp hj).1
 clear g
 refine⟨_,rfl,l2,rfl,⟨_,SqL.of e2⟩,qQ (K:=K) (xs:=rs'.map V.ref) (fun i σ H1=>H1=H'∧(∃y:Option V,σ=[some (.ref l1),some (.ref l2),y])∧∀(j:Nat) fs,j<i→R2[j]? = some fs→fs.length=(R2.headD []).length)
  ⟨rfl,⟨_,rfl⟩,fun j _ h=>absurd h (yX j)⟩ (fun i σ H1 _ hh=>hh.1▸SqL.of e2) ?_ ?_⟩
 ·rintro i x σ H1 hx ⟨rfl,⟨y,rfl⟩,g⟩
  obtain⟨r,hr',rfl⟩:=Jh hx
  obtain⟨as,fs,_,hf,er,F⟩:=t2.get hr'
  have h0:0<rs'.length:=ut (xV _) (xv.mp hr').1
  have hz:=xm h0
  generalize rs'[0]=r0 at hz
  obtain⟨as0,fs0,_,hf0,er0,F0⟩:=t2.get hz
  have hat:atI (rs'.map V.ref) 0=some (.ref r0):=zfN (j:=0) (xs:=rs'.map V.ref) (by rw[xK,hz];rfl)
  have hd0:R2.headD []=fs0:=by
   cases R2 with
   |nil=>cases hf0
   |cons a b=>cases hf0;rfl
  refine⟨_,rfl,r,_,rfl,.inl (SqL.of er),_,rfl,l2,_,_,_,rfl,rfl,SqL.of e2,hat,r0,_,rfl,.inl (SqL.of er0),rfl,_,rfl,?_⟩
  rw[xa,xa,F.len,F0.len]
  refine zlj (fun h=>?_) (fun h=>?_)
  ·exact⟨by decide,no fun L=>zfM h (by rw[←hd0];exact L.2 fs (xq hf))⟩
  ·refine⟨rfl,⟨_,rfl⟩,fun j fs' hj hf'=>?_⟩
   rcases yy j i with h'|h'
   ·exact g j fs' h' hf'
   ·have:j=i:=by omega
    rw[this,hf]at hf';cases hf'
    rw[hd0]
    exact zfE h
 rintro σ H1 ⟨rfl,⟨y,rfl⟩,g⟩
 refine yes ⟨g1,fun r hr'=>?_⟩
 obtain⟨j,hj⟩:=yx hr'
 refine g j r ?_ hj
 rw[xa,t2.len]
 exact(xv.mp hj).1
inductive za6 (a:V)(H:Hp)(Q:VK)(E:XK):Prop
 |mk (l:Addr) (rs:List Addr) (ass:List (List Addr)) (R:List (List (List Int))) (h0:a=.ref l) (e:H l=some (.lst (rs.map V.ref))) (t:Tab H rs ass R) (hs:∀i,(ass.take i).flatten.length≤1000)
   (q:∀lf H',zd H H'→H' lf=some (.lst (ass.flatten.map V.ref))→zT H' ass.flatten R.flatten→Q (.ref lf) H'):za6 a H Q E
noncomputable def zcf:Sp:=Sp1 za6
theorem Tab.flat {H:Hp}{rs:List Addr}{ass:List (List Addr)}{fss:List (List (List Int))}(h:Tab H rs ass fss):zT H ass.flatten fss.flatten:=by
 induction h with
 |nil=>exact .nil
 |cons _ h' _ ih=>exact h'.append ih
theorem Tab.len2 {H:Hp}{rs:List Addr}{ass:List (List Addr)}{fss:List (List (List Int))}(h:Tab H rs ass fss):rs.length=ass.length:=by
 induction h with
 |nil=>rfl
 |cons _ _ _ ih=>exact congrArg (·+1) ih
noncomputable abbrev qt:Stmt:=top 64
theorem ZH:zu ["rows","figures","row"] ["rows"] (ze qt):=⟨rfl,rfl,rfl,by decide +kernel,rfl,by decide +kernel,by decide +kernel⟩
theorem zej:zq "figures_in" qt ["rows"]:=qH fun _ _ _ _ _ _ _=>rfl
theorem zhV (D:Def K mg "figures_in" qt):FnS P w K mg base "figures_in" ["rows"] 1 zcf:=by
 refine D.ok ZH zej jC fun f cdv A outer s H vs Q E hr h=>?_
 obtain⟨_,rfl,l,rs,ass,R,rfl,e,t,hs,q⟩:=h
 refine⟨_,(zf (zn (i:=1) ZH.nd rfl (Or.inl rfl) (zJ zb))
   (zf (jW zY rfl (jg (pv 0)) (zE (i:=2) ZH.nd rfl (Or.inl rfl))
    (zh (jr (qU xR PySem.F.slot_list_extend PySem.F.type_list_extend zhh (pv 1) (ac (pv 2) zb)))))
   (zh (zk (pv 1))))),?_⟩
 try (set_option simprocs false in dsimp only[zr])
 have s2000:(2000:Nat)≤sizeLine:=by decide
 refine⟨by decide,fun lf ff=>?_⟩
 have N:=zd.new (o:=.lst []) ff
 refine⟨_,rfl,l,rfl,⟨_,SqL.of (N _ _ e)⟩,qQ (K:=K) (xs:=rs.map V.ref) (fun i σ H'=>∃y:Option V,σ=[some (.ref l),some (.ref lf),y]∧zd H H'∧H' lf=some (.lst ((ass.take i).flatten.map V.ref)))
  ⟨_,rfl,N,zc⟩ (fun i σ H' _ ⟨_,_,S,_⟩=>SqL.of (S _ _ e)) ?_ ?_⟩
 rotate_left
 ·rintro σ H' ⟨y,rfl,S,el⟩
  have el:H' lf=some (.lst ((ass.take (rs.map V.ref).length).flatten.map V.ref)):=el
  rw[xa,t.len2,xS]at el
  exact⟨_,rfl,q lf H' S el (t.up S).flat⟩
 rintro i x σ H' hx ⟨y,rfl,S,el⟩
 obtain⟨r,hr',rfl⟩:=Jh hx
 obtain⟨as,fs,ha,_,er,_⟩:=t.get hr'
 have tk:ass.take (i+1)=ass.take i++[as]:=by rw[yn,ha];rfl
 have h1:=hs (i+1)
 rw[tk,uT,xw]at h1
 have h2:([as]:List (List Addr)).flatten=as:=by simp
 rw[h2]at h1
 refine⟨_,rfl,.inl ⟨rfl,_,SqL.of el⟩,_,rfl,lf,r,_,_,rfl,rfl,el,S _ _ er,by rw[xa,xa];omega,?_⟩
 exact⟨_,rfl,S.upd ff,by rw[zc,tk,uT,h2,xE]⟩
noncomputable abbrev qf:Stmt:=top 61
theorem QD:zu ["base","one","other","numbers"] ["base","one","other"] (ze qf):=⟨rfl,rfl,rfl,by decide +kernel,rfl,by decide +kernel,by decide +kernel⟩
theorem zcJ:zq "row_product" qf ["base","one","other"]:=qz fun _ _ _ _ _ _ _ _ _=>rfl
theorem zlI (D:Def K mg "row_product" qf)(T:Txt K mg cR cT cB cW cD cP cA cU cI cG cX)(F_numbers_of:FnS P w K mg base "numbers_of" ["base","figures"] 46 (QI cB cW))(F_figure_of:FnS P w K mg base "figure_of" ["base","number"] 5 (qb cT))(F_sum_of_products:FnS P w K mg base "sum_of_products" ["ones","others"] 1 zc3) :
  FnS P w K mg base "row_product" ["base","one","other"] 47 (zaT (WC cT cB cW cD cP cA cU)):=by
 refine D.ok QD zcJ jY fun f cdv A outer s H vs Q E hr h=>?_
 obtain⟨_,_,_,rfl,kept,spare,as,bs,fs,gs,due,B,⟨l1,rfl,e1,F1⟩,⟨l2,rfl,e2,F2⟩,h61,h61',hd,yes,no⟩:=h
 refine⟨_,(zf (zN (zx Zs (cBi zP (by rfl) T.len PyProof.Rows.Boot.«len» (ac (pv 1) zb)) (cBi zP (by rfl) T.len PyProof.Rows.Boot.«len» (ac (pv 2) zb)) (zD _))
    (zh (jK T.x_Unlike T.Unlike (ac zO zb)))
    zA)
   (zf (zn (i:=3) QD.nd rfl (Or.inl rfl) (cFn F_numbers_of hr zG (ac (pv 0) (ac (zi qo (pv 1) (pv 2)) zb))))
   (zh (zk (cFn F_figure_of hr zG (ac (pv 0) (ac (cFn F_sum_of_products hr zw (ac (qx Qp (pv 3) qW (qV (cBi zP (by rfl) T.len PyProof.Rows.Boot.«len» (ac (pv 1) zb)))) (ac (qx Qp (pv 3) (qV (cBi zP (by rfl) T.len PyProof.Rows.Boot.«len» (ac (pv 1) zb))) qW) zb))) zb))))))),?_⟩
 try (set_option simprocs false in dsimp only[zr])
 refine⟨_,rfl,l1,_,rfl,.inl (SqL.of e1),_,rfl,l2,_,rfl,.inl (SqL.of e2),rfl,_,rfl,?_⟩
 rw[xa,xa,F1.len,F2.len]
 rcases hd with⟨hne,rfl⟩|⟨hle,ns,ms,w1,w2,R1,R2,rfl⟩
 ·have hb:(!decide (V.int (fs.length:Int)=V.int (gs.length:Int)))=true:=by
   simp only[V.int.injEq,yl,decide_eq_false_iff_not]
   omega
  rw[hb]
  exact zV ⟨by decide,no "unlike" cU rfl zgW H (zd.refl H)⟩
 refine QX (by rw[hle]) ?_
 have s200:(200:Nat)≤sizeLine:=by decide
 refine⟨_,rfl,_,rfl,_,rfl,l1,l2,_,_,rfl,rfl,SqL.of e1,SqL.of e2,(by rw[xa,xa];omega),fun p fp=>?_⟩
 have N:=zd.new (o:=.lst (as.map V.ref++bs.map V.ref)) fp
 refine⟨_,_,rfl,kept,spare,as++bs,fs++gs,B.up N,⟨p,rfl,by rw[xE];exact zc,(F1.append F2).up N⟩,(by rw[xw];omega),?_⟩
 rcases zi7 B.2 R1 R2 with⟨hf,hx⟩|⟨hf,hw,hv,hx⟩|⟨hf,hw,g1,g2⟩
 ·exact .inr (.inl ⟨hx,fun H' S=>no "figure" cB (by unfold jj;rw[if_pos hf]) J1 H' (N.trans S)⟩)
 ·exact .inr (.inr ⟨hv,hx,fun H' S=>no "wrong" cW (by unfold jj;rw[if_neg hf,if_pos hw]) Jd H' (N.trans S)⟩)
 refine .inl ⟨ns++ms,by rw[xE,g1,g2],fun n hn=>(xM.mp hn).elim (R1.2.1 n) (R2.2.1 n),fun p2 H2 S2 hp2 ep2=>?_⟩
 have S2':=N.trans S2
 have c250:(2:Int)^120<2^250:=by decide
 have small:∀n,zM kept n→-(2^250)<n∧n<2^250:=fun n hn=>by have:=zM.small B.2 hn;omega
 have la:as.length=ns.length:=by rw[F1.len,R1.1]
 refine⟨_,rfl,_,rfl,_,rfl,l1,_,rfl,.inl (SqL.of (S2' _ _ e1)),_,rfl,p2,_,rfl,SqL.of ep2,fun p3 f3=>?_⟩
 rw[zbq (uW _),xQ,xa,la,List.take_left]
 have N3:=zd.new (o:=.lst (ns.map V.int)) f3
 refine⟨_,rfl,_,rfl,l1,_,rfl,.inl (SqL.of ((S2'.trans N3) _ _ e1)),_,rfl,p2,_,rfl,SqL.of (N3 _ _ ep2),fun p4 f4=>?_⟩
 rw[Q1 (uW _),xQ,xa,la,List.drop_left]
 have N4:=zd.new (o:=.lst (ms.map V.int)) f4
 have hnm:ns.length=ms.length:=by rw[←R1.1,←R2.1,hle]
 refine⟨_,_,rfl,p3,p4,ns,ms,rfl,rfl,N4 _ _ zc,zc,hnm,(by omega),fun n hn=>small n (R1.2.1 n hn),fun n hn=>small n (R2.2.1 n hn),fun H5 S5=>?_⟩
 have S5':=S2'.trans (N3.trans (N4.trans S5))
 refine⟨_,_,rfl,kept,spare,dot ns ms,B.up S5',rfl,fun hx l H6 S6 hl el=>?_,fun hx H6 S6=>?_⟩
 ·have ed:jj kept spare (dot ns ms) [w1,w2]=(("":Str),zF (kept++spare) (dot ns ms)):=by unfold jj;rw[if_neg hf,if_neg hw,if_pos hx]
  rw[ed]at yes
  exact yes rfl l H6 (S5'.trans S6) (S5'.free hl) el
 ·exact no "great" cT (by unfold jj;rw[if_neg hf,if_neg hw,if_neg hx]) Zh H6 (S5'.trans S6)
end
section
variable {P:Program}{w:World}{K:xb}{mg:Str→Option Value}{base:Heap}{cR cT cB cW cD cP cA cU cI cG cX:Addr}
noncomputable def Q6 (rows:List (List Int))(j:Nat):List Int:=rows.map fun r=>r.getD j 0
noncomputable def zcT (H:Hp)(j:Nat):V→V
 | .ref a=>match H a with
  |some (.lst xs)=>xs.getD j .non
  |_=>.non
 |_=>.non
theorem zdb {H:Hp}{j:Nat}{a:Addr}{ns:List Int}(h:H a=some (.lst (ns.map V.int)))(hj:j<ns.length):zcT H j (.ref a)=.int (ns.getD j 0):=by
 simp only[zcT,h]
 rw[xA,xA,xK,xm hj]
 rfl
theorem zhr {H:Hp}{j:Nat}{n:Nat}(hj:j<n){as:List Addr}{rows:List (List Int)}(F:zT H as rows)(hn:∀r∈rows,r.length=n):(as.map V.ref).map (zcT H j)=(Q6 rows j).map V.int:=by
 induction F with
 |nil=>rfl
 |cons h t ih =>
  have:=ih fun r hr=>hn r (xx _ hr)
  unfold Q6 at this ⊢
  rw[xW,xW,xW,xW,this,zdb h (by rw[hn _ xD];exact hj)]
inductive zdL (a:V)(H:Hp)(Q:VK)(E:XK):Prop
 |mk (l:Addr) (rs:List Addr) (rows:List (List Int)) (n:Nat) (h0:a=.ref l) (e:H l=some (.lst (rs.map V.ref))) (F:zT H rs rows) (hn:∀r∈rows,r.length=n) (h1:1≤rows.length) (h2:rows.length≤100) (h3:n≤100)
   (q:∀lc cs H',zd H H'→H' lc=some (.lst (cs.map V.ref))→zT H' cs ((xH n).map (Q6 rows))→Q (.ref lc) H'):zdL a H Q E
noncomputable def zfA:Sp:=Sp1 zdL
theorem zT.snoc {H:Hp}{as:List Addr}{fs:List (List Int)}{a:Addr}{f:List Int}(h:zT H as fs)(ha:H a=some (.lst (f.map V.int))):zT H (as++[a]) (fs++[f]):=h.append (.cons ha .nil)
noncomputable abbrev qe:Stmt:=top 65
theorem ZE:zu ["rows","columns","place"] ["rows"] (ze qe):=⟨rfl,rfl,rfl,by decide +kernel,rfl,by decide +kernel,by decide +kernel⟩
theorem zdU:zq "columns_of" qe ["rows"]:=qH fun _ _ _ _ _ _ _=>rfl
theorem zk3 (D:Def K mg "columns_of" qe)(T:Txt K mg cR cT cB cW cD cP cA cU cI cG cX):FnS P w K mg base "columns_of" ["rows"] 1 zfA:=by
 refine D.ok ZE zdU jC fun f cdv A outer s H vs Q E hr h=>?_
 obtain⟨_,rfl,l,rs,rows,n,rfl,e,F,hn,h1,h2,h3,q⟩:=h
 refine⟨_,(zf (zn (i:=1) ZE.nd rfl (Or.inl rfl) (zJ zb))
   (zf (jW zY rfl (Qh rfl T.range (ac (zkq (by rfl) T.max (Jj (lv:=1) (caps:=[]) (N':=["row"]) rfl (zW.alone rfl (by decide +kernel) (by decide +kernel) rfl) (zZ (by decide)) (jg (pv 0)) (fun _ _ _ _=>zE (i:=0) (show(["row"]:List Str).Nodup by decide +kernel) rfl (Or.inl rfl)) (fun _ _ _ _=>(cBi zP (by rfl) T.len PyProof.Rows.Boot.«len» (ac (pv 0) zb)))) zg) zb)) (zE (i:=2) ZE.nd rfl (Or.inr rfl))
    (zh (jr (qU xR ya yb jT (pv 1) (ac (Jj (lv:=1) (caps:=[2]) (N':=["row","place"]) rfl (zW.caps (sc:=ze qe) rfl (by decide +kernel) (by decide +kernel) (by decide +kernel) rfl rfl (qj rfl rfl rfl)) (zZ (by decide)) (jg (pv 0)) (fun _ _ _ _=>zE (i:=0) (show(["row","place"]:List Str).Nodup by decide +kernel) rfl (Or.inl rfl)) (fun _ _ _ _=>(zL qg (pv 0) (pv 1) (fun _ _=>rfl)))) zb)))))
   (zh (zk (pv 1))))),?_⟩
 try (set_option simprocs false in dsimp only[zr])
 have s2000:(2000:Nat)≤sizeLine:=by decide
 have rl:=F.len
 refine⟨by decide,fun lc fc=>?_⟩
 have N:=zd.new (o:=.lst []) fc
 refine⟨_,rfl,l,rfl,⟨_,SqL.of (N _ _ e)⟩,Zw (K:=K) (xs:=rs.map V.ref) (SqL.of (N _ _ e)) (by rw[xa];omega) (fun _=>V.int (n:Int)) ?_ ?_⟩
 ·intro x hx H' Q' S q'
  obtain⟨r,hr',rfl⟩:=xI.mp hx
  obtain⟨i,hi⟩:=yx hr'
  obtain⟨ns,hns,er⟩:=F.get hi
  refine⟨_,rfl,r,_,rfl,.inl (SqL.of ((N.trans S) _ _ er)),?_⟩
  rw[xa,hn ns (xq hns)]
  exact q' _ (zd.refl _)
 intro D1 H1 hD1 S1 e1
 have em:(rs.map V.ref).map (fun _=>V.int (n:Int))=(rs.map fun _=>(n:Int)).map V.int:=by rw[yj,yj];rfl
 rw[em]at e1
 refine⟨D1,rs.map fun _=>(n:Int),0,rfl,rfl,SqL.of e1,fun m _ hm=>?_⟩
 have hne:(rs.map fun _=>(n:Int))≠[]:=fun z=>by rw[ul]at z;rw[z]at rl;simp at rl;omega
 obtain⟨z,_,ez⟩:=xI.mp (hm hne).1
 cases ez
 have S01:=N.trans S1
 refine⟨_,rfl,by omega,by omega,zb9 (lo:=0) (n:=n) (fun j σ H'=>∃(y:Option V) (cs:List Addr),σ=[some (.ref l),some (.ref lc),y]∧zd H H'∧H' lc=some (.lst (cs.map V.ref))∧zT H' cs ((xH j).map (Q6 rows))∧∀c∈cs,c≠lc)
  ⟨_,[],rfl,S01,S1 _ _ zc,.nil,fun _ z=>nomatch z⟩ ?_ ?_⟩
 rotate_left
 ·rintro σ H' ⟨y,cs,rfl,S,el,FC,_⟩
  exact⟨_,rfl,q lc cs H' S el FC⟩
 rintro j σ H' hj ⟨y,cs,rfl,S,el,FC,nc⟩
 have cl:cs.length=j:=by rw[FC.len,xa,xZ]
 refine⟨_,rfl,.inl ⟨rfl,_,SqL.of el⟩,_,rfl,l,rfl,⟨_,SqL.of (S _ _ e)⟩,Zw (K:=K) (xs:=rs.map V.ref) (SqL.of (S _ _ e)) (by rw[xa];omega) (zcT H j) ?_ ?_⟩
 ·intro x hx H2 Q' S2 q'
  obtain⟨r,hr',rfl⟩:=xI.mp hx
  obtain⟨i,hi⟩:=yx hr'
  obtain⟨ns,hns,er⟩:=F.get hi
  have nl:=hn ns (xq hns)
  rw[zdb er (by omega)]at q'
  have hat:=qp (ns:=ns) (i:=0+(j:Int)) (by omega) (by omega)
  rw[show(0+(j:Int)).toNat=j by omega]at hat
  exact⟨_,rfl,_,rfl,r,_,_,_,rfl,rfl,SqL.of ((S.trans S2) _ _ er),hat,q' _ (zd.refl _)⟩
 intro D2 H2 hD2 S2 e2
 rw[zhr hj F hn]at e2
 have nd:D2≠lc:=fun z=>by rw[z,el]at hD2;cases hD2
 refine⟨lc,_,_,rfl,rfl,S2 _ _ el,by rw[xa];omega,?_⟩
 refine⟨_,cs++[D2],rfl,(S.trans S2).upd fc,by rw[zc,xE];rfl,?_,fun c hc=>?_⟩
 ·rw[yQ,xE]
  refine zT.but (D:=lc) (H:=H2) (fun b o hb eo=>by rw[zC hb];exact eo) (K28.zT.snoc (FC.up S2) e2) fun z=>?_
  rcases xM.mp z with z|z
  ·exact nc lc z rfl
  ·exact nd (xo.mp z).symm
 ·rcases xM.mp hc with hc|hc
  ·exact nc c hc
  ·rw[xo.mp hc];exact nd
end
section
variable {P:Program}{w:World}{K:xb}{mg:Str→Option Value}{base:Heap}{cR cT cB cW cD cP cA cU cI cG cX:Addr}
noncomputable def zcY (kept spare:List Int)(ns:List Int)(cols:List (List Int)):List (List Int):=cols.map fun c=>zF (kept++spare) (dot ns c)
structure QG (H H':Hp)(D:Addr)(as:List Addr)(fs:List (List Int)):Prop where
 figs:zT H' as fs
 new:∀a∈as,H a=none∧a≠D
 nd:as.Nodup
theorem QG.push {H H' H3:Hp}{D l:Addr}{as:List Addr}{fs:List (List Int)}{f:List Int}{o:HO}(h:QG H H' D as fs)(S:zd H' H3)(S0:zd H H')(eD:∃o,H' D=some o)(hl:H' l=none)(el:H3 l=some (.lst (f.map V.int))):QG H (upd H3 D o) D (as++[l]) (fs++[f]):=by
 have nl:l≠D:=fun z=>by obtain⟨o',e⟩:=eD;rw[z,e]at hl;cases hl
 refine⟨?_,fun a ha=>?_,?_⟩
 ·refine zT.but (D:=D) (H:=H3) (fun b o hb eo=>by rw[zC hb];exact eo) ((h.figs.up S).append (.cons el .nil)) fun z=>?_
  rcases xM.mp z with z|z
  ·exact(h.new D z).2 rfl
  ·exact nl (xo.mp z).symm
 ·rcases xM.mp ha with ha|ha
  ·exact h.new a ha
  ·rw[xo.mp ha];exact⟨S0.free hl,nl⟩
 ·rw[yR]
  refine⟨h.nd,yP.mpr ⟨(fun z=>nomatch z),ua⟩,fun x hx y hy z=>?_⟩
  have hy:y=l:=by simpa using hy
  obtain⟨i,hi⟩:=yx hx
  obtain⟨g,_,eg⟩:=h.figs.get hi
  rw[z,hy,hl]at eg;cases eg
noncomputable def Mod (ns:List Int):Prop:=∀x∈ns,-(2^250)<x∧x<2^250
inductive zc2 (cT:Addr)(a b c:V)(H:Hp)(Q:VK)(E:XK):Prop
 |mk (kept spare:List Int) (lr lcs:Addr) (ns:List Int) (cs:List Addr) (cols:List (List Int)) (h0:Bas H a kept spare) (h1:b=.ref lr) (h2:H lr=some (.lst (ns.map V.int))) (h3:c=.ref lcs) (h4:H lcs=some (.lst (cs.map V.ref))) (F:zT H cs cols) (hn:∀c∈cols,c.length=ns.length) (h5:ns.length≤200) (m1:Mod ns) (m2:∀c∈cols,Mod c) (h6:cols.length≤100)
   (yes:(∀c∈cols,zM kept (dot ns c))→∀lt fs H',zd H H'→H lt=none→H' lt=some (.lst (fs.map V.ref))→QG H H' lt fs (zcY kept spare ns cols)→Q (.ref lt) H')
   (no:¬(∀c∈cols,zM kept (dot ns c))→∀H',zd H H'→E (.ref cT) none H'):zc2 cT a b c H Q E
noncomputable def zfk (cT:Addr):Sp:=Sp3 (zc2 cT)
noncomputable abbrev qL:Stmt:=top 66
theorem zeF:zu ["base","row","columns"] ["base","row","columns"] (ze qL):=⟨rfl,rfl,rfl,by decide +kernel,rfl,by decide +kernel,by decide +kernel⟩
theorem zfT:zq "told_row" qL ["base","row","columns"]:=qz fun _ _ _ _ _ _ _ _ _=>rfl
theorem zkH (D:Def K mg "told_row" qL)(T:Txt K mg cR cT cB cW cD cP cA cU cI cG cX)(F_figure_of:FnS P w K mg base "figure_of" ["base","number"] 5 (qb cT))(F_sum_of_products:FnS P w K mg base "sum_of_products" ["ones","others"] 1 zc3):FnS P w K mg base "told_row" ["base","row","columns"] 6 (zfk cT):=by
 refine D.ok zeF zfT jY fun f cdv A outer s H vs Q E hr h=>?_
 obtain⟨_,_,_,rfl,kept,spare,lr,lcs,ns,cs,cols,B,rfl,er,rfl,ec,F,hn,h5,m1,m2,h6,yes,no⟩:=h
 obtain⟨⟨tb,rfl,hb⟩,gb⟩:=id B
 refine⟨_,(zh (zk (QK (lv:=1) (caps:=[0,1]) (N':=["column","base","row"]) (xe:=fun C s H fp=>Z5 _ E _ C _ s H fp) (fun _ _ _ _ _ _ Q acc _ _ I f hC z=>ZX (Q:=Q) (acc:=acc) I f hC z) rfl (zW.caps (sc:=ze qL) rfl (by decide +kernel) (by decide +kernel) (by decide +kernel) rfl rfl (QR rfl rfl rfl rfl rfl rfl)) (zZ (by decide)) (jg (pv 2)) (fun _ _ _ _=>zE (i:=0) (show(["column","base","row"]:List Str).Nodup by decide +kernel) rfl (Or.inl rfl)) (fun _ _ _ _=>(cFn F_figure_of hr zaG (ac (pv 1) (ac (cFn F_sum_of_products hr zw (ac (pv 2) (ac (pv 0) zb))) zb))))))),?_⟩
 try (set_option simprocs false in dsimp only[zr])
 have s2000:(2000:Nat)≤sizeLine:=by decide
 have cl:=F.len
 refine⟨_,rfl,lcs,rfl,⟨_,SqL.of ec⟩,YV (K:=K) (xs:=cs.map V.ref) (SqL.of ec) (by rw[xa];omega) (fun D i ys H'=>∃as,ys=as.map V.ref∧QG H H' D as (zcY kept spare ns (cols.take i))∧∀c∈cols.take i,zM kept (dot ns c)) (fun D hD=>⟨[],rfl,⟨.nil,(fun _ z=>nomatch z),ua⟩,fun _ z=>nomatch z⟩) ?_ ?_⟩
 ·rintro D i x ys H' hx hD S eD ⟨as,rfl,FF,fit⟩ Q' q
  obtain⟨c,hc,rfl⟩:=Jh hx
  obtain⟨col,hcol,ecol⟩:=F.get hc
  have hm:=xq hcol
  have tk:cols.take (i+1)=cols.take i++[col]:=by rw[yn,hcol];rfl
  refine⟨_,rfl,_,rfl,_,rfl,_,_,rfl,lr,c,ns,col,rfl,rfl,S _ _ er,S _ _ ecol,(hn col hm).symm,h5,m1,m2 col hm,fun H2 S2=>?_⟩
  refine⟨_,_,rfl,kept,spare,dot ns col,B.up (S.trans S2),rfl,fun hf l H3 S3 hl el=>?_,fun hf H3 S3=>no (fun z=>hf (z col hm)) H3 (S.trans (S2.trans S3))⟩
  refine q (.ref l) H3 (S2.trans S3) ⟨as++[l],by rw[xE];rfl,?_,fun c' hc'=>?_⟩
  ·rw[tk]
   unfold zcY
   rw[xE]
   exact FF.push (S2.trans S3) S ⟨_,eD⟩ (S2.free hl) el
  ·rw[tk]at hc'
   rcases xM.mp hc' with hc'|hc'
   ·exact fit c' hc'
   ·rw[xo.mp hc'];exact hf
 ·rintro D ys H' hD S eD ⟨as,rfl,FF,fit⟩
  rw[xa,cl,xS]at FF fit
  exact yes fit D as H' S hD eD FF
end
section
variable {P:Program}{w:World}{K:xb}{mg:Str→Option Value}{base:Heap}{cR cT cB cW cD cP cA cU cI cG cX:Addr}
noncomputable def RT (kept spare:List Int)(N:List (List Int))(R:List (List (List Int))):Prop:=R=N.map (List.map (zF (kept++spare)))∧∀ns∈N,∀n∈ns,zM kept n
noncomputable def zbm (N:List (List Int)):List (List Int):=(xH (N.headD []).length).map (Q6 N)
noncomputable def zfQ (kept spare:List Int)(N1 N2:List (List Int)):List (List (List Int)):=N1.map fun ns=>zcY kept spare ns (zbm N2)
noncomputable def zgO (kept:List Int)(N1 N2:List (List Int)):Prop:=∀ns∈N1,∀c∈zbm N2,zM kept (dot ns c)
structure YK (H H':Hp)(D:Addr)(rs:List Addr)(ass:List (List Addr))(fss:List (List (List Int))):Prop where
 tab:Tab H' rs ass fss
 newR:∀a∈rs,H a=none∧a≠D
 newF:∀a∈ass.flatten,H a=none∧a≠D
 ndR:rs.Nodup
 ndF:ass.flatten.Nodup
theorem Tab.but {H H':Hp}{D:Addr}(S:∀b o,b≠D→H b=some o→H' b=some o){rs:List Addr}{ass:List (List Addr)}{fss:List (List (List Int))}(h:Tab H rs ass fss)(n1:D∉rs)(n2:D∉ass.flatten):Tab H' rs ass fss:=by
 induction h with
 |nil=>exact .nil
 |cons h h' _ ih =>
  rw[wb]at n2
  exact .cons (S _ _ (fun z=>n1 (z▸xD)) h) (h'.but S fun z=>n2 (xJ _ z)) (ih (fun z=>n1 (xx _ z)) fun z=>n2 (xu _ z))
theorem YK.push {H H' H3:Hp}{D l:Addr}{rs:List Addr}{ass:List (List Addr)}{fss:List (List (List Int))}{as:List Addr}{fs:List (List Int)}{o:HO}(h:YK H H' D rs ass fss)(S:zd H' H3)(S0:zd H H')(eD:∃o,H' D=some o)(hl:H' l=none)(el:H3 l=some (.lst (as.map V.ref)))(FF:QG H' H3 l as fs):YK H (upd H3 D o) D (rs++[l]) (ass++[as]) (fss++[fs]):=by
 obtain⟨o',eD⟩:=eD
 have nl:l≠D:=fun z=>by rw[z,eD]at hl;cases hl
 have fl:(ass++[as]).flatten=ass.flatten++as:=by simp
 have nR:∀a∈rs++[l],H a=none∧a≠D:=fun a ha=>by
  rcases xM.mp ha with ha|ha
  ·exact h.newR a ha
  ·rw[xo.mp ha];exact⟨S0.free hl,nl⟩
 have nF:∀a∈(ass++[as]).flatten,H a=none∧a≠D:=fun a ha=>by
  rw[fl]at ha
  rcases xM.mp ha with ha|ha
  ·exact h.newF a ha
  ·have:=(FF.new a ha).1
   exact⟨S0.free this,fun z=>by rw[z,eD]at this;cases this⟩
 refine⟨?_,nR,nF,?_,?_⟩
 ·exact Tab.but (D:=D) (H:=H3) (fun b o hb eo=>by rw[zC hb];exact eo) ((h.tab.up S).append (.cons el FF.figs .nil)) (fun z=>(nR D z).2 rfl) (fun z=>(nF D z).2 rfl)
 ·rw[yR]
  refine⟨h.ndR,yP.mpr ⟨(fun z=>nomatch z),ua⟩,fun x hx y hy z=>?_⟩
  have hy:y=l:=by simpa using hy
  obtain⟨i,hi⟩:=yx hx
  obtain⟨_,_,_,_,eg,_⟩:=h.tab.get hi
  rw[z,hy,hl]at eg;cases eg
 ·rw[fl,yR]
  refine⟨h.ndF,FF.nd,fun x hx y hy z=>?_⟩
  obtain⟨i,hi⟩:=yx hx
  obtain⟨g,_,eg⟩:=h.tab.flat.get hi
  rw[z,(FF.new y hy).1]at eg;cases eg
theorem YF {kept spare:List Int}:∀{fs:List (List Int)},(∀f∈fs,zK (kept++spare) f)→(∃ns:List Int,fs=ns.map (zF (kept++spare))∧∀n∈ns,zM kept n)∨∃f∈fs,qc kept spare f
 | [],_=>.inl ⟨[],rfl,fun _ z=>nomatch z⟩
 |f::fs,h=>by
  rcases YH (kept:=kept) (spare:=spare) f with⟨n,hn⟩|hw|hn
  ·rcases YF (fs:=fs) fun g hg=>h g (xx _ hg) with⟨ns,e,hf⟩|⟨g,hg,hw⟩
   ·refine .inl ⟨n::ns,by rw[xW,←e,←hn.1],fun m hm=>?_⟩
    rcases xt.mp hm with rfl|hm
    ·exact hn.2
    ·exact hf m hm
   ·exact .inr ⟨g,xx _ hg,hw⟩
  ·exact .inr ⟨f,xD,hw⟩
  ·exact absurd (h f xD) hn
inductive zb8 (cU cB cW cT:Addr)(a b c:V)(H:Hp)(Q:VK)(E:XK):Prop
 |mk (kept spare:List Int) (l1 l2:Addr) (rs rs':List Addr) (ass ass':List (List Addr)) (R1 R2:List (List (List Int))) (h0:Bas H a kept spare) (h1:b=.ref l1) (h2:c=.ref l2) (e1:H l1=some (.lst (rs.map V.ref))) (e2:H l2=some (.lst (rs'.map V.ref))) (t1:Tab H rs ass R1) (t2:Tab H rs' ass' R2) (s1:R1.length≤20) (s2:1≤R2.length) (s3:R2.length≤20) (s4:∀r∈R1,r.length≤20) (s5:∀r∈R2,r.length≤20)
   (unl:¬Yp R1 R2→∀H',zd H H'→E (.ref cU) none H')
   (bad:Yp R1 R2→(∃f∈(R1++R2).flatten,¬zK (kept++spare) f)→∀H',zd H H'→E (.ref cB) none H')
   (wrong:Yp R1 R2→(∀f∈(R1++R2).flatten,zK (kept++spare) f)→(∃f∈(R1++R2).flatten,qc kept spare f)→∀H',zd H H'→E (.ref cW) none H')
   (great:Yp R1 R2→∀N1 N2,RT kept spare N1 R1→RT kept spare N2 R2→¬zgO kept N1 N2→∀H',zd H H'→E (.ref cT) none H')
   (yes:Yp R1 R2→∀N1 N2,RT kept spare N1 R1→RT kept spare N2 R2→zgO kept N1 N2→∀lt rws bss H',zd H H'→H lt=none→H' lt=some (.lst (rws.map V.ref))→YK H H' lt rws bss (zfQ kept spare N1 N2)→Q (.ref lt) H'):zb8 cU cB cW cT a b c H Q E
noncomputable def zdJ (cU cB cW cT:Addr):Sp:=Sp3 (zb8 cU cB cW cT)
theorem ze3 {α:Type}{m:Nat}:∀{xss:List (List α)},(∀xs∈xss,xs.length≤m)→xss.flatten.length≤xss.length*m
 | [],_=>by simp
 |xs::xss,h=>by
  have h1:=h xs xD
  have h2:=ze3 (xss:=xss) fun y hy=>h y (xx _ hy)
  rw[wb,xw,yr,wO]
  omega
theorem Tab.alens {H:Hp}{rs:List Addr}{ass:List (List Addr)}{fss:List (List (List Int))}(h:Tab H rs ass fss){m:Nat}(hm:∀r∈fss,r.length≤m):∀as∈ass,as.length≤m:=by
 induction h with
 |nil=>exact fun _ z=>nomatch z
 |cons h h' _ ih =>
  intro as ha
  rcases xt.mp ha with rfl|ha
  ·rw[h'.len];exact hm _ xD
  ·exact ih (fun r hr=>hm r (xx _ hr)) as ha
theorem zkB (N:List (List Int))(j:Nat):(Q6 N j).length=N.length:=xa _
theorem RT.snoc {kept spare:List Int}{N:List (List Int)}{R:List (List (List Int))}{ns:List Int}{fs:List (List Int)}(h:RT kept spare N R)(e:fs=ns.map (zF (kept++spare)))(hf:∀n∈ns,zM kept n):RT kept spare (N++[ns]) (R++[fs]):=by
 refine⟨by rw[xE,←h.1,e];rfl,fun ms hm=>?_⟩
 rcases xM.mp hm with hm|hm
 ·exact h.2 ms hm
 ·rw[xo.mp hm];exact hf
theorem Mod.fits {kept spare:List Int}(gb:zv kept spare){ns:List Int}(h:∀n∈ns,zM kept n):Mod ns:=fun n hn=>by
 have:=zM.small gb (h n hn)
 have c250:(2:Int)^120<2^250:=by decide
 omega
theorem zig {kept spare:List Int}(gb:zv kept spare):zM kept 0:=by
 have:=gb.span
 constructor
 ·unfold RF.jD;omega
 ·unfold RF.jm;omega
theorem Mod.col {kept spare:List Int}(gb:zv kept spare){N:List (List Int)}(h:∀ns∈N,∀n∈ns,zM kept n)(j:Nat):Mod (Q6 N j):=by
 refine Mod.fits gb fun n hn=>?_
 obtain⟨ns,hns,rfl⟩:=xI.mp hn
 rw[xA]
 cases e:ns[j]? with
 |none=>exact zig gb
 |some m=>exact h ns hns m (xq e)
noncomputable abbrev jh:Stmt:=top 62
theorem JM:zu ["base","one","other","rows","columns"] ["base","one","other"] (ze jh):=⟨rfl,rfl,rfl,by decide +kernel,rfl,by decide +kernel,by decide +kernel⟩
theorem zbd:zq "table_product" jh ["base","one","other"]:=qz fun _ _ _ _ _ _ _ _ _=>rfl
theorem ziN (D:Def K mg "table_product" jh)(T:Txt K mg cR cT cB cW cD cP cA cU cI cG cX)(F_refuse_unlike_tables:FnS P w K mg base "refuse_unlike_tables" ["one","other"] 1 (zfs cU))(F_refuse_no_figures:FnS P w K mg base "refuse_no_figures" ["base","figures"] 3 (zag cB))(F_figures_in:FnS P w K mg base "figures_in" ["rows"] 1 zcf)(F_numbers_of:FnS P w K mg base "numbers_of" ["base","figures"] 46 (QI cB cW))(F_columns_of:FnS P w K mg base "columns_of" ["rows"] 1 zfA)(F_told_row:FnS P w K mg base "told_row" ["base","row","columns"] 6 (zfk cT)):FnS P w K mg base "table_product" ["base","one","other"] 47 (zdJ cU cB cW cT):=by
 refine D.ok JM zbd jY fun f cdv A outer s H vs Q E hr h=>?_
 obtain⟨_,_,_,rfl,kept,spare,l1,l2,rs,rs',ass,ass',R1,R2,B,rfl,rfl,e1,e2,t1,t2,s1,s2,s3,s4,s5,unl,bad,wrong,great,yes⟩:=h
 obtain⟨⟨tb,rfl,hb⟩,gb⟩:=id B
 refine⟨_,(zf (jr (cFn F_refuse_unlike_tables hr zG (ac (pv 1) (ac (pv 2) zb))))
   (zf (jr (cFn F_refuse_no_figures hr zG (ac (pv 0) (ac (cFn F_figures_in hr zw (ac (zi qo (pv 1) (pv 2)) zb)) zb))))
   (zf (ze5 (i:=3) (lv:=1) (caps:=[0]) (N':=["row","base"]) (xe:=fun C s H fp=>Z5 _ E _ C _ s H fp) (fun _ _ _ _ _ _ Q acc _ _ I f hC z=>ZX (Q:=Q) (acc:=acc) I f hC z) JM.nd rfl (Or.inl rfl) rfl (zW.caps (sc:=ze jh) rfl (by decide +kernel) (by decide +kernel) (by decide +kernel) rfl rfl (qj rfl rfl rfl)) (zZ (by decide)) (jg (pv 1)) (fun _ _ _ _=>zE (i:=0) (show(["row","base"]:List Str).Nodup by decide +kernel) rfl (Or.inl rfl)) (fun _ _ _ _=>(cFn F_numbers_of hr zaG (ac (pv 1) (ac (pv 0) zb)))))
   (zf (zn (i:=4) JM.nd rfl (Or.inr rfl) (cFn F_columns_of hr zw (ac (QK (lv:=1) (caps:=[0]) (N':=["row","base"]) (xe:=fun C s H fp=>Z5 _ E _ C _ s H fp) (fun _ _ _ _ _ _ Q acc _ _ I f hC z=>ZX (Q:=Q) (acc:=acc) I f hC z) rfl (zW.caps (sc:=ze jh) rfl (by decide +kernel) (by decide +kernel) (by decide +kernel) rfl rfl (qj rfl rfl rfl)) (zZ (by decide)) (jg (pv 2)) (fun _ _ _ _=>zE (i:=0) (show(["row","base"]:List Str).Nodup by decide +kernel) rfl (Or.inl rfl)) (fun _ _ _ _=>(cFn F_numbers_of hr zaG (ac (pv 1) (ac (pv 0) zb))))) zb)))
   (zh (zk (QK (lv:=1) (caps:=[0,4]) (N':=["row","base","columns"]) (xe:=fun C s H fp=>Z5 _ E _ C _ s H fp) (fun _ _ _ _ _ _ Q acc _ _ I f hC z=>ZX (Q:=Q) (acc:=acc) I f hC z) rfl (zW.caps (sc:=ze jh) rfl (by decide +kernel) (by decide +kernel) (by decide +kernel) rfl rfl (QR rfl rfl rfl rfl rfl rfl)) (zZ (by decide)) (jg (pv 3)) (fun _ _ _ _=>zE (i:=0) (show(["row","base","columns"]:List Str).Nodup by decide +kernel) rfl (Or.inl rfl)) (fun _ _ _ _=>(cFn F_told_row hr zaG (ac (pv 1) (ac (pv 0) (ac (pv 2) zb)))))))))))),?_⟩
 try (set_option simprocs false in dsimp only[zr])
 have s2000:(2000:Nat)≤sizeLine:=by decide
 have L1:=t1.len
 have L2:=t2.len
 refine⟨_,rfl,_,rfl,_,_,rfl,l1,l2,rs,rs',ass,ass',R1,R2,rfl,rfl,e1,e2,t1,t2,fun hL=>?_,fun hL=>unl hL H (zd.refl H)⟩
 have wrong:=wrong hL
 have bad:=bad hL
 have great:=great hL
 have yes:=yes hL
 refine⟨_,rfl,_,rfl,_,rfl,l1,l2,_,_,rfl,rfl,SqL.of e1,SqL.of e2,(by rw[xa,xa];omega),fun p fp=>?_⟩
 have N0:=zd.new (o:=.lst (rs.map V.ref++rs'.map V.ref)) fp
 have T12:=(t1.append t2).up N0
 have al:∀as∈ass++ass',as.length≤20:=T12.alens (m:=20) fun r hr'=>(xM.mp hr').elim (s4 r) (s5 r)
 have a1:(ass++ass').length≤40:=by rw[←T12.len2,xw];omega
 have sz:∀i,((ass++ass').take i).flatten.length≤1000:=fun i=>by
  have:=ze3 (m:=20) (xss:=(ass++ass').take i) fun as ha=>al as (uc ha)
  have h2:=List.length_take_le' i (ass++ass')
  have h3:((ass++ass').take i).length*20≤40*20:=uK 20 (by omega)
  omega
 refine⟨_,rfl,p,rs++rs',ass++ass',R1++R2,rfl,by rw[xE];exact zc,T12,sz,fun lf H1 S1 ef FA=>?_⟩
 have S01:=N0.trans S1
 refine⟨_,_,rfl,kept,spare,_,_,B.up S01,⟨lf,rfl,ef,FA⟩,fun val H2 S2=>?_,fun hx H2 S2=>bad hx H2 (S01.trans S2)⟩
 have wrong:=wrong val
 have S02:=S01.trans S2
 have v1:∀fs∈R1,∀f∈fs,zK (kept++spare) f:=fun fs hfs f hf=>val f (uh.mpr ⟨fs,xJ _ hfs,hf⟩)
 have v2:∀fs∈R2,∀f∈fs,zK (kept++spare) f:=fun fs hfs f hf=>val f (uh.mpr ⟨fs,xu _ hfs,hf⟩)
 have w1:∀fs∈R1,(∃f∈fs,qc kept spare f)→∀H',zd H H'→E (.ref cW) none H':=fun fs hfs ⟨f,hf,hw⟩=>wrong ⟨f,uh.mpr ⟨fs,xJ _ hfs,hf⟩,hw⟩
 have w2:∀fs∈R2,(∃f∈fs,qc kept spare f)→∀H',zd H H'→E (.ref cW) none H':=fun fs hfs ⟨f,hf,hw⟩=>wrong ⟨f,uh.mpr ⟨fs,xu _ hfs,hf⟩,hw⟩
 have e12:=S02 _ _ e1
 have T1:=t1.up S02
 refine⟨_,rfl,l1,rfl,⟨_,SqL.of e12⟩,YV (K:=K) (xs:=rs.map V.ref) (SqL.of e12) (by rw[xa];omega) (fun D i ys H'=>∃as N,ys=as.map V.ref∧zT H' as N∧RT kept spare N (R1.take i)∧D∉as) (fun D hD=>⟨[],[],rfl,.nil,⟨rfl,fun _ z=>nomatch z⟩,fun z=>nomatch z⟩) ?_ ?_⟩
 ·rintro D i x ys H' hx hD S eD ⟨as,N,rfl,FN,rt,nD⟩ Q' q
  obtain⟨r,hr',rfl⟩:=Jh hx
  obtain⟨bs,fs,_,hfs,er,F⟩:=T1.get hr'
  have hm:=xq hfs
  have tk:R1.take (i+1)=R1.take i++[fs]:=by rw[yn,hfs];rfl
  refine⟨_,rfl,_,rfl,_,_,rfl,kept,spare,bs,fs,B.up (S02.trans S),⟨r,rfl,S _ _ er,F.up S⟩,(by rw[F.len];have:=s4 fs hm;omega),?_⟩
  rcases YF (v1 fs hm) with⟨ns,e,hf⟩|hw
  ·refine .inl ⟨ns,e,hf,fun q2 H3 S3 hq2 eq2=>q (.ref q2) H3 S3 ⟨as++[q2],N++[ns],by rw[xE];rfl,?_,by rw[tk];exact rt.snoc e hf,fun z=>?_⟩⟩
   ·refine zT.but (D:=D) (H:=H3) (fun b o hb eo=>by rw[zC hb];exact eo) ((FN.up S3).append (.cons eq2 .nil)) fun z=>?_
    rcases xM.mp z with z|z
    ·exact nD z
    ·rw[←xo.mp z,eD]at hq2;cases hq2
   ·rcases xM.mp z with z|z
    ·exact nD z
    ·rw[←xo.mp z,eD]at hq2;cases hq2
  ·exact .inr (.inr ⟨v1 fs hm,hw,fun H3 S3=>w1 fs hm hw H3 (S02.trans (S.trans S3))⟩)
 rintro lr ys H3 hlr S3 elr ⟨as1,N1,rfl,FN1,rt1,_⟩
 rw[xa,L1,xS]at rt1
 have S03:=S02.trans S3
 have e23:=S03 _ _ e2
 have T2:=t2.up S03
 refine⟨_,rfl,l2,rfl,⟨_,SqL.of e23⟩,YV (K:=K) (xs:=rs'.map V.ref) (SqL.of e23) (by rw[xa];omega) (fun D i ys H'=>∃as N,ys=as.map V.ref∧zT H' as N∧RT kept spare N (R2.take i)∧D∉as) (fun D hD=>⟨[],[],rfl,.nil,⟨rfl,fun _ z=>nomatch z⟩,fun z=>nomatch z⟩) ?_ ?_⟩
 ·rintro D i x ys H' hx hD S eD ⟨as,N,rfl,FN,rt,nD⟩ Q' q
  obtain⟨r,hr',rfl⟩:=Jh hx
  obtain⟨bs,fs,_,hfs,er,F⟩:=T2.get hr'
  have hm:=xq hfs
  have tk:R2.take (i+1)=R2.take i++[fs]:=by rw[yn,hfs];rfl
  refine⟨_,rfl,_,rfl,_,_,rfl,kept,spare,bs,fs,B.up (S03.trans S),⟨r,rfl,S _ _ er,F.up S⟩,(by rw[F.len];have:=s5 fs hm;omega),?_⟩
  rcases YF (v2 fs hm) with⟨ns,e,hf⟩|hw
  ·refine .inl ⟨ns,e,hf,fun q2 H3 S3 hq2 eq2=>q (.ref q2) H3 S3 ⟨as++[q2],N++[ns],by rw[xE];rfl,?_,by rw[tk];exact rt.snoc e hf,fun z=>?_⟩⟩
   ·refine zT.but (D:=D) (H:=H3) (fun b o hb eo=>by rw[zC hb];exact eo) ((FN.up S3).append (.cons eq2 .nil)) fun z=>?_
    rcases xM.mp z with z|z
    ·exact nD z
    ·rw[←xo.mp z,eD]at hq2;cases hq2
   ·rcases xM.mp z with z|z
    ·exact nD z
    ·rw[←xo.mp z,eD]at hq2;cases hq2
  ·exact .inr (.inr ⟨v2 fs hm,hw,fun H3 S3=>w2 fs hm hw H3 (S03.trans (S.trans S3))⟩)
 rintro lo ys H4 hlo S4 elo ⟨as2,N2,rfl,FN2,rt2,_⟩
 rw[xa,L2,xS]at rt2
 have S04:=S03.trans S4
 have n2:N2.length=R2.length:=by rw[rt2.1,xa]
 have n1:N1.length=R1.length:=by rw[rt1.1,xa]
 have hd2:(R2.headD []).length=(N2.headD []).length:=by
  rw[rt2.1]
  cases N2 with
  |nil=>rfl
  |cons a b=>exact xa _
 have w20:∀r∈N2,r.length=(N2.headD []).length:=fun r hr'=>by
  rw[←hd2,←hL.2 (r.map (zF (kept++spare))) (by rw[rt2.1];exact vS hr'),xa]
 have h20:(N2.headD []).length≤20:=by
  cases N2 with
  |nil=>exact xV _
  |cons a b =>
   have:=s5 (a.map (zF (kept++spare))) (by rw[rt2.1];exact xD)
   rw[xa]at this
   exact this
 refine⟨_,rfl,lo,as2,N2,_,rfl,elo,FN2,w20,by omega,by omega,by omega,fun lc cs H5 S5 elc FC=>?_⟩
 have S05:=S04.trans S5
 have S35:=S4.trans S5
 have elr5:=S35 _ _ elr
 have FN15:=FN1.up S35
 have FN1l:=FN1.len
 refine⟨_,rfl,lr,rfl,⟨_,SqL.of elr5⟩,YV (K:=K) (xs:=as1.map V.ref) (SqL.of elr5) (by rw[xa];omega) (fun D i ys H'=>∃rws bss,ys=rws.map V.ref∧YK H5 H' D rws bss (zfQ kept spare (N1.take i) N2)∧zgO kept (N1.take i) N2) (fun D hD=>⟨[],[],rfl,⟨.nil,(fun _ z=>nomatch z),(fun _ z=>nomatch z),ua,ua⟩,fun _ z=>nomatch z⟩) ?_ ?_⟩
 ·rintro D i x ys H' hx hD S eD ⟨rws,bss,rfl,FT,fit⟩ Q' q
  obtain⟨r,hr',rfl⟩:=Jh hx
  obtain⟨ns,hns,er⟩:=FN15.get hr'
  have hm:=xq hns
  have tk:N1.take (i+1)=N1.take i++[ns]:=by rw[yn,hns];rfl
  have nl:ns.length=R2.length:=by
   rw[←hL.1 (ns.map (zF (kept++spare))) (by rw[rt1.1];exact vS hm),xa]
  refine⟨_,rfl,_,rfl,_,rfl,_,_,_,rfl,kept,spare,r,lc,ns,cs,zbm N2,B.up (S05.trans S),rfl,S _ _ er,rfl,S _ _ elc,FC.up S,fun c hc=>?_,by omega,Mod.fits gb (rt1.2 ns hm),fun c hc=>?_,by unfold zbm;rw[xa,xZ];omega,fun hf lt fs H6 S6 hlt elt FF=>?_,fun hf H6 S6=>?_⟩
  ·obtain⟨j,_,rfl⟩:=xI.mp hc
   rw[zkB,nl,n2]
  ·obtain⟨j,_,rfl⟩:=xI.mp hc
   exact Mod.col gb rt2.2 j
  ·refine q (.ref lt) H6 S6 ⟨rws++[lt],bss++[fs],by rw[xE];rfl,?_,fun ms hms=>?_⟩
   ·rw[tk]
    unfold zfQ
    rw[xE]
    exact FT.push S6 S ⟨_,eD⟩ hlt elt FF
   ·rw[tk]at hms
    rcases xM.mp hms with hms|hms
    ·exact fit ms hms
    ·rw[xo.mp hms];exact hf
  ·exact great N1 N2 rt1 rt2 (fun z=>hf (z ns hm)) H6 (S05.trans (S.trans S6))
 rintro lt ys H6 hlt S6 elt ⟨rws,bss,rfl,FT,fit⟩
 rw[xa,FN1l,xS]at FT fit
 exact yes N1 N2 rt1 rt2 fit lt rws bss H6 (S05.trans S6) (S05.free hlt) elt ⟨FT.tab,fun a ha=>⟨S05.free (FT.newR a ha).1,(FT.newR a ha).2⟩,fun a ha=>⟨S05.free (FT.newF a ha).1,(FT.newF a ha).2⟩,FT.ndR,FT.ndF⟩
end
section
variable {P:Program}{w:World}{K:xb}{mg:Str→Option Value}{base:Heap}{cR cT cB cW cD cP cA cU cI cG cX:Addr}
noncomputable abbrev Ju:Stmt:=top 54
theorem zgu:zu ["number"] ["number"] (ze Ju):=⟨rfl,rfl,rfl,by decide +kernel,rfl,by decide +kernel,by decide +kernel⟩
theorem zhf:zq "sign_of" Ju ["number"]:=qH fun _ _ _ _ _ _ _=>rfl
theorem zgp (D:Def K mg "sign_of" Ju):FnS P w K mg base "sign_of" ["number"] 1 zdY:=by
 refine D.ok zgu zhf jC fun f cdv A outer s H vs Q E hr h=>?_
 obtain⟨_,rfl,n,rfl,k⟩:=h
 refine⟨_,(zf (zN (zx qA (pv 0) zg (zD _))
    (zh (zk (QL ZU zg)))
    zA)
   (zf (zN (zx Zt (pv 0) zg (zD _))
    (zh (zk zg))
    zA)
   (zh (zk zg)))),?_⟩
 try (set_option simprocs false in dsimp only[zr])
 refine⟨_,rfl,_,_,rfl,rfl,_,rfl,?_⟩
 by_cases h0:n<0
 ·rw[decide_eq_true h0]
  have e:sgn n=-1:=by unfold sgn;rw[if_pos h0]
  rw[e]at k
  exact zV ⟨_,rfl,k⟩
 ·rw[decide_eq_false h0]
  refine jd ⟨_,rfl,_,_,rfl,rfl,_,rfl,?_⟩
  by_cases h1:0<n
  ·rw[decide_eq_true h1]
   have e:sgn n=1:=by unfold sgn;rw[if_neg h0,if_pos h1]
   rw[e]at k
   exact zV k
  ·rw[decide_eq_false h1]
   have e:sgn n=0:=by unfold sgn;rw[if_neg h0,if_neg h1]
   rw[e]at k
   exact jd k
noncomputable abbrev Z6:Stmt:=top 52
theorem zkT:zu ["base","figure"] ["base","figure"] (ze Z6):=⟨rfl,rfl,rfl,by decide +kernel,rfl,by decide +kernel,by decide +kernel⟩
theorem zls:zq "sign" Z6 ["base","figure"]:=je fun _ _ _ _ _ _ _ _=>rfl
theorem zkp (D:Def K mg "sign" Z6)(F_number_of:FnS P w K mg base "number_of" ["base","figure"] 45 (zR cB cW))(F_sign_of:FnS P w K mg base "sign_of" ["number"] 1 zdY):FnS P w K mg base "sign" ["base","figure"] 46 (JI cT cB cW false):=by
 refine D.ok zkT zls zS fun f cdv A outer s H vs Q E hr h=>?_
 obtain⟨_,_,rfl,kept,spare,n,w',B,⟨l,ns,rfl,el,_,hf,F⟩,C⟩:=h
 refine⟨_,(zh (zk (cFn F_sign_of hr zw (ac (cFn F_number_of hr zG (ac (pv 0) (ac (pv 1) zb))) zb)))),?_⟩
 try (set_option simprocs false in dsimp only[zr])
 exact⟨_,rfl,_,rfl,zh8 C B el hf F fun hw H1 S1=>⟨_,rfl,n,rfl,C.good hw _ H1 S1⟩⟩
noncomputable abbrev Je:Stmt:=top 53
theorem Y6:zu ["base","one","other","numbers"] ["base","one","other"] (ze Je):=⟨rfl,rfl,rfl,by decide +kernel,rfl,by decide +kernel,by decide +kernel⟩
theorem zgm:zq "compared" Je ["base","one","other"]:=qz fun _ _ _ _ _ _ _ _ _=>rfl
theorem zeI (D:Def K mg "compared" Je)(F_numbers_of:FnS P w K mg base "numbers_of" ["base","figures"] 46 (ZR cB cW))(F_sign_of:FnS P w K mg base "sign_of" ["number"] 1 zdY):FnS P w K mg base "compared" ["base","one","other"] 47 (QB cT cB cW false):=by
 refine D.ok Y6 zgm jY fun f cdv A outer s H vs Q E hr h=>?_
 obtain⟨_,_,_,rfl,kept,spare,n1,n2,w1,w2,B,⟨l1,ns1,rfl,e1,_,f1,F1⟩,⟨l2,ns2,rfl,e2,_,f2,F2⟩,C⟩:=h
 refine⟨_,(zf (zn (i:=3) Y6.nd rfl (Or.inl rfl) (cFn F_numbers_of hr zG (ac (pv 0) (ac (zJ (ac (pv 1) (ac (pv 2) zb))) zb))))
   (zh (zk (cFn F_sign_of hr zw (ac (zi jL (zL qg (pv 3) zg (fun _ _=>rfl)) (zL qg (pv 3) zg (fun _ _=>rfl))) zb))))),?_⟩
 try (set_option simprocs false in dsimp only[zr])
 refine⟨_,rfl,_,rfl,_,rfl,(by show 2≤sizeLine;decide),fun lf gf=>?_⟩
 have N:=zd.new (o:=.lst [.ref l1,.ref l2]) gf
 refine QN (B.up N) zc (N _ _ e1) (N _ _ e2) f1 f2 F1 F2 (fun hf hw p H1 S1 hp ep=>?_) (fun hb H1 S1=>C.bad hb H1 (N.trans S1)) (fun hf hw H1 S1=>C.wr hf hw H1 (N.trans S1))
 exact⟨_,rfl,p,_,_,_,rfl,rfl,SqL.of ep,rfl,_,rfl,p,_,_,_,rfl,rfl,SqL.of ep,rfl,_,_,rfl,rfl,_,rfl,n1 - n2,rfl,C.ok hf hw _ H1 (N.trans S1)⟩
noncomputable abbrev JQ:Stmt:=top 51
theorem ZA:zu ["base","figure","left","told","divisor"] ["base","figure"] (ze JQ):=⟨rfl,rfl,rfl,by decide +kernel,rfl,by decide +kernel,by decide +kernel⟩
theorem ziM:zq "digits" JQ ["base","figure"]:=je fun _ _ _ _ _ _ _ _=>rfl
theorem zg5 (D:Def K mg "digits" JQ)(T:Txt K mg cR cT cB cW cD cP cA cU cI cG cX)(F_number_of:FnS P w K mg base "number_of" ["base","figure"] 45 (zR cB cW))(F_span_of:FnS P w K mg base "span_of" ["base"] 2 ZS) :
  FnS P w K mg base "digits" ["base","figure"] 46 (JI cT cB cW false):=by
 refine D.ok ZA ziM zS fun f cdv A outer s H vs Q E hr h=>?_
 obtain⟨_,_,rfl,kept,spare,n,w',B,⟨l,ns,rfl,el,_,hf,F⟩,C⟩:=h
 refine⟨_,(zf (zn (i:=2) ZA.nd rfl (Or.inl rfl) (zi zQ (cFn F_number_of hr zG (ac (pv 0) (ac (pv 1) zb))) (cFn F_span_of hr zw (ac (pv 0) zb))))
   (zf (zn (i:=3) ZA.nd rfl (Or.inl rfl) (zJ zb))
   (zf (jW zY rfl (QA (zL jI (pv 0) zg (fun _ _=>rfl))) (zE (i:=4) ZA.nd rfl (Or.inl rfl))
    (zf (jr (qU xR ya yb jT (pv 3) (ac (zi zQ (pv 2) (pv 4)) zb)))
    (zh (zn (i:=2) ZA.nd rfl (Or.inl rfl) (zi jk (pv 2) (pv 4))))))
   (zh (zk (pv 3)))))),?_⟩
 try (set_option simprocs false in dsimp only[zr])
 obtain⟨⟨t,rfl,hb⟩,gb⟩:=id B
 have hp:=gb.span
 refine⟨_,rfl,_,rfl,zh8 C B el hf F fun hw H1 S1=>?_⟩
 refine⟨_,rfl,_,rfl,kept,spare,B.up S1,_,_,rfl,rfl,hp,by decide,fun p fp=>?_⟩
 obtain⟨t1,t2,e0,e1,e2⟩:=(hb.up (S1.trans (zd.new (o:=.lst []) fp))).ex
 have nt1:t1≠p:=by
  obtain⟨u1,u2,g0,g1,g2⟩:=(hb.up S1).ex
  rw[(zd.new (o:=.lst []) fp) _ _ g0]at e0
  cases e0
  rintro rfl
  rw[g1]at fp;cases fp
 have g1:H1 t1=some (.tup (kept.map V.int)):=by rw[zC nt1]at e1;exact e1
 refine⟨_,rfl,t,_,_,_,rfl,rfl,SqT.of e0,rfl,t1,rfl,⟨_,SqT.of e1⟩,zbB (K:=K) (xs:=kept.map V.int)
  (fun i σ H'=>∃(left:Int) (ds:List Int) (y:Option V),σ=[some (.ref t),some (.ref l),some (.int left),some (.ref p),y]∧zd H1 H'∧H' p=some (.lst (ds.map V.int))∧ds.length=i)
  ⟨_,[],none,rfl,zd.new fp,zc,rfl⟩ (fun i σ H' _ ⟨_,_,_,_,S,_⟩=>SqT.of (S _ _ g1)) ?_ ?_⟩
 ·rintro i x σ H' hx ⟨left,ds,y,rfl,S,ep,hl⟩
  obtain⟨d,hi,rfl⟩:=j7 hx
  have h2:=gb.rng d (xJ _ (xq hi))
  have hi6:=(xv.mp hi).1
  have k6:=gb.k6
  refine⟨_,rfl,.inl ⟨rfl,_,SqL.of ep⟩,_,rfl,_,rfl,_,_,rfl,rfl,(by show 0<d;omega),p,_,_,rfl,rfl,ep,?_,?_⟩
  ·rw[xa];exact ut (show ds.length≤6 by omega) (by decide)
  refine⟨_,rfl,_,rfl,_,_,rfl,rfl,⟨by show 0<d;omega,by show d<1073741824;omega⟩,?_⟩
  exact⟨left/d,ds++[left%d],_,rfl,S.upd fp,by rw[zc,xE];rfl,by rw[xw,hl];rfl⟩
 ·rintro σ H' ⟨left,ds,y,rfl,S,ep,hl⟩
  exact⟨_,rfl,C.good hw _ H' (S1.trans S)⟩
theorem zjp:∀vs H Q E,QC cB vs H Q E→zdG cB vs H Q E:=by
 intro vs H Q E h
 obtain⟨_,_,rfl,kept,spare,n,w,B,⟨l,ns,rfl,el,_,hf,F⟩,r60,C⟩:=h
 exact⟨_,_,rfl,kept,spare,l,ns,B,rfl,el,r60 l ns rfl el,fun hv H' S=>C.ok (F.notBad hv) _ H' S,fun hb H' S=>C.bad (F.badW B.2 hf hb) H' S⟩
theorem RT.one {kept spare ns:List Int}{N:List (List Int)}(h:RT kept spare N [[ns]]):∃m,js kept spare ns m:=by
 obtain⟨e,hf⟩:=h
 match N,e,hf with
 | [[m]],e,hf =>
  injection e with e _
  injection e with e _
  exact⟨m,e,hf [m] (.head _) m (.head _)⟩
 | [],e,_=>cases e
 | []::_,e,_=>injection e with e _;cases e
 |(_::_::_)::_,e,_=>injection e with e _;injection e with _ e;cases e
 | [_]::_::_,e,_=>injection e with _ e;cases e
inductive zfx (cT cB cW:Addr)(a b c:V)(H:Hp)(Q:VK)(E:XK):Prop
 |mk (kept spare:List Int) (n1 n2:Int) (w1 w2:Str) (q1 q2 r1 r2 l1 l2:Addr) (B:Bas H a kept spare) (F1:ji H (.ref l1) kept spare n1 w1) (F2:ji H (.ref l2) kept spare n2 w2) (h1:b=.ref q1) (h2:c=.ref q2) (e1:H q1=some (.lst [.ref r1])) (e2:H q2=some (.lst [.ref r2])) (g1:H r1=some (.lst [.ref l1])) (g2:H r2=some (.lst [.ref l2])) (C:Ct cT cB cW true [w1,w2] H Q E):zfx cT cB cW a b c H Q E
noncomputable def zhO (cT cB cW:Addr):Sp:=Sp3 (zfx cT cB cW)
theorem zlP:∀vs H Q E,zhO cT cB cW vs H Q E→zdJ cU cB cW cT vs H Q E:=by
 intro vs H Q E h
 obtain⟨_,_,_,rfl,kept,spare,n1,n2,w1,w2,q1,q2,r1,r2,l1,l2,B,⟨_,ns1,e3,k1,_,f1,F1⟩,⟨_,ns2,e4,k2,_,f2,F2⟩,rfl,rfl,e1,e2,g1,g2,C⟩:=h
 cases e3;cases e4
 have gb:=B.2
 have L:Yp [[ns1]] [[ns2]]:=⟨fun r hr=>by rw[xo.mp hr];rfl,fun r hr=>by rw[xo.mp hr];rfl⟩
 have one:∀(m:Nat),1≤m→∀(ns:List Int),∀r∈[[ns]],r.length≤m:=fun m hm ns r hr=>by rw[xo.mp hr];exact hm
 have mem:∀f,f∈([[ns1]]++[[ns2]]).flatten→f=ns1∨f=ns2:=fun f hf=>by
  have hf:f∈[ns1,ns2]:=hf
  rcases xt.mp hf with h|h
  ·exact .inl h
  ·exact .inr (xo.mp h)
 have i1:ns1∈([[ns1]]++[[ns2]]).flatten:=by show ns1∈[ns1,ns2];exact .head _
 have i2:ns2∈([[ns1]]++[[ns2]]).flatten:=by show ns2∈[ns1,ns2];exact .tail _ (.head _)
 have nf:∀(x:Str),w1≠x→w2≠x→x∉[w1,w2]:=fun x a b hm=>by
  rcases xt.mp hm with h|h
  ·exact a h.symm
  ·exact b (xo.mp h).symm
 have emp:∀N1 N2,RT kept spare N1 [[ns1]]→RT kept spare N2 [[ns2]]→w1=""∧w2="":=fun N1 N2 a b=>by
  obtain⟨m1,h1⟩:=a.one
  obtain⟨m2,h2⟩:=b.one
  exact⟨F1.right gb h1,F2.right gb h2⟩
 refine⟨_,_,_,rfl,kept,spare,q1,q2,[r1],[r2],[[l1]],[[l2]],[[ns1]],[[ns2]],B,rfl,rfl,e1,e2,.cons g1 (.cons k1 .nil) .nil,.cons g2 (.cons k2 .nil) .nil,(by show 1≤20;decide),(by show 1≤1;decide),(by show 1≤20;decide),one 20 (by decide) ns1,one 20 (by decide) ns2,fun z=>absurd L z,fun _ hb H' S=>?_,fun _ hv hw H' S=>?_,fun _ N1 N2 a b _ H' S=>?_,fun _ N1 N2 a b _ lt rws bss H' S _ _ _=>?_⟩
 ·obtain⟨f,hf,hn⟩:=hb
  refine C.bad ?_ H' S
  rcases mem f hf with rfl|rfl
  ·rw[F1.badW gb f1 hn];exact .head _
  ·rw[F2.badW gb f2 hn];exact .tail _ (.head _)
 ·refine C.wr (nf _ (F1.notBad (hv _ i1)) (F2.notBad (hv _ i2))) ?_ H' S
  obtain⟨f,hf,hn⟩:=hw
  rcases mem f hf with rfl|rfl
  ·rw[F1.wrongW gb f1 hn];exact .head _
  ·rw[F2.wrongW gb f2 hn];exact .tail _ (.head _)
 ·obtain⟨x,y⟩:=emp N1 N2 a b
  subst x y
  exact C.gt rfl (by decide) (by decide) H' S
 ·obtain⟨x,y⟩:=emp N1 N2 a b
  subst x y
  exact C.ok (by decide) (by decide) _ H' S
end
section
variable {P:Program}{w:World}{K:xb}{mg:Str→Option Value}{base:Heap}{cR cT cB cW cD cP cA cU cI cG cX:Addr}
noncomputable def wds (t:Int)(w1 w2:Str):List Str:=if (8≤t∧t<12)∨16<t then [w1,w2] else [w1]
noncomputable def grt (t:Int):Prop:=(9≤t∧t<12)∨t=3∨16<t
structure Cd (cT cB cW:Addr)(t:Int)(w1 w2:Str)(H:Hp)(Q:VK)(E:XK):Prop where
 bad:("figure":Str)∈wds t w1 w2→∀H',zd H H'→E (.ref cB) none H'
 wr:("figure":Str)∉wds t w1 w2→("wrong":Str)∈wds t w1 w2→¬(5≤t∧t<8)→∀H',zd H H'→E (.ref cW) none H'
 ok:("figure":Str)∉wds t w1 w2→(("wrong":Str)∉wds t w1 w2∨(5≤t∧t<8))→∀v H',zd H H'→Q v H'
 gt:grt t→("figure":Str)∉wds t w1 w2→("wrong":Str)∉wds t w1 w2→∀H',zd H H'→E (.ref cT) none H'
theorem Cd.ct {t:Int}{w1 w2:Str}{ws:List Str}{H:Hp}{Q:VK}{E:XK}{gr:Bool}(C:Cd cT cB cW t w1 w2 H Q E)(h:wds t w1 w2=ws)(ha:¬(5≤t∧t<8))(hg:gr=true→grt t):Ct cT cB cW gr ws H Q E:=by
 subst h
 exact⟨C.bad,fun a b=>C.wr a b ha,fun a b=>C.ok a (.inl b),fun g=>C.gt (hg g)⟩
theorem Cd.ca {t:Int}{w1 w2:Str}{H:Hp}{Q:VK}{E:XK}(C:Cd cT cB cW t w1 w2 H Q E)(h:wds t w1 w2=[w1])(ha:5≤t∧t<8):Ca cB w1 H Q E :=
 ⟨fun e=>C.bad (by rw[h,e];exact .head _),fun e=>C.ok (by rw[h];exact fun z=>e (xo.mp z).symm) (.inr ha)⟩
theorem zgf {w1:Str}{H G:Hp}{Q:VK}{E:XK}(C:Ca cB w1 H Q E)(S:zd H G):Ca cB w1 G Q E:=⟨fun e H' S'=>C.bad e H' (S.trans S'),fun e v H' S'=>C.ok e v H' (S.trans S')⟩
noncomputable def S60 (H:Hp)(b:V):Prop:=∃(l:Addr) (ns:List Int),b=.ref l∧H l=some (.lst (ns.map V.int))∧∀n∈ns,n.natAbs<10^60
theorem S60.r {H G:Hp}{b:V}(h:S60 H b)(S:zd H G):∀(l:Addr) (ns:List Int),b=.ref l→G l=some (.lst (ns.map V.int))→∀n∈ns,n.natAbs<10^60:=fun l ns e el=>by
 obtain⟨l',ns',e',el',h⟩:=h
 rw[e']at e
 cases e
 rw[S _ _ el']at el
 have:ns'.map V.int=ns.map V.int:=by injection (Option.some.inj el)
 rw[←zal this]
 exact h
inductive zbl (cT cB cW:Addr)(a b c d:V)(H:Hp)(Q:VK)(E:XK):Prop
 |mk (kept spare:List Int) (t n1 n2:Int) (w1 w2:Str) (B:Bas H a kept spare) (h1:b=.int t) (t0:0≤t) (t19:t<19) (F1:ji H c kept spare n1 w1) (F2:ji H d kept spare n2 w2) (r60:S60 H c) (C:Cd cT cB cW t w1 w2 H Q E):zbl cT cB cW a b c d H Q E
noncomputable def zct (cT cB cW:Addr):Sp:=Sp4 (zbl cT cB cW)
noncomputable abbrev qO:Stmt:=top 81
theorem zd4:zu ["_law_base","_law_turn","_law_one","_law_other"] ["_law_base","_law_turn","_law_one","_law_other"] (ze qO):=⟨rfl,rfl,rfl,by decide +kernel,rfl,by decide +kernel,by decide +kernel⟩
theorem zeu:zq "_law_deed" qO ["_law_base","_law_turn","_law_one","_law_other"]:=zd0 fun _ _ _ _ _ _ _ _ _ _=>rfl
theorem zkC (D:Def K mg "_law_deed" qO)(T:Txt K mg cR cT cB cW cD cP cA cU cI cG cX)(F_number_of:FnS P w K mg base "number_of" ["base","figure"] 45 (JI cT cB cW false))(F_digits:FnS P w K mg base "digits" ["base","figure"] 46 (JI cT cB cW false))(F_sign:FnS P w K mg base "sign" ["base","figure"] 46 (JI cT cB cW false))
  (F_turned:FnS P w K mg base "turned" ["base","one"] 46 (JI cT cB cW true)) (F_written:FnS P w K mg base "written" ["base","figure"] 46 (JI cT cB cW false)) (F_is_right:FnS P w K mg base "is_right" ["base","figure"] 44 (QC cB)) (F_mended:FnS P w K mg base "mended" ["base","figure"] 44 (QC cB)) (F_figure_text:FnS P w K mg base "figure_text" ["base","figure"] 4 (QC cB))
  (F_compared:FnS P w K mg base "compared" ["base","one","other"] 47 (QB cT cB cW false)) (F_added:FnS P w K mg base "added" ["base","one","other"] 47 (QB cT cB cW true)) (F_taken:FnS P w K mg base "taken" ["base","one","other"] 47 (QB cT cB cW true)) (F_multiplied:FnS P w K mg base "multiplied" ["base","one","other"] 47 (QB cT cB cW true))
  (F_quotient:FnS P w K mg base "quotient" ["base","figure","by"] 47 (zbp cT cB cW 3)) (F_rest:FnS P w K mg base "rest" ["base","figure","by"] 47 (zbp cT cB cW 3)) (F_scaled:FnS P w K mg base "scaled" ["base","figure","places"] 46 (zhc cT cB cW)) (F_put_in:FnS P w K mg base "put_in" ["base","figure","kept","spare"] 46 (zhb cT cB cW)) (F_taken_out:FnS P w K mg base "taken_out" ["base","figure","places"] 46 (zhY cT cB cW))
  (F_row_product:FnS P w K mg base "row_product" ["base","one","other"] 47 (zhs cT cB cW)) (F_table_product:FnS P w K mg base "table_product" ["base","one","other"] 47 (zhO cT cB cW)) :
  FnS P w K mg base "_law_deed" ["_law_base","_law_turn","_law_one","_law_other"] 48 (zct cT cB cW):=by
 refine D.ok zd4 zeu zbU fun f cdv A outer s H vs Q E hr h=>?_
 obtain⟨_,_,_,_,rfl,kept,spare,t,n1,n2,w1,w2,B,rfl,t0,t19,F1,F2,r60,C⟩:=h
 refine⟨_,(zf (zN (zx qA (pv 1) zg (zD _))
    (zh (zk (zaO (zL qg (zJ (ac (qJ F_number_of) (ac (qJ F_digits) (ac (qJ F_sign) (ac (qJ F_turned) (ac (qJ F_written) (ac (qJ F_is_right) zb))))))) (pv 1) (fun _ _=>rfl)) hr zG (ac (pv 0) (ac (pv 2) zb)))))
    zA)
   (zf (zN (zx qA (pv 1) zg (zD _))
    (zh (zk (zaO (zL qg (zJ (ac (qJ F_mended) (ac (qJ F_figure_text) zb))) (zi jL (pv 1) zg) (fun _ _=>rfl)) hr zG (ac (pv 0) (ac (pv 2) zb)))))
    zA)
   (zf (zN (zx qA (pv 1) zg (zD _))
    (zh (zk (zaO (zL qg (zJ (ac (qJ F_compared) (ac (qJ F_added) (ac (qJ F_taken) (ac (qJ F_multiplied) zb))))) (zi jL (pv 1) zg) (fun _ _=>rfl)) hr zG (ac (pv 0) (ac (pv 2) (ac (pv 3) zb))))))
    zA)
   (zf (zN (zx qA (pv 1) zg (zD _))
    (zh (zk (zaO (zL qg (zJ (ac (qJ F_quotient) (ac (qJ F_rest) zb))) (zi jL (pv 1) zg) (fun _ _=>rfl)) hr zG (ac (pv 0) (ac (pv 2) (ac zg zb))))))
    zA)
   (zf (zN (zx qI (pv 1) zg (zD _))
    (zh (zk (cFn F_scaled hr zG (ac (pv 0) (ac (pv 2) (ac (zJ (ac zg zb)) zb))))))
    zA)
   (zf (zN (zx qI (pv 1) zg (zD _))
    (zh (zk (cFn F_put_in hr zG (ac (pv 0) (ac (pv 2) (ac (zJ zb) (ac (zJ zb) zb)))))))
    zA)
   (zf (zN (zx qI (pv 1) zg (zD _))
    (zh (zk (cFn F_taken_out hr zG (ac (pv 0) (ac (pv 2) (ac (zJ zb) zb))))))
    zA)
   (zf (zN (zx qI (pv 1) zg (zD _))
    (zh (zk (cFn F_row_product hr zG (ac (pv 0) (ac (zJ (ac (pv 2) zb)) (ac (zJ (ac (pv 3) zb)) zb))))))
    zA)
   (zh (zk (cFn F_table_product hr zG (ac (pv 0) (ac (zJ (ac (zJ (ac (pv 2) zb)) zb)) (ac (zJ (ac (zJ (ac (pv 3) zb)) zb)) zb)))))))))))))),?_⟩
 try (set_option simprocs false in dsimp only[zr])
 have one:¬((8≤t∧t<12)∨16<t)→wds t w1 w2=[w1]:=fun h=>if_neg h
 have two:(8≤t∧t<12)∨16<t→wds t w1 w2=[w1,w2]:=fun h=>if_pos h
 obtain⟨l1,ns1,rfl,g1⟩:=id F1
 obtain⟨l2,ns2,rfl,g2⟩:=id F2
 refine⟨_,rfl,_,_,rfl,rfl,_,rfl,qX (fun h=>?_) (fun h=>?_)⟩
 ·have h:t<6:=of_decide_eq_true h
  intro f0 V0 f1 V1 f2 V2 f3 V3 f4 V4 f5 V5
  refine⟨(by show 6≤sizeLine;decide),fun p fp=>?_⟩
  have N:=zd.new (o:=.lst [.ref f0,.ref f1,.ref f2,.ref f3,.ref f4,.ref f5]) fp
  have h6:t=0∨t=1∨t=2∨t=3∨t=4∨t=5:=by omega
  rcases h6 with rfl|rfl|rfl|rfl|rfl|rfl
  ·exact⟨_,rfl,p,_,_,_,rfl,rfl,SqL.of zc,rfl,f0,_,_,_,rfl,V0,by decide,_,rfl,_,rfl,_,_,rfl,kept,spare,n1,w1,B.up N,F1.up N,(C.ct (gr:=false) (one (by decide)) (by decide) (fun z=>nomatch z)).up N⟩
  ·exact⟨_,rfl,p,_,_,_,rfl,rfl,SqL.of zc,rfl,f1,_,_,_,rfl,V1,by decide,_,rfl,_,rfl,_,_,rfl,kept,spare,n1,w1,B.up N,F1.up N,(C.ct (gr:=false) (one (by decide)) (by decide) (fun z=>nomatch z)).up N⟩
  ·exact⟨_,rfl,p,_,_,_,rfl,rfl,SqL.of zc,rfl,f2,_,_,_,rfl,V2,by decide,_,rfl,_,rfl,_,_,rfl,kept,spare,n1,w1,B.up N,F1.up N,(C.ct (gr:=false) (one (by decide)) (by decide) (fun z=>nomatch z)).up N⟩
  ·exact⟨_,rfl,p,_,_,_,rfl,rfl,SqL.of zc,rfl,f3,_,_,_,rfl,V3,by decide,_,rfl,_,rfl,_,_,rfl,kept,spare,n1,w1,B.up N,F1.up N,(C.ct (one (by decide)) (by decide) (fun _=>.inr (.inl rfl))).up N⟩
  ·exact⟨_,rfl,p,_,_,_,rfl,rfl,SqL.of zc,rfl,f4,_,_,_,rfl,V4,by decide,_,rfl,_,rfl,_,_,rfl,kept,spare,n1,w1,B.up N,F1.up N,(C.ct (gr:=false) (one (by decide)) (by decide) (fun z=>nomatch z)).up N⟩
  ·exact⟨_,rfl,p,_,_,_,rfl,rfl,SqL.of zc,rfl,f5,_,_,_,rfl,V5,by decide,_,rfl,_,rfl,_,_,rfl,kept,spare,n1,w1,B.up N,F1.up N,r60.r N,zgf (C.ca (one (by decide)) (by decide)) N⟩
 have h6:¬t<6:=fun z=>h (decide_eq_true z)
 refine⟨_,rfl,_,_,rfl,rfl,_,rfl,qX (fun h=>?_) (fun h=>?_)⟩
 ·have h:t<8:=of_decide_eq_true h
  intro f0 V0 f1 V1
  refine⟨(by show 2≤sizeLine;decide),fun p fp=>?_⟩
  have N:=zd.new (o:=.lst [.ref f0,.ref f1]) fp
  have h6:t=6∨t=7:=by omega
  rcases h6 with rfl|rfl
  ·exact⟨_,rfl,_,_,rfl,rfl,p,_,_,_,rfl,rfl,SqL.of zc,rfl,f0,_,_,_,rfl,V0,by decide,_,rfl,_,rfl,_,_,rfl,kept,spare,n1,w1,B.up N,F1.up N,r60.r N,zgf (C.ca (one (by decide)) (by decide)) N⟩
  ·exact⟨_,rfl,_,_,rfl,rfl,p,_,_,_,rfl,rfl,SqL.of zc,rfl,f1,_,_,_,rfl,V1,by decide,_,rfl,_,rfl,_,_,rfl,kept,spare,n1,w1,B.up N,F1.up N,r60.r N,zgf (C.ca (one (by decide)) (by decide)) N⟩
 have h8:¬t<8:=fun z=>h (decide_eq_true z)
 refine⟨_,rfl,_,_,rfl,rfl,_,rfl,qX (fun h=>?_) (fun h=>?_)⟩
 ·have h:t<12:=of_decide_eq_true h
  intro f0 V0 f1 V1 f2 V2 f3 V3
  refine⟨(by show 4≤sizeLine;decide),fun p fp=>?_⟩
  have N:=zd.new (o:=.lst [.ref f0,.ref f1,.ref f2,.ref f3]) fp
  have h6:t=8∨t=9∨t=10∨t=11:=by omega
  rcases h6 with rfl|rfl|rfl|rfl
  ·exact⟨_,rfl,_,_,rfl,rfl,p,_,_,_,rfl,rfl,SqL.of zc,rfl,f0,_,_,_,rfl,V0,by decide,_,rfl,_,rfl,_,rfl,_,_,_,rfl,kept,spare,n1,n2,w1,w2,B.up N,F1.up N,F2.up N,(C.ct (gr:=false) (two (by decide)) (by decide) (fun z=>nomatch z)).up N⟩
  ·exact⟨_,rfl,_,_,rfl,rfl,p,_,_,_,rfl,rfl,SqL.of zc,rfl,f1,_,_,_,rfl,V1,by decide,_,rfl,_,rfl,_,rfl,_,_,_,rfl,kept,spare,n1,n2,w1,w2,B.up N,F1.up N,F2.up N,(C.ct (two (by decide)) (by decide) (fun _=>.inl (by decide))).up N⟩
  ·exact⟨_,rfl,_,_,rfl,rfl,p,_,_,_,rfl,rfl,SqL.of zc,rfl,f2,_,_,_,rfl,V2,by decide,_,rfl,_,rfl,_,rfl,_,_,_,rfl,kept,spare,n1,n2,w1,w2,B.up N,F1.up N,F2.up N,(C.ct (two (by decide)) (by decide) (fun _=>.inl (by decide))).up N⟩
  ·exact⟨_,rfl,_,_,rfl,rfl,p,_,_,_,rfl,rfl,SqL.of zc,rfl,f3,_,_,_,rfl,V3,by decide,_,rfl,_,rfl,_,rfl,_,_,_,rfl,kept,spare,n1,n2,w1,w2,B.up N,F1.up N,F2.up N,(C.ct (two (by decide)) (by decide) (fun _=>.inl (by decide))).up N⟩
 have h12:¬t<12:=fun z=>h (decide_eq_true z)
 have na:¬(5≤t∧t<8):=by omega
 refine⟨_,rfl,_,_,rfl,rfl,_,rfl,qX (fun h=>?_) (fun h=>?_)⟩
 ·have h:t<14:=of_decide_eq_true h
  have C':Ct cT cB cW false [w1] H Q E:=C.ct (one (by omega)) na (fun z=>nomatch z)
  intro f0 V0 f1 V1
  refine⟨(by show 2≤sizeLine;decide),fun p fp=>?_⟩
  have N:=zd.new (o:=.lst [.ref f0,.ref f1]) fp
  have h6:t=12∨t=13:=by omega
  rcases h6 with rfl|rfl
  ·exact⟨_,rfl,_,_,rfl,rfl,p,_,_,_,rfl,rfl,SqL.of zc,rfl,f0,_,_,_,rfl,V0,by decide,_,rfl,_,rfl,_,_,_,rfl,kept,spare,n1,w1,by decide,by decide,B.up N,F1.up N,rfl,C'.up N⟩
  ·exact⟨_,rfl,_,_,rfl,rfl,p,_,_,_,rfl,rfl,SqL.of zc,rfl,f1,_,_,_,rfl,V1,by decide,_,rfl,_,rfl,_,_,_,rfl,kept,spare,n1,w1,by decide,by decide,B.up N,F1.up N,rfl,C'.up N⟩
 have h14:¬t<14:=fun z=>h (decide_eq_true z)
 have C1:¬16<t→Ct cT cB cW false [w1] H Q E:=fun h=>C.ct (one (by omega)) na (fun z=>nomatch z)
 refine⟨_,rfl,rfl,_,rfl,qX (fun h=>?_) (fun h=>?_)⟩
 ·have h:t=14:=QH h
  refine⟨_,rfl,_,rfl,(by show 1≤sizeLine;decide),fun p fp=>?_⟩
  have N:=zd.new (o:=.lst [.int 0]) fp
  exact⟨_,_,_,rfl,kept,spare,n1,w1,p,B.up N,F1.up N,rfl,zc,(C1 (by omega)).up N⟩
 have h15:=YZ h
 refine⟨_,rfl,rfl,_,rfl,qX (fun h=>?_) (fun h=>?_)⟩
 ·have h:t=15:=QH h
  refine⟨_,rfl,_,rfl,by decide,fun p fp=>⟨by decide,fun p2 fp2=>?_⟩⟩
  have N:=zd.new (o:=.lst []) fp
  have N2:=zd.new (o:=.lst []) fp2
  exact⟨_,_,_,_,rfl,kept,spare,n1,w1,p,p2,B.up (N.trans N2),F1.up (N.trans N2),rfl,N2 _ _ zc,rfl,zc,(C1 (by omega)).up (N.trans N2)⟩
 have h16:=YZ h
 refine⟨_,rfl,rfl,_,rfl,qX (fun h=>?_) (fun h=>?_)⟩
 ·have h:t=16:=QH h
  refine⟨_,rfl,_,rfl,by decide,fun p fp=>?_⟩
  have N:=zd.new (o:=.lst []) fp
  exact⟨_,_,_,rfl,kept,spare,n1,w1,p,B.up N,F1.up N,rfl,zc,(C1 (by omega)).up N⟩
 have h17:=YZ h
 have C2:Ct cT cB cW true [w1,w2] H Q E:=C.ct (two (by omega)) na (fun _=>.inr (.inr (by omega)))
 refine⟨_,rfl,rfl,_,rfl,qX (fun h=>?_) (fun h=>?_)⟩
 ·refine⟨_,rfl,_,rfl,(by show 1≤sizeLine;decide),fun p fp=>⟨_,rfl,(by show 1≤sizeLine;decide),fun p2 fp2=>?_⟩⟩
  have N:=zd.new (o:=.lst [.ref l1]) fp
  have N2:=zd.new (o:=.lst [.ref l2]) fp2
  have NN:=N.trans N2
  exact⟨_,_,_,rfl,kept,spare,n1,n2,w1,w2,p,p2,l1,l2,B.up NN,F1.up NN,F2.up NN,rfl,rfl,N2 _ _ zc,zc,C2.up NN⟩
 refine⟨_,rfl,_,rfl,(by show 1≤sizeLine;decide),fun p fp=>⟨(by show 1≤sizeLine;decide),fun q fq=>⟨_,rfl,(by show 1≤sizeLine;decide),fun p2 fp2=>⟨(by show 1≤sizeLine;decide),fun q2 fq2=>?_⟩⟩⟩⟩
 have N:=zd.new (o:=.lst [.ref l1]) fp
 have M:=zd.new (o:=.lst [.ref p]) fq
 have N2:=zd.new (o:=.lst [.ref l2]) fp2
 have M2:=zd.new (o:=.lst [.ref p2]) fq2
 have NN:=N.trans (M.trans (N2.trans M2))
 exact⟨_,_,_,rfl,kept,spare,n1,n2,w1,w2,q,q2,p,p2,l1,l2,B.up NN,F1.up NN,F2.up NN,rfl,rfl,(N2.trans M2) _ _ zc,zc,(M.trans (N2.trans M2)) _ _ zc,M2 _ _ zc,C2.up NN⟩
end
section
variable {P:Program}{w:World}{K:xb}{mg:Str→Option Value}{base:Heap}{cR cT cB cW cD cP cA cU cI cG cX:Addr}
structure IsW (K:xb)(cR cT cB cW cD cP cA cU cI cG cX:Addr)(c:Addr)(j:Nat):Prop where
 m:IsM K cR cB cW cT cA cD cP cU cI cG cX c j
 rr:xi K (.ref c) (.ref cR)=some true
structure CM (K:xb)(cR cT cB cW cD cP cA cU cI cG cX:Addr):Prop where
 b:IsW K cR cT cB cW cD cP cA cU cI cG cX cB 0
 w:IsW K cR cT cB cW cD cP cA cU cI cG cX cW 1
 t:IsW K cR cT cB cW cD cP cA cU cI cG cX cT 2
 g:IsW K cR cT cB cW cD cP cA cU cI cG cX cG 8
 x:IsW K cR cT cB cW cD cP cA cU cI cG cX cX 9
 fx:ZW K cX "row"
 fg:ZW K cG "row"
noncomputable def zcV (j:Nat):Str:=if j=0 then "bad" else if j=1 then "wrong" else if j=2 then "great" else "other"
theorem zjk (j:Nat):atI ([("bad":Str),"wrong","great","other"].map V.str) (if (j:Int)<3 then(j:Int) else 3)=some (.str (zcV j)):=by
 match j with
 |0=>rfl
 |1=>rfl
 |2=>rfl
 |j+3 =>
  rw[if_neg (show ¬((j+3:Nat):Int)<3 by omega)]
  unfold zcV
  rw[if_neg (by omega),if_neg (by omega),if_neg (by omega)]
  rfl
inductive QY (K:xb)(cR cT cB cW cD cP cA cU cI cG cX:Addr)(a:V)(H:Hp)(Q:VK)(E:XK):Prop
 |non (h:a=.non) (q:Q (.str "none") H):QY K cR cT cB cW cD cP cA cU cI cG cX a H Q E
 |exc (ea c:Addr) (d:Option Addr) (j:Nat) (h:a=.ref ea) (he:H ea=some (.ext (jF ea c d))) (M:IsW K cR cT cB cW cD cP cA cU cI cG cX c j) (hj:j<10) (q:∀H',zd H H'→Q (.str (zcV j)) H'):QY K cR cT cB cW cD cP cA cU cI cG cX a H Q E
noncomputable def Yl (K:xb)(cR cT cB cW cD cP cA cU cI cG cX:Addr):Sp:=Sp1 (QY K cR cT cB cW cD cP cA cU cI cG cX)
noncomputable abbrev j5:Stmt:=top 82
theorem qM:zu ["_law_caught","_law_kinds"] ["_law_caught"] (ze j5):=⟨rfl,rfl,rfl,by decide +kernel,rfl,by decide +kernel,by decide +kernel⟩
theorem zbJ:zq "_law_word_of" j5 ["_law_caught"]:=qH fun _ _ _ _ _ _ _=>rfl
theorem zg1 (D:Def K mg "_law_word_of" j5)(T:Txt K mg cR cT cB cW cD cP cA cU cI cG cX):FnS P w K mg base "_law_word_of" ["_law_caught"] 1 (Yl K cR cT cB cW cD cP cA cU cI cG cX):=by
 refine D.ok qM zbJ jC fun f cdv A outer s H vs Q E hr h=>?_
 obtain⟨_,rfl,h⟩:=h
 refine⟨_,(zf (zN (zx zmc (pv 0) zed (zD _))
    (zh (zk zO))
    zA)
   (zf (zn (i:=1) qM.nd rfl (Or.inl rfl) (zJ (ac (cBi jQ (by rfl) T.isinstance PyProof.Rows.Boot.«isinstance» (ac (pv 0) (ac (qF (v:=.ref _) rfl T.BadFigure rfl) zb))) (ac (cBi jQ (by rfl) T.isinstance PyProof.Rows.Boot.«isinstance» (ac (pv 0) (ac (qF (v:=.ref _) rfl T.Wrong rfl) zb))) (ac (cBi jQ (by rfl) T.isinstance PyProof.Rows.Boot.«isinstance» (ac (pv 0) (ac (qF (v:=.ref _) rfl T.TooGreat rfl) zb))) zb)))))
   (zf (zn (i:=1) qM.nd rfl (Or.inl rfl) (zi qo (pv 1) (zJ (ac (cBi jQ (by rfl) T.isinstance PyProof.Rows.Boot.«isinstance» (ac (pv 0) (ac (qF (v:=.ref _) rfl T.BadBase rfl) zb))) (ac (cBi jQ (by rfl) T.isinstance PyProof.Rows.Boot.«isinstance» (ac (pv 0) (ac (qF (v:=.ref _) rfl T.BadDivisor rfl) zb))) (ac (cBi jQ (by rfl) T.isinstance PyProof.Rows.Boot.«isinstance» (ac (pv 0) (ac (qF (v:=.ref _) rfl T.BadPlace rfl) zb))) zb))))))
   (zf (zn (i:=1) qM.nd rfl (Or.inl rfl) (zi qo (pv 1) (zJ (ac (cBi jQ (by rfl) T.isinstance PyProof.Rows.Boot.«isinstance» (ac (pv 0) (ac (qF (v:=.ref _) rfl T.Unlike rfl) zb))) (ac (cBi jQ (by rfl) T.isinstance PyProof.Rows.Boot.«isinstance» (ac (pv 0) (ac (qF (v:=.ref _) rfl T.BadInput rfl) zb))) (ac (cBi jQ (by rfl) T.isinstance PyProof.Rows.Boot.«isinstance» (ac (pv 0) (ac (qF (v:=.ref _) rfl T.RowTooGreat rfl) zb))) zb))))))
   (zf (zn (i:=1) qM.nd rfl (Or.inl rfl) (zi qo (pv 1) (zJ (ac (cBi jQ (by rfl) T.isinstance PyProof.Rows.Boot.«isinstance» (ac (pv 0) (ac (qF (v:=.ref _) rfl T.BadText rfl) zb))) zb))))
   (zf (zN (PW.pt (YU (zx Zs (qU xR PySem.F.slot_list_count PySem.F.type_list_count zjR (pv 1) (ac Qk zb)) zg (zD _)) (YU (J4 (Z4 (cBi jQ (by rfl) T.isinstance PyProof.Rows.Boot.«isinstance» (ac (pv 0) (ac (zmk rfl T.ValueError PyProof.Rows.Boot.«ValueError») zb))))) (Yt (J4 (Z4 (cBi jQ (by rfl) T.isinstance PyProof.Rows.Boot.«isinstance» (ac (pv 0) (ac (qF (v:=.ref _) rfl T.RestError rfl) zb)))))))))
    (zh (zk zO))
    zA)
   (zh (zk (zL qg (zJ (ac zO (ac zO (ac zO (ac zO zb))))) (cBi (zhz rfl) (by rfl) T.min PyProof.Rows.Boot.«min» (ac zg (ac (qU xR PySem.F.slot_list_index PySem.F.type_list_index zjX (pv 1) (ac Qk zb)) zb))) (fun _ _=>rfl)))))))))),?_⟩
 try (set_option simprocs false in dsimp only[zr])
 cases h with
 |non h q =>
  subst h
  exact⟨_,rfl,rfl,_,rfl,Zc (decide_eq_true rfl) q⟩
 |exc ea c d j h h0 M hj k =>
 subst h
 obtain⟨G,rr⟩:=M
 refine⟨_,rfl,rfl,_,rfl,Jz (decide_eq_false (fun z=>nomatch z)) ?_⟩
 refine⟨_,rfl,ea,c,d,_,_,_,rfl,.inr ⟨_,rfl,rfl⟩,h0,G.g,G.k0,_,rfl,ea,c,d,_,_,_,rfl,.inr ⟨_,rfl,rfl⟩,h0,G.g,G.k1,_,rfl,ea,c,d,_,_,_,rfl,.inr ⟨_,rfl,rfl⟩,h0,G.g,G.k2,(by show 3≤sizeLine;decide),fun p1 f1=>?_⟩
 have N1:=zd.new (o:=.lst [.bl (decide (j=0)),.bl (decide (j=1)),.bl (decide (j=2))]) f1
 have h1:=N1 _ _ h0
 refine⟨_,rfl,_,rfl,ea,c,d,_,_,_,rfl,.inr ⟨_,rfl,rfl⟩,h1,G.g,G.k3,_,rfl,ea,c,d,_,_,_,rfl,.inr ⟨_,rfl,rfl⟩,h1,G.g,G.k4,_,rfl,ea,c,d,_,_,_,rfl,.inr ⟨_,rfl,rfl⟩,h1,G.g,G.k5,(by show 3≤sizeLine;decide),fun p2 f2=>?_⟩
 have N2:=zd.new (o:=.lst [.bl (decide (j=3)),.bl (decide (j=4)),.bl (decide (j=5))]) f2
 refine⟨p1,p2,_,_,rfl,rfl,SqL.of (N2 _ _ zc),SqL.of zc,(by show 3+3≤sizeLine;decide),fun p3 f3=>?_⟩
 have N3:=zd.new (o:=.lst ([.bl (decide (j=0)),.bl (decide (j=1)),.bl (decide (j=2))]++[.bl (decide (j=3)),.bl (decide (j=4)),.bl (decide (j=5))])) f3
 have A3:=N1.trans (N2.trans N3)
 have h3:=A3 _ _ h0
 refine⟨_,rfl,_,rfl,ea,c,d,_,_,_,rfl,.inr ⟨_,rfl,rfl⟩,h3,G.g,G.k6,_,rfl,ea,c,d,_,_,_,rfl,.inr ⟨_,rfl,rfl⟩,h3,G.g,G.k7,_,rfl,ea,c,d,_,_,_,rfl,.inr ⟨_,rfl,rfl⟩,h3,G.g,G.k8,(by show 3≤sizeLine;decide),fun p4 f4=>?_⟩
 have N4:=zd.new (o:=.lst [.bl (decide (j=6)),.bl (decide (j=7)),.bl (decide (j=8))]) f4
 refine⟨p3,p4,_,_,rfl,rfl,SqL.of (N4 _ _ zc),SqL.of zc,(by show 6+3≤sizeLine;decide),fun p5 f5=>?_⟩
 have N5:=zd.new (o:=.lst (([.bl (decide (j=0)),.bl (decide (j=1)),.bl (decide (j=2))]++[.bl (decide (j=3)),.bl (decide (j=4)),.bl (decide (j=5))])++[.bl (decide (j=6)),.bl (decide (j=7)),.bl (decide (j=8))])) f5
 have A5:=A3.trans (N4.trans N5)
 have h5:=A5 _ _ h0
 refine⟨_,rfl,_,rfl,ea,c,d,_,_,_,rfl,.inr ⟨_,rfl,rfl⟩,h5,G.g,G.k9,(by show 1≤sizeLine;decide),fun p6 f6=>?_⟩
 have N6:=zd.new (o:=.lst [.bl (decide (j=9))]) f6
 refine⟨p5,p6,_,_,rfl,rfl,SqL.of (N6 _ _ zc),SqL.of zc,(by show 9+1≤sizeLine;decide),fun p7 f7=>?_⟩
 have N7:=zd.new (o:=.lst (Za j)) f7
 have A7:=A5.trans (N6.trans N7)
 have h7:=A7 _ _ h0
 refine⟨_,rfl,.inl ⟨rfl,_,SqL.of zc⟩,p7,Za j,_,rfl,rfl,zc,rfl,rfl,rfl,_,rfl,QX (by rw[zeA hj];rfl) ?_⟩
 refine⟨_,rfl,ea,c,d,_,_,_,rfl,.inl ⟨"ValueError",rfl,rfl⟩,h7,G.g,G.v,_,rfl,jd ?_⟩
 refine⟨_,rfl,ea,c,d,_,_,_,rfl,.inr ⟨_,rfl,rfl⟩,h7,G.g,rr,_,rfl,jd ?_⟩
 refine⟨(by show 4≤sizeLine;decide),fun pn fn=>?_⟩
 have N8:=zd.new (o:=.lst ([("bad":Str),"wrong","great","other"].map V.str)) fn
 exact⟨_,rfl,.inl ⟨rfl,_,SqL.of (N8 _ _ zc)⟩,p7,Za j,_,j,rfl,rfl,N8 _ _ zc,rfl,rfl,zh6 hj,fun m z hm hz=>zjU hm hz,_,_,rfl,pn,_,_,_,rfl,rfl,SqL.of zc,zjk j,k _ (A7.trans N8)⟩
inductive TW (t:Int)(w1 w2:Str):Str→Prop
 |bad (h:("figure":Str)∈wds t w1 w2):TW t w1 w2 "bad"
 |wrong (h:("figure":Str)∉wds t w1 w2) (h':("wrong":Str)∈wds t w1 w2) (a:¬(5≤t∧t<8)):TW t w1 w2 "wrong"
 |none (h:("figure":Str)∉wds t w1 w2) (h':("wrong":Str)∉wds t w1 w2∨(5≤t∧t<8)):TW t w1 w2 "none"
 |great (g:grt t) (h:("figure":Str)∉wds t w1 w2) (h':("wrong":Str)∉wds t w1 w2):TW t w1 w2 "great"
inductive zbe (a b c d:V)(H:Hp)(Q:VK)(E:XK):Prop
 |mk (kept spare:List Int) (t n1 n2:Int) (w1 w2:Str) (B:Bas H a kept spare) (h1:b=.int t) (t0:0≤t) (t19:t<19) (F1:ji H c kept spare n1 w1) (F2:ji H d kept spare n2 w2) (r60:S60 H c) (q:∀wd,TW t w1 w2 wd→∀H',zd H H'→Q (.str wd) H'):zbe a b c d H Q E
noncomputable def zcx:Sp:=Sp4 zbe
noncomputable abbrev qN:Stmt:=top 83
theorem J9:zu ["_law_base","_law_turn","_law_one","_law_other","_law_caught","e"] ["_law_base","_law_turn","_law_one","_law_other"] (ze qN):=⟨rfl,rfl,rfl,by decide +kernel,rfl,by decide +kernel,by decide +kernel⟩
theorem zeH:zq "_law_told" qN ["_law_base","_law_turn","_law_one","_law_other"]:=zd0 fun _ _ _ _ _ _ _ _ _ _=>rfl
theorem zkJ (D:Def K mg "_law_told" qN)(T:Txt K mg cR cT cB cW cD cP cA cU cI cG cX)(C:CM K cR cT cB cW cD cP cA cU cI cG cX)(F__law_deed:FnS P w K mg base "_law_deed" ["_law_base","_law_turn","_law_one","_law_other"] 48 (zct cT cB cW))(F__law_word_of:FnS P w K mg base "_law_word_of" ["_law_caught"] 1 (Yl K cR cT cB cW cD cP cA cU cI cG cX)) :
  FnS P w K mg base "_law_told" ["_law_base","_law_turn","_law_one","_law_other"] 49 zcx:=by
 refine D.ok J9 zeH zbU fun f cdv A outer s H vs Q E hr h=>?_
 obtain⟨a,_,c,d,rfl,kept,spare,t,n1,n2,w1,w2,B,rfl,t0,t19,F1,F2,r60,q⟩:=h
 refine⟨_,(zf (zn (i:=4) J9.nd rfl (Or.inl rfl) zed)
   (zaz (Gr) (zlz zdh (zjC (zj9 (xFn zdh F__law_deed hr (ac (pv 0) (ac (pv 1) (ac (pv 2) (ac (pv 3) zb)))))))
    (zmt (i:=5) zdh T.RestError J9.nd rfl rfl (fun _=>(zh (zn (i:=4) J9.nd rfl (Or.inl rfl) (pv 5)))) zlH))
   (zh (zk (cFn F__law_word_of hr zw (ac (pv 4) zb)))))),?_⟩
 try (set_option simprocs false in dsimp only[zr])
 refine⟨fun σ H'=>zd H H'∧∃v:V,σ=[some a,some (.int t),some c,some d,some v,none]∧((v=.non∧TW t w1 w2 "none")∨∃ea c0 j,v=.ref ea∧H' ea=some (.ext (jF ea c0 none))∧IsW K cR cT cB cW cD cP cA cU cI cG cX c0 j∧j<10∧TW t w1 w2 (zcV j)),?_,?_⟩
 ·rintro _ H' ⟨S,v,rfl,⟨rfl,h⟩|⟨ea,c0,j,rfl,e,M,hj,h⟩⟩
  ·exact⟨_,rfl,_,rfl,.non rfl (q _ h H' S)⟩
  ·exact⟨_,rfl,_,rfl,.exc ea c0 none j rfl e M hj fun H2 S2=>q _ h H2 (S.trans S2)⟩
 ·refine⟨_,rfl,_,rfl,_,rfl,_,rfl,_,_,_,_,rfl,kept,spare,t,n1,n2,w1,w2,B,rfl,t0,t19,F1,F2,r60,fun h H' S=>?_,fun h h' ha H' S=>?_,fun h h' v H' S=>?_,fun g h h' H' S=>?_⟩
  ·exact .inl ⟨C.b.m.r,_,rfl,fun ea hea=>⟨_,rfl,S.trans (zd.new hea),_,rfl,.inr ⟨ea,cB,0,rfl,zc,C.b,by decide,.bad h⟩⟩⟩
  ·exact .inl ⟨C.w.m.r,_,rfl,fun ea hea=>⟨_,rfl,S.trans (zd.new hea),_,rfl,.inr ⟨ea,cW,1,rfl,zc,C.w,by decide,.wrong h h' ha⟩⟩⟩
  ·exact⟨S,_,rfl,.inl ⟨rfl,.none h h'⟩⟩
  ·exact .inl ⟨C.t.m.r,_,rfl,fun ea hea=>⟨_,rfl,S.trans (zd.new hea),_,rfl,.inr ⟨ea,cT,2,rfl,zc,C.t,by decide,.great g h h'⟩⟩⟩
end
section
variable {P:Program}{w:World}{K:xb}{mg:Str→Option Value}{base:Heap}{cR cT cB cW cD cP cA cU cI cG cX:Addr}
section
variable {g:TG}{tc:TT}{te:TE}{σ0:St}{H1:Hp}{Q:VK}
theorem zkw {a:Addr}{xs:List V}(hq:SqT K H1 a xs)(hl:xs.length<sizeLine)(p:V→Bool)(f:V→V)
  (step:∀x∈xs,∀(H':Hp) (Q':VK) (R:Hp→Prop),zd H1 H'→(p x=true→∀H2,zd H' H2→Q' (f x) H2)→(p x=false→∀H2,zd H' H2→R H2)→g x σ0 H' fun σ2 H2=>tc σ2 H2 fun b H3=>if b=true then te σ2 H3 Q' else R H3)
  (fin:∀D H',H1 D=none→zd H1 H'→H' D=some (.lst ((xs.filter p).map f))→Q (.ref D) H'):za0 (Itt K a) g tc te σ0 Q H1:=by
 intro D hD
 refine⟨fun i m ys H'=>i≤xs.length∧m=xs.length - i∧ys=((xs.take i).filter p).map f∧zd H1 H'∧H' D=some (.lst ys),⟨_,xV _,rfl,rfl,zd.new hD,zc⟩,?_⟩
 rintro i m ys H' ⟨hi,rfl,rfl,S,e⟩
 refine⟨e,by have:=yC p (xs.take i);rw[ye]at this;rw[xa];omega,?_⟩
 by_cases hlt:i<xs.length
 ·have hx:=xm hlt
  refine .inr ⟨⟨xs,_,S.knd (k:=.T) hq,hx⟩,fun x H'' hy=>?_⟩
  obtain⟨rfl,hy⟩:=hy
  have hx:=hy xs (S.knd (k:=.T) hq)
  have et:xs.take (i+1)=xs.take i++[x]:=by rw[yn,hx];rfl
  refine step x (xq hx) _ _ _ S (fun px H2 S2=>⟨S2 _ _ e,xs.length - (i+1),by omega,hlt,rfl,?_,(S.trans S2).upd hD,zc⟩) (fun px H2 S2=>⟨xs.length - (i+1),by omega,hlt,rfl,?_,S.trans S2,S2 _ _ e⟩)
  ·rw[et,yW,xE,vh px];rfl
  ·rw[et,yW,vi (by rw[px];exact xB),wy,yA]
 ·have ei:i=xs.length:=by omega
  subst ei
  rw[xS]at e
  exact .inl ⟨⟨xs,S.knd (k:=.T) hq,xr _⟩,fin D H' hD S e⟩
end
theorem zhm (kept:List Int)(top:Int):((kept.map V.int).filter fun x=>!decide (x=V.int top)).map (fun x=>x)=(kept.filter fun d=>!decide (d=top)).map V.int:=by
 rw[List.map_id',List.filter_map]
 congr 1
 apply List.filter_congr
 intro d _
 show(!decide (V.int d=V.int top))=!decide (d=top)
 by_cases h:d=top
 ·rw[decide_eq_true h,decide_eq_true (by rw[h])]
 ·rw[decide_eq_false h,decide_eq_false (fun z=>h (V.int.inj z))]
inductive zdE (a:V)(H:Hp)(Q:VK)(E:XK):Prop
 |mk (n:Int) (h0:a=.int n) (q:∀kept spare t H',zv kept spare→spare≠[]→zd H H'→ZC H' t kept spare→Q (.ref t) H'):zdE a H Q E
noncomputable def zfh:Sp:=Sp1 zdE
noncomputable abbrev jv:Stmt:=top 79
theorem JF:zu ["_law_number","_law_base","_law_top"] ["_law_number"] (ze jv):=⟨rfl,rfl,rfl,by decide +kernel,rfl,by decide +kernel,by decide +kernel⟩
theorem zat:zq "_law_wide_base" jv ["_law_number"]:=qH fun _ _ _ _ _ _ _=>rfl
theorem zli (D:Def K mg "_law_wide_base" jv)(T:Txt K mg cR cT cB cW cD cP cA cU cI cG cX)(F__law_base_by:FnS P w K mg base "_law_base_by" ["_law_number"] 2 zbk):FnS P w K mg base "_law_wide_base" ["_law_number"] 3 zfh:=by
 refine D.ok JF zat jC fun f cdv A outer s H vs Q E hr h=>?_
 obtain⟨_,rfl,n,rfl,k⟩:=h
 refine⟨_,(zf (zn (i:=1) JF.nd rfl (Or.inl rfl) (cFn F__law_base_by hr zw (ac (pv 0) zb)))
   (zf (zn (i:=2) JF.nd rfl (Or.inr rfl) (cBi (zhF rfl) (by rfl) T.max PyProof.Rows.Boot.«max» (ac (zL jI (pv 1) zg (fun _ _=>rfl)) zb)))
   (zf (zN (zx Zt (cBi zP (by rfl) T.len PyProof.Rows.Boot.«len» (ac (zL jI (pv 1) zg (fun _ _=>rfl)) zb)) zg (zD _))
    (zh (zk (pv 1)))
    zA)
   (zf (zN (zx Zt (cBi zP (by rfl) T.len PyProof.Rows.Boot.«len» (ac (zL jI (pv 1) zg (fun _ _=>rfl)) zb)) zg (zD _))
    (zh (zk (jV (ac (cTy Jg (by rfl) T.tuple PyProof.Rows.Boot.«tuple» (ac (zj0 (lv:=1) (caps:=[2]) (N':=["_law_one","_law_top"]) (xe:=fun _ _ _ _ _ _=>False) (fun _ _ _ _ _ _ _ _ _ _ _ _ _ z=>z.elim) rfl (zW.caps (sc:=ze jv) rfl (by decide +kernel) (by decide +kernel) (by decide +kernel) rfl rfl (qj rfl rfl rfl)) (zZ (by decide)) (QA (zL jI (pv 1) zg (fun _ _=>rfl))) (fun _ _ _ _=>zE (i:=0) (show(["_law_one","_law_top"]:List Str).Nodup by decide +kernel) rfl (Or.inl rfl)) (fun _ _ _ _=>(zx Zs (pv 0) (pv 1) (zD _))) (fun _ _ _ _=>(pv 0))) zb)) (ac (jV (ac (pv 2) zb)) zb)))))
    zA)
   (zf (zN (zx qA (pv 2) zg (zD _))
    (zh (zk (jV (ac (zL jI (pv 1) zg (fun _ _=>rfl)) (ac (jV (ac zg zb)) zb)))))
    zA)
   (zh (zk (jV (ac (jV (ac zg zb)) (ac (jV (ac zg zb)) zb)))))))))),?_⟩
 try (set_option simprocs false in dsimp only[zr])
 refine⟨_,rfl,_,rfl,n,rfl,fun kept spare tb H1 gb S1 htb hb=>?_⟩
 obtain⟨t1,t2,e0,e1,e2⟩:=hb.ex
 have k1:=gb.k1
 have k6:=gb.k6
 have s30:(30:Nat)≤sizeLine:=by decide
 have ne:kept≠[]:=by rintro rfl;exact absurd k1 (by decide)
 refine⟨_,rfl,tb,_,_,_,rfl,rfl,SqT.of e0,rfl,t1,kept,rfl,SqT.of e1,ne,fun top htop hle=>?_⟩
 refine⟨_,rfl,tb,_,_,_,rfl,rfl,SqT.of e0,rfl,t2,_,rfl,.inr (SqT.of e2),_,_,rfl,rfl,_,rfl,qX (fun h=>?_) (fun h=>?_)⟩
 ·refine⟨_,rfl,k kept spare tb H1 gb ?_ S1 hb⟩
  rintro rfl
  have h:(0:Int)<(([]:List Int).map V.int).length:=of_decide_eq_true h
  exact absurd h (by decide)
 have h:¬(0:Int)<((spare.map V.int).length:Nat):=fun z=>h (decide_eq_true z)
 have hs:spare=[]:=by
  rw[xa]at h
  exact List.length_eq_zero_iff.mp (by omega)
 subst hs
 refine⟨_,rfl,tb,_,_,_,rfl,rfl,SqT.of e0,rfl,t1,_,rfl,.inr (SqT.of e1),_,_,rfl,rfl,_,rfl,qX (fun h=>?_) (fun h=>?_)⟩
 ·have h:(1:Int)<((kept.map V.int).length:Nat):=of_decide_eq_true h
  rw[xa]at h
  refine⟨_,rfl,tb,_,_,_,rfl,rfl,SqT.of e0,rfl,t1,rfl,⟨_,SqT.of e1⟩,zkw (K:=K) (SqT.of e1) (by rw[xa];omega) (fun x=>!decide (x=V.int top)) (fun x=>x) ?_ ?_⟩
  ·intro x hx H' Q' R S yes no
   obtain⟨d,_,rfl⟩:=xI.mp hx
   exact⟨_,rfl,_,rfl,rfl,_,rfl,qX (fun z=>⟨_,rfl,yes z H' (zd.refl _)⟩) (fun z=>no (v9.mpr z) H' (zd.refl _))⟩
  intro DD H2 hD S2 e
  rw[zhm]at e
  refine⟨DD,_,rfl,.inl ⟨SqL.of e,fun u1 f1=>⟨_,rfl,(by show 1≤sizeLine;decide),fun u2 f2=>⟨(by show 2≤sizeLine;decide),fun u f3=>?_⟩⟩⟩⟩
  have N1:=zd.new (o:=.tup ((kept.filter fun d=>!decide (d=top)).map V.int)) f1
  have N2:=zd.new (o:=.tup [.int top]) f2
  have N3:=zd.new (o:=.tup [.ref u1,.ref u2]) f3
  exact k _ [top] u _ (zjb gb (by omega) htop hle) (vc _ _) (S1.trans (S2.trans (N1.trans (N2.trans N3)))) ⟨u1,u2,zc,(N2.trans N3) _ _ zc,N3 _ _ zc⟩
 have h:¬(1:Int)<((kept.map V.int).length:Nat):=fun z=>h (decide_eq_true z)
 rw[xa]at h
 obtain⟨d,rfl⟩:∃d,kept=[d]:=List.length_eq_one_iff.mp (by omega)
 have ht:top=d:=xo.mp htop
 subst ht
 have d2:=(gb.rng top (.head _)).1
 refine⟨_,rfl,_,_,rfl,rfl,_,rfl,qX (fun h=>?_) (fun h=>?_)⟩
 ·have h:top<999983:=of_decide_eq_true h
  refine⟨_,rfl,tb,_,_,_,rfl,rfl,SqT.of e0,rfl,(by show 1≤sizeLine;decide),fun u2 f2=>⟨(by show 2≤sizeLine;decide),fun u f3=>?_⟩⟩
  have N2:=zd.new (o:=.tup [.int 999983]) f2
  have N3:=zd.new (o:=.tup [.ref t1,.ref u2]) f3
  exact k [top] [999983] u _ (zi3 d2 h) (vc _ _) (S1.trans (N2.trans N3)) ⟨t1,u2,zc,(N2.trans N3) _ _ e1,N3 _ _ zc⟩
 ·refine⟨(by show 1≤sizeLine;decide),fun u1 f1=>⟨(by show 1≤sizeLine;decide),fun u2 f2=>⟨(by show 2≤sizeLine;decide),fun u f3=>?_⟩⟩⟩
  have N1:=zd.new (o:=.tup [.int 2]) f1
  have N2:=zd.new (o:=.tup [.int 3]) f2
  have N3:=zd.new (o:=.tup [.ref u1,.ref u2]) f3
  exact k [2] [3] u _ zjs (vc _ _) (S1.trans (N1.trans (N2.trans N3))) ⟨u1,u2,zc,(N2.trans N3) _ _ zc,N3 _ _ zc⟩
noncomputable def lw (w:Str):Str:=if w="figure" then "bad" else if w="wrong" then "wrong" else "right"
inductive zco (a b c:V)(H:Hp)(Q:VK)(E:XK):Prop
 |mk (kept spare:List Int) (nb x:Int) (B:Bas H a kept spare) (hs:spare≠[]) (h1:b=.int nb) (h0:0≤nb) (h2:c=.int x) (q:∀t l n w H',zd H H'→H' t=some (.tup [.ref l,.str (lw w)])→ji H' (.ref l) kept spare n w→S60 H' (.ref l)→Q (.ref t) H'):zco a b c H Q E
noncomputable def zc6:Sp:=Sp3 zco
theorem zk5 {kept spare:List Int}(g:zv kept spare)(n:Int):∀r∈zF (kept++spare) n,r.natAbs<10^60:=fun r hr=>by
 obtain⟨d,hd,rfl⟩:=xI.mp hr
 have:=g.rng d hd
 have a0:=yc n (show d≠0 by omega)
 have a1:=xU n (show 0<d by omega)
 have:(1000000:Nat)<10^60:=by decide +kernel
 omega
noncomputable abbrev qu:Stmt:=top 80
theorem Jf:zu ["_law_base","_law_number","_law_cell","_law_figure_here","_law_at","_law_most","_law_turn"] ["_law_base","_law_number","_law_cell"] (ze qu):=⟨rfl,rfl,rfl,by decide +kernel,rfl,by decide +kernel,by decide +kernel⟩
theorem zdI:zq "_law_drawn" qu ["_law_base","_law_number","_law_cell"]:=qz fun _ _ _ _ _ _ _ _ _=>rfl
theorem zi9 (D:Def K mg "_law_drawn" qu)(T:Txt K mg cR cT cB cW cD cP cA cU cI cG cX)(F__law_figure:FnS P w K mg base "_law_figure" ["_law_base","_law_number"] 1 Zj)(F__law_fitting:FnS P w K mg base "_law_fitting" ["_law_base","_law_cell"] 2 zbn):FnS P w K mg base "_law_drawn" ["_law_base","_law_number","_law_cell"] 3 zc6:=by
 refine D.ok Jf zdI jY fun f cdv A outer s H vs Q E hr h=>?_
 obtain⟨_,_,_,rfl,kept,spare,nb,x,B,hs,rfl,nb0,rfl,k⟩:=h
 refine⟨_,(zf (zn (i:=3) Jf.nd rfl (Or.inl rfl) (cFn F__law_figure hr zw (ac (pv 0) (ac (cFn F__law_fitting hr zw (ac (pv 0) (ac (pv 2) zb))) zb))))
   (zf (zn (i:=4) Jf.nd rfl (Or.inl rfl) (zi zQ (zi jk (pv 1) zg) (cBi zP (by rfl) T.len PyProof.Rows.Boot.«len» (ac (pv 3) zb))))
   (zf (zn (i:=5) Jf.nd rfl (Or.inl rfl) (zL jI (zi zbA (zL jI (pv 0) zg (fun _ _=>rfl)) (zL jI (pv 0) zg (fun _ _=>rfl))) (pv 4) (fun _ _=>rfl)))
   (zf (zN (zx qI (zi zQ (pv 1) zg) zg (zD _))
    (zf (zn (i:=6) Jf.nd rfl (Or.inl rfl) (zi zQ (zi jk (pv 1) zg) zg))
    (zf (zN (zx qA (pv 6) zg (zD _))
     (zh (zk (jV (ac (zL qg (zJ (ac (zi qo (pv 3) (zJ (ac zg zb))) (ac (qx Qp (pv 3) qW (qV (QL ZU zg))) (ac (zJ zb) zb)))) (pv 6) (fun _ _=>rfl)) (ac zO zb)))))
     zA)
    (zf (za4 (zL qg (zJ (ac (pv 5) (ac (QL ZU zg) zb))) (zi jL (pv 6) zg) (fun _ _=>rfl)) (zij (pv 3) (pv 4) zc8))
    (zh (zk (jV (ac (pv 3) (ac zO zb))))))))
    zA)
   (zf (zN (zx qI (zi zQ (pv 1) zg) zg (zD _))
    (zf (za4 (zi zQ (zi jX (zi jX (zL qg (pv 3) (pv 4) (fun _ _=>rfl)) zg) (zi zQ (zi jk (pv 1) zg) (zi jL (pv 5) zg))) (pv 5)) (zij (pv 3) (pv 4) zc8))
    (zh (zk (jV (ac (pv 3) (ac zO zb))))))
    zA)
   (zh (zk (jV (ac (pv 3) (ac zO zb)))))))))),?_⟩
 try (set_option simprocs false in dsimp only[zr])
 obtain⟨⟨t,rfl,hb⟩,gb⟩:=id B
 have k1:=gb.k1
 have k6:=gb.k6
 have s4:=gb.s4
 have two:∀{a:V} {b:V},([a,b]:List V).length≤sizeLine:=fun {_ _}=>by show 2≤sizeLine;decide
 have s30:(30:Nat)≤sizeLine:=by decide
 refine⟨_,rfl,_,rfl,_,rfl,_,_,rfl,kept,spare,x,B,rfl,fun n hn0 hn1=>?_⟩
 have hf:zM kept n:=⟨hn0,hn1⟩
 refine⟨_,_,rfl,kept,spare,n,B,rfl,fun l H1 S1 hl el=>?_⟩
 obtain⟨t1,t2,e0,e1,e2⟩:=(hb.up S1).ex
 have r60:=zk5 gb n
 have hlen:=qv (kept++spare) n
 generalize hfs:zF (kept++spare) n=fs at *
 have hl1:1≤fs.length:=by rw[hlen,xw];omega
 have hl10:fs.length≤10:=by rw[hlen,xw];omega
 have p60:(1000000:Nat)<10^60:=by decide +kernel
 refine⟨_,rfl,_,_,rfl,rfl,⟨by decide,by decide⟩,_,rfl,l,_,rfl,.inl (SqL.of el),_,_,rfl,rfl,(by show(0:Int)<((fs.map V.int).length:Int);rw[xa];omega),?_⟩
 rw[xa]
 have a0:0≤nb/36%(fs.length:Int):=yc _ (by omega)
 have a1:nb/36%(fs.length:Int)<fs.length:=xU _ (by omega)
 generalize nb/36%(fs.length:Int)=at' at *
 have hj:at'.toNat<(kept++spare).length:=by omega
 have hd:(kept++spare)[at'.toNat]? = some ((kept++spare).getD at'.toNat 0):=by
  rw[xA,xm hj];rfl
 refine⟨_,rfl,t,_,_,_,rfl,rfl,SqT.of e0,rfl,_,rfl,t,_,_,_,rfl,rfl,SqT.of e0,rfl,t1,t2,_,_,rfl,rfl,SqT.of e1,SqT.of e2,gb.ne,gb.room,fun z=>absurd (ul.mp z) hs,fun _ p hp=>?_⟩
 have g1:upd H1 p (.tup (kept.map V.int++spare.map V.int)) p=some (.tup ((kept++spare).map V.int)):=by rw[xE];exact zc
 refine⟨_,rfl,p,_,_,_,rfl,rfl,SqT.of g1,qp a0 (by omega),?_⟩
 have NP:=zd.new (o:=.tup (kept.map V.int++spare.map V.int)) hp
 have S2:=S1.trans NP
 have el2:=NP _ _ el
 clear g1
 generalize upd H1 p (.tup (kept.map V.int++spare.map V.int))=H2 at *
 generalize (kept++spare).getD at'.toNat 0=d at *
 have hd2:=gb.rng d (xq hd)
 have ha:at'.toNat<fs.length:=by omega
 have ix:ixN (fs.map V.int).length at'=some at'.toNat:=by unfold ixN;rw[if_pos a0,if_pos (by rw[xa];exact a1)]
 have fin:∀(y:Int) (wd:Str),Jp kept spare n (fs.set at'.toNat y) wd→y.natAbs<10^60→∀H3,zd H2 H3→∀q,upd H3 l (.lst ((fs.map V.int).set at'.toNat (.int y))) q=none→Q (.ref q) (upd (upd H3 l (.lst ((fs.map V.int).set at'.toNat (.int y)))) q (.tup [.ref l,.str (lw wd)])):=fun y wd hw y60 H3 S3 q fq=>by
  have em:(fs.map V.int).set at'.toNat (.int y)=(fs.set at'.toNat y).map V.int:=(List.map_set ..).symm
  rw[em]at fq ⊢
  have N:=zd.new (o:=.tup [.ref l,.str (lw wd)]) fq
  have e3:=N _ _ (zc (H:=H3) (a:=l) (o:=.lst ((fs.set at'.toNat y).map V.int)))
  refine k q l n wd _ (((S2.trans S3).upd hl).trans N) zc ⟨l,_,rfl,e3,by rw[vp];omega,hf,hw⟩ ⟨l,_,rfl,e3,fun z hz=>?_⟩
  rcases List.mem_or_eq_of_mem_set hz with h|h
  ·exact r60 z h
  ·rw[h];exact y60
 refine⟨_,rfl,_,_,rfl,rfl,(by show(0:Int)<4;decide),rfl,_,rfl,qX (fun _=>?_) (fun _=>?_)⟩
 ·refine⟨_,rfl,_,_,rfl,rfl,⟨by decide,by decide⟩,_,_,rfl,rfl,(by show(0:Int)<5;decide),?_⟩
  have b0:0≤nb/4%5:=by omega
  have b1:nb/4%5<5:=by omega
  generalize nb/4%5=tn at *
  refine⟨_,rfl,_,_,rfl,rfl,_,rfl,qX (fun h=>?_) (fun h=>?_)⟩
  ·have h:tn<3:=of_decide_eq_true h
   refine⟨_,rfl,(by show 1≤sizeLine;decide),fun p1 f1=>⟨l,p1,_,_,rfl,rfl,SqL.of ((zd.new f1) _ _ el2),SqL.of zc,(by rw[xa];show _+1≤_;omega),fun p2 f2=>?_⟩⟩
   have N1:=zd.new (o:=.lst [.int 0]) f1
   have N2:=zd.new (o:=.lst (fs.map V.int++[.int 0])) f2
   have N12:=N1.trans N2
   refine⟨_,rfl,_,rfl,_,rfl,l,_,rfl,SqL.of (N12 _ _ el2),fun p3 f3=>?_⟩
   rw[zjB hl1]
   have N3:=zd.new (o:=.lst ((fs.take (fs.length - 1)).map V.int)) f3
   refine⟨by decide,fun p4 f4=>⟨(by show 3≤sizeLine;decide),fun p5 f5=>?_⟩⟩
   have N4:=zd.new (o:=.lst []) f4
   have N5:=zd.new (o:=.lst [.ref p2,.ref p3,.ref p4]) f5
   have A5:=S2.trans (N12.trans (N3.trans (N4.trans N5)))
   have h3:tn=0∨tn=1∨tn=2:=by omega
   rcases h3 with rfl|rfl|rfl
   ·refine⟨_,rfl,p5,_,_,_,rfl,rfl,SqL.of zc,rfl,two,fun q fq=>?_⟩
    have N6:=zd.new (o:=.tup [.ref p2,.str "bad"]) fq
    have em:fs.map V.int++[V.int 0]=(fs++[0]).map V.int:=by rw[xE];rfl
    have e:=((N3.trans (N4.trans (N5.trans N6))) _ _ (zc (a:=p2) (o:=.lst (fs.map V.int++[V.int 0])))).trans (congrArg (fun z=>some (HO.lst z)) em)
    exact k q p2 n "figure" _ (A5.trans N6) zc ⟨p2,_,rfl,e,by rw[xw];show _+1≤20;omega,hf,.inr (.inl ⟨rfl,zj3 hlen⟩)⟩ ⟨p2,_,rfl,e,fun z hz=>(xM.mp hz).elim (r60 z) fun h=>by rw[xo.mp h];exact vj (by decide) p60⟩
   ·refine⟨_,rfl,p5,_,_,_,rfl,rfl,SqL.of zc,rfl,two,fun q fq=>?_⟩
    have N6:=zd.new (o:=.tup [.ref p3,.str "bad"]) fq
    have e:=(N4.trans (N5.trans N6)) _ _ (zc (H:=_) (a:=p3) (o:=.lst ((fs.take (fs.length - 1)).map V.int)))
    exact k q p3 n "figure" _ (A5.trans N6) zc ⟨p3,_,rfl,e,by rw[ye];omega,hf,.inr (.inl ⟨rfl,zgZ hlen (by omega)⟩)⟩ ⟨p3,_,rfl,e,fun z hz=>r60 z (uc hz)⟩
   ·refine⟨_,rfl,p5,_,_,_,rfl,rfl,SqL.of zc,rfl,two,fun q fq=>?_⟩
    have N6:=zd.new (o:=.tup [.ref p4,.str "bad"]) fq
    have e:=(N5.trans N6) _ _ (zc (H:=_) (a:=p4) (o:=.lst []))
    exact k q p4 n "figure" _ (A5.trans N6) zc ⟨p4,[],rfl,e,by decide,hf,.inr (.inl ⟨rfl,fun v=>by have:=v.len;rw[←hlen]at this;rw[←this]at hl1;exact absurd hl1 (by decide)⟩)⟩ ⟨p4,[],rfl,e,fun z hz=>nomatch hz⟩
  ·have h:¬tn<3:=fun z=>h (decide_eq_true z)
   refine⟨_,rfl,_,rfl,two,fun p1 f1=>?_⟩
   have N1:=zd.new (o:=.lst [.int d,.int (-1)]) f1
   have h3:tn=3∨tn=4:=by omega
   rcases h3 with rfl|rfl
   ·refine⟨_,rfl,_,_,rfl,rfl,p1,_,_,_,rfl,rfl,SqL.of zc,rfl,_,rfl,_,rfl,l,_,_,_,rfl,rfl,N1 _ _ el2,ix,_,rfl,two,fun q fq=>?_⟩
    exact fin d "figure" (.inr (.inl ⟨rfl,zhZ hlen hd (.inr (wk d))⟩)) (by omega) _ N1 q fq
   ·refine⟨_,rfl,_,_,rfl,rfl,p1,_,_,_,rfl,rfl,SqL.of zc,rfl,_,rfl,_,rfl,l,_,_,_,rfl,rfl,N1 _ _ el2,ix,_,rfl,two,fun q fq=>?_⟩
    exact fin (-1) "figure" (.inr (.inl ⟨rfl,zhZ hlen hd (.inl (by decide))⟩)) (vj (by decide) p60) _ N1 q fq
 refine⟨_,rfl,_,_,rfl,rfl,(by show(0:Int)<4;decide),rfl,_,rfl,qX (fun _=>?_) (fun _=>?_)⟩
 ·have r0:fs.getD at'.toNat 0=n%d:=by
   rw[←hfs,xA,Jo hd];rfl
  have q0:0≤nb/4%(d - 1):=yc _ (by omega)
  have q1:nb/4%(d - 1)<d - 1:=xU _ (by omega)
  have g0:0≤n%d:=yc _ (by omega)
  have g1:n%d<d:=xU _ (by omega)
  have z0:0≤(fs.getD at'.toNat 0+1+nb/4%(d - 1))%d:=yc _ (by omega)
  have z1:(fs.getD at'.toNat 0+1+nb/4%(d - 1))%d<d:=xU _ (by omega)
  refine⟨_,rfl,_,rfl,l,_,_,_,rfl,rfl,SqL.of el2,qp a0 (by omega),_,_,rfl,rfl,_,rfl,_,_,rfl,rfl,⟨by decide,by decide⟩,_,rfl,_,_,rfl,rfl,_,_,rfl,rfl,(by show 0<d - 1;omega),_,_,rfl,rfl,_,rfl,_,_,rfl,rfl,(by show 0<d;omega),_,rfl,_,rfl,l,_,_,_,rfl,rfl,el2,ix,_,rfl,two,fun q fq=>?_⟩
  have w:=zdA gb hs hf hd z0 z1 (by rw[r0];exact zgc g0 g1 q0 q1)
  rw[hfs]at w
  exact fin _ "wrong" (.inr (.inr ⟨rfl,w⟩)) (by omega) _ (zd.refl _) q fq
 ·refine⟨_,rfl,two,fun q fq=>?_⟩
  have N:=zd.new (o:=.tup [.ref l,.str "right"]) fq
  exact k q l n "" _ (S2.trans N) zc ⟨l,_,rfl,N _ _ el2,by omega,hf,.inl ⟨rfl,hfs.symm⟩⟩ ⟨l,_,rfl,N _ _ el2,r60⟩
end
section
variable {P:Program}{w:World}{K:xb}{mg:Str→Option Value}{base:Heap}{cR cT cB cW cD cP cA cU cI cG cX:Addr}
theorem zlC {x:Str}(h:lw x="bad"):x="figure":=by
 unfold lw at h
 split at h
 ·assumption
 ·split at h<;>exact absurd h (by decide)
theorem zlM {x:Str}(h:lw x="wrong"):x="wrong":=by
 unfold lw at h
 split at h
 ·exact absurd h (by decide)
 ·split at h
  ·assumption
  ·exact absurd h (by decide)
theorem zix {ws:List Str}:("bad":Str)∈ws.map lw↔("figure":Str)∈ws:=by
 constructor
 ·intro h
  obtain⟨x,hx,e⟩:=xI.mp h
  rw[←zlC e];exact hx
 ·intro h
  exact xI.mpr ⟨_,h,rfl⟩
theorem zen {ws:List Str}:("wrong":Str)∈ws.map lw↔("wrong":Str)∈ws:=by
 constructor
 ·intro h
  obtain⟨x,hx,e⟩:=xI.mp h
  rw[←zlM e];exact hx
 ·intro h
  exact xI.mpr ⟨_,h,rfl⟩
theorem zkk (z:Str)(ws:List Str):inV (.str z) (ws.map fun x=>V.str (lw x))=decide (z∈ws.map lw):=by
 rw[←zft,yj];rfl
theorem zff (ws:List Str):(ws.map fun x=>V.str (lw x)).all qK=true:=by
 have:=zis (ws.map lw)
 rw[yj]at this
 exact this
theorem eqS {a b:Str}(h:a=b):decide (V.str a=V.str b)=true:=decide_eq_true (by rw[h])
theorem neS {a b:Str}(h:a≠b):decide (V.str a=V.str b)=false:=decide_eq_false fun z=>h (V.str.inj z)
inductive zab (a b:V)(H:Hp)(Q:VK)(E:XK):Prop
 |mk (kept spare:List Int) (x:Int) (B:Bas H a kept spare) (hs:spare≠[]) (h:b=.int x) (q:∀H',zd H H'→Q (.bl true) H'):zab a b H Q E
noncomputable def zbo:Sp:=Sp2 zab
noncomputable abbrev qs:Stmt:=top 84
theorem jy:zu ["_law_base","_law_cell","_law_turn","_law_one","_law_first","_law_other","_law_second","_law_words","_law_handed","_law_found"] ["_law_base","_law_cell"] (ze qs):=⟨rfl,rfl,rfl,by decide +kernel,rfl,by decide +kernel,by decide +kernel⟩
theorem zel:zq "_law_right" qs ["_law_base","_law_cell"]:=je fun _ _ _ _ _ _ _ _=>rfl
theorem ziZ (D:Def K mg "_law_right" qs)(T:Txt K mg cR cT cB cW cD cP cA cU cI cG cX)(F__law_mixed:FnS P w K mg base "_law_mixed" ["_law_number","_law_k"] 1 ZZ)(F__law_drawn:FnS P w K mg base "_law_drawn" ["_law_base","_law_number","_law_cell"] 3 zc6)(F__law_told:FnS P w K mg base "_law_told" ["_law_base","_law_turn","_law_one","_law_other"] 49 zcx) :
  FnS P w K mg base "_law_right" ["_law_base","_law_cell"] 50 zbo:=by
 refine D.ok jy zel zS fun f cdv A outer s H vs Q E hr h=>?_
 obtain⟨_,_,rfl,kept,spare,x,B,hs,rfl,k⟩:=h
 refine⟨_,(zf (zn (i:=2) jy.nd rfl (Or.inl rfl) (zi zQ (cFn F__law_mixed hr zw (ac (pv 1) (ac zg zb))) zg))
   (zf (za4 (cFn F__law_drawn hr zw (ac (pv 0) (ac (cFn F__law_mixed hr zw (ac (pv 1) (ac zg zb))) (ac (pv 1) zb)))) (Qw (n:=2) rfl (jM (zE (i:=3) jy.nd rfl (Or.inl rfl)) (jM (zE (i:=4) jy.nd rfl (Or.inl rfl)) Zg))))
   (zf (za4 (cFn F__law_drawn hr zw (ac (pv 0) (ac (cFn F__law_mixed hr zw (ac (pv 1) (ac zg zb))) (ac (zi jk (pv 1) zg) zb)))) (Qw (n:=2) rfl (jM (zE (i:=5) jy.nd rfl (Or.inl rfl)) (jM (zE (i:=6) jy.nd rfl (Or.inl rfl)) Zg))))
   (zf (zn (i:=7) jy.nd rfl (Or.inl rfl) (zJ (ac (pv 4) zb)))
   (zaz (Gr) (zN (PW.pt (YU (Z2 ZN qA zg (pv 2) zg) (Yt (zx Zt (pv 2) zg (zD _)))))
    (zh (jr (qU xR ya yb jT (pv 7) (ac (pv 6) zb))))
    zA)
   (zf (zn (i:=8) jy.nd rfl (Or.inl rfl) (zJ (ac (cTy JX (by rfl) T.list PyProof.Rows.Boot.«list» (ac (pv 3) zb)) (ac (cTy JX (by rfl) T.list PyProof.Rows.Boot.«list» (ac (pv 5) zb)) zb))))
   (zf (zn (i:=9) jy.nd rfl (Or.inl rfl) (cFn F__law_told hr zw (ac (pv 0) (ac (pv 2) (ac (zL qg (pv 8) zg (fun _ _=>rfl)) (ac (zL qg (pv 8) zg (fun _ _=>rfl)) zb))))))
   (zf (zN (zx (zbQ K hr.units) (pv 8) (zJ (ac (pv 3) (ac (pv 5) zb))) (zD _))
    (zh (zk Qk))
    zA)
   (zf (zN (zx zkj zO (pv 7) (by with_unfolding_all rfl))
    (zh (zk (Zm qI (pv 9) zO (zD _))))
    zA)
   (zaz (Gr) (zN (PW.pt (zlo (zx zkj zO (pv 7) (by with_unfolding_all rfl)) (zlh (J4 (Z2 ZN qA zg (pv 2) zg)))))
    (zh (zk (Zm qI (pv 9) zO (zD _))))
    zA)
   (zh (zk (zgG (Zm qI (pv 9) zO (zD _)) (zdK (zlU (Zm qI (pv 9) zO (zD _)) (zdK (zgG (zee ZN qA zg (pv 2) zg) (zgG (Zm qI (pv 2) zg (zD _)) (zdK (Zm Zt (pv 2) zg (zD _))))))))))))))))))))),?_⟩
 try (set_option simprocs false in dsimp only[zr])
 obtain⟨⟨tb,rfl,hb⟩,gb⟩:=id B
 have two:∀{a:V} {b:V},([a,b]:List V).length≤sizeLine:=fun {_ _}=>by show 2≤sizeLine;decide
 refine⟨_,rfl,_,_,rfl,x,12,rfl,rfl,by decide,by decide,fun m m0 m1=>⟨_,_,rfl,rfl,(by show(0:Int)<19;decide),?_⟩⟩
 have t0:0≤m%19:=by omega
 have t19:m%19<19:=by omega
 generalize m%19=t at *
 refine⟨_,rfl,_,rfl,_,_,rfl,x,13,rfl,rfl,by decide,by decide,fun nb nb0 _=>⟨_,rfl,_,_,_,rfl,kept,spare,nb,x,B,hs,rfl,nb0,rfl,fun u1 l1 n1 w1 H1 S1 et1 F1 R1=>?_⟩⟩
 refine⟨u1,_,rfl,SqT.of et1,rfl,_,_,rfl,_,_,rfl,rfl,?_⟩
 refine⟨_,rfl,_,rfl,_,_,rfl,x,14,rfl,rfl,by decide,by decide,fun nc nc0 _=>⟨_,rfl,_,_,rfl,rfl,⟨by decide,by decide⟩,_,_,_,rfl,kept,spare,nc,_,B.up S1,hs,rfl,nc0,rfl,fun u2 l2 n2 w2 H2 S2 et2 F2 R2=>?_⟩⟩
 refine⟨u2,_,rfl,SqT.of et2,rfl,_,_,rfl,_,_,rfl,rfl,?_⟩
 have S12:=S1.trans S2
 have F1:=F1.up S2
 have R1:S60 H2 (.ref l1):=by
  obtain⟨l,ns,e,el,h⟩:=R1
  exact⟨l,ns,e,S2 _ _ el,h⟩
 refine⟨_,rfl,(by show 1≤sizeLine;decide),fun pw fw=>?_⟩
 have NW:=zd.new (o:=.lst [.str (lw w1)]) fw
 refine⟨fun σ H'=>∃pw,zd H2 H'∧σ=[some (.ref tb),some (.int x),some (.int t),some (.ref l1),some (.str (lw w1)),some (.ref l2),some (.str (lw w2)),some (.ref pw),none,none]∧H' pw=some (.lst ((wds t w1 w2).map fun x=>V.str (lw x))),?_,?_⟩
 rotate_left
 ·have d2:(8≤t∧t<12)∨16<t→wds t w1 w2=[w1,w2]:=fun h=>if_pos h
  have d1:¬((8≤t∧t<12)∨16<t)→wds t w1 w2=[w1]:=fun h=>if_neg h
  have S':=NW.upd (o:=.lst [.str (lw w1),.str (lw w2)]) fw
  refine⟨_,rfl,_,_,rfl,rfl,_,rfl,?_⟩
  by_cases h8:8≤t
  ·rw[decide_eq_true h8]
   refine zV ⟨_,_,rfl,rfl,_,rfl,?_⟩
   by_cases h12:t<12
   ·rw[decide_eq_true h12]
    exact zV (zV ⟨_,rfl,.inl ⟨rfl,_,SqL.of zc⟩,_,rfl,pw,_,_,rfl,rfl,zc,(by show 1<sizeLine;decide),pw,S',rfl,by rw[d2 (.inl ⟨h8,h12⟩)];exact zc⟩)
   ·rw[decide_eq_false h12]
    refine jd ⟨_,rfl,_,_,rfl,rfl,_,rfl,?_⟩
    by_cases h16:16<t
    ·rw[decide_eq_true h16]
     exact zV ⟨_,rfl,.inl ⟨rfl,_,SqL.of zc⟩,_,rfl,pw,_,_,rfl,rfl,zc,(by show 1<sizeLine;decide),pw,S',rfl,by rw[d2 (.inr h16)];exact zc⟩
    ·rw[decide_eq_false h16]
     exact jd ⟨pw,NW,rfl,by rw[d1 (by omega)];exact zc⟩
  ·rw[decide_eq_false h8]
   refine jd ⟨_,rfl,jd ⟨_,rfl,_,_,rfl,rfl,_,rfl,?_⟩⟩
   rw[decide_eq_false (show ¬16<t by omega)]
   exact jd ⟨pw,NW,rfl,by rw[d1 (by omega)];exact zc⟩
 clear pw fw NW
 rintro _ H3 ⟨pw,S3,rfl,ew⟩
 have S13:=S12.trans S3
 have F1:=F1.up S3
 have F2:=F2.up S3
 obtain⟨_,ns1,e1',e1,len1,f1,W1⟩:=F1
 obtain⟨_,ns2,e2',e2,len2,f2,W2⟩:=F2
 cases e1';cases e2'
 obtain⟨_,ns1',e3',e3,r60⟩:=R1
 cases e3'
 have e3:=S3 _ _ e3
 have en:ns1'=ns1:=by
  rw[e1]at e3
  have:ns1.map V.int=ns1'.map V.int:=by injection (Option.some.inj e3)
  exact(zal this).symm
 subst en
 refine⟨_,rfl,l1,_,rfl,.inl (SqL.of e1),fun h1 g1=>?_⟩
 have N1:=zd.new (o:=.lst (ns1'.map V.int)) g1
 refine⟨_,rfl,l2,_,rfl,.inl (SqL.of (N1 _ _ e2)),fun h2 g2=>?_⟩
 have N2:=zd.new (o:=.lst (ns2.map V.int)) g2
 refine⟨two,fun ph gh=>?_⟩
 have N3:=zd.new (o:=.lst [.ref h1,.ref h2]) gh
 have A3:=N1.trans (N2.trans N3)
 have eh1:=(N2.trans N3) _ _ (zc (H:=H3) (a:=h1) (o:=.lst (ns1'.map V.int)))
 have eh2:=N3 _ _ (zc (a:=h2) (o:=.lst (ns2.map V.int)))
 have eh:=zc (H:=upd (upd H3 h1 (.lst (ns1'.map V.int))) h2 (.lst (ns2.map V.int))) (a:=ph) (o:=.lst [.ref h1,.ref h2])
 generalize upd (upd (upd H3 h1 (.lst (ns1'.map V.int))) h2 (.lst (ns2.map V.int))) ph (.lst [.ref h1,.ref h2])=H4 at *
 have S14:=S13.trans A3
 refine⟨_,rfl,_,rfl,_,rfl,ph,_,_,_,rfl,rfl,SqL.of eh,rfl,_,rfl,ph,_,_,_,rfl,rfl,SqL.of eh,rfl,_,_,_,_,rfl,kept,spare,t,n1,n2,w1,w2,B.up S14,rfl,t0,t19,⟨h1,ns1',rfl,eh1,len1,f1,W1⟩,⟨h2,ns2,rfl,eh2,len2,f2,W2⟩,⟨h1,ns1',rfl,eh1,r60⟩,fun wd hw H5 S5=>?_⟩
 refine⟨_,rfl,_,rfl,_,rfl,two,fun pq fq=>?_⟩
 have N6:=zd.new (o:=.lst [.ref l1,.ref l2]) fq
 have A5:=A3.trans S5
 refine⟨_,_,zkg (as:=[h1,h2]) (fs:=[ns1',ns2]) ((S5.trans N6) _ _ eh) (.cons ((S5.trans N6) _ _ eh1) (.cons ((S5.trans N6) _ _ eh2) .nil)),zkg (as:=[l1,l2]) (fs:=[ns1',ns2]) zc (.cons ((A5.trans N6) _ _ e1) (.cons ((A5.trans N6) _ _ e2) .nil)),zbv _,zbv _,_,rfl,?_⟩
 rw[zkR]
 refine jd ?_
 have A6:=A5.trans N6
 have ew6:=A6 _ _ ew
 have S16:=S13.trans A6
 refine⟨_,rfl,pw,_,rfl,.inl (SqL.of ew6),rfl,zff _,_,rfl,?_⟩
 show(if inV (.str "bad") ((wds t w1 w2).map fun x=>V.str (lw x))=true then _ else _)
 rw[zkk]
 by_cases hb':("figure":Str)∈wds t w1 w2
 ·rw[decide_eq_true (zix.mpr hb')]
  refine zV ⟨_,rfl,rfl,?_⟩
  have e:wd="bad":=by
   cases hw with
   |bad _=>rfl
   |wrong h _ _=>exact absurd hb' h
   |none h _=>exact absurd hb' h
   |great _ h _=>exact absurd hb' h
  have:=k _ S16
  rw[←eqS e]at this
  exact this
 rw[decide_eq_false (fun z=>hb' (zix.mp z))]
 refine jd ⟨fun σ H'=>σ=[some (.ref tb),some (.int x),some (.int t),some (.ref l1),some (.str (lw w1)),some (.ref l2),some (.str (lw w2)),some (.ref pw),some (.ref ph),some (.str wd)]∧zd H H'∧(wd="none"∨wd="great"∧grt t),?_,?_⟩
 ·rintro _ H7 ⟨rfl,S7,rfl|⟨rfl,hg⟩⟩
  ·exact⟨_,rfl,rfl,_,rfl,Zc (eqS rfl) (k _ S7)⟩
  refine⟨_,rfl,rfl,_,rfl,Jz (neS (by decide)) ⟨_,rfl,rfl,_,rfl,Zc (eqS rfl) ⟨_,rfl,_,_,rfl,rfl,_,rfl,?_⟩⟩⟩
  rcases hg with⟨h9,h12⟩|h3|h16
  ·exact Zc (decide_eq_true h9) ⟨_,_,rfl,rfl,_,rfl,Zc (decide_eq_true h12) (k _ S7)⟩
  ·exact Jz (decide_eq_false (by omega)) ⟨_,rfl,jd ⟨_,rfl,rfl,_,rfl,Zc (decide_eq_true (by rw[h3])) (k _ S7)⟩⟩
  ·have:=k _ S7
   rw[←decide_eq_true h16]at this
   exact Zc (decide_eq_true (by omega)) ⟨_,_,rfl,rfl,_,rfl,Jz (decide_eq_false (by omega)) ⟨_,rfl,rfl,_,rfl,Jz (decide_eq_false (fun z=>by have:=V.int.inj z;omega)) ⟨_,rfl,_,_,rfl,rfl,this⟩⟩⟩
 refine⟨_,rfl,pw,_,rfl,.inl (SqL.of ew6),rfl,zff _,_,rfl,?_⟩
 show(if inV (.str "wrong") ((wds t w1 w2).map fun x=>V.str (lw x))=true then _ else _)
 rw[zkk]
 have an:(("wrong":Str)∉wds t w1 w2∨(5≤t∧t<8))→wd="none"∨wd="great"∧grt t:=fun h=>by
  cases hw with
  |bad h'=>exact absurd h' hb'
  |wrong _ h' a=>exact h.elim (fun z=>absurd h' z) fun z=>absurd z a
  |none _ _=>exact .inl rfl
  |great g _ _=>exact .inr ⟨rfl,g⟩
 by_cases hw':("wrong":Str)∈wds t w1 w2
 ·have wr:¬(5≤t∧t<8)→Q (.bl (decide (V.str wd=V.str "wrong"))) _:=fun h=>by
   have e:wd="wrong":=by
    cases hw with
    |bad h'=>exact absurd h' hb'
    |wrong _ _ _=>rfl
    |none _ h'=>exact h'.elim (fun z=>absurd hw' z) fun z=>absurd z h
    |great _ _ h'=>exact absurd hw' h'
   have:=k _ S16
   rw[←eqS e]at this
   exact this
  rw[decide_eq_true (zen.mpr hw')]
  refine zV ⟨_,rfl,_,_,rfl,rfl,_,rfl,?_⟩
  by_cases h5:5≤t
  ·rw[decide_eq_true h5]
   refine zV ⟨_,_,rfl,rfl,_,rfl,?_⟩
   by_cases h8:t<8
   ·rw[decide_eq_true h8]
    exact jd ⟨rfl,S16,an (.inr ⟨h5,h8⟩)⟩
   ·rw[decide_eq_false h8]
    exact zV ⟨_,rfl,rfl,wr (by omega)⟩
  ·rw[decide_eq_false h5]
   exact jd ⟨_,rfl,zV ⟨_,rfl,rfl,wr (by omega)⟩⟩
 ·rw[decide_eq_false (fun z=>hw' (zen.mp z))]
  exact jd (jd ⟨rfl,S16,an (.inl hw')⟩)
end
section
variable {P:Program}{w:World}{K:xb}{mg:Str→Option Value}{base:Heap}{cR cT cB cW cD cP cA cU cI cG cX:Addr}
noncomputable abbrev ZM:Stmt:=top 85
theorem Yo:zu ["_law_script","_law_base","_law_cell","_law_row","_law_made"] ["_law_script"] (ze ZM):=⟨rfl,rfl,rfl,by decide +kernel,rfl,by decide +kernel,by decide +kernel⟩
theorem zjM (T:Txt K mg cR cT cB cW cD cP cA cU cI cG cX)(C:CM K cR cT cB cW cD cP cA cU cI cG cX)(F_BadText:zdN P w K mg base "BadText" cX "row" 1)(F_RowTooGreat:zdN P w K mg base "RowTooGreat" cG "row" 1)(F__law_wide_base:FnS P w K mg base "_law_wide_base" ["_law_number"] 3 zfh)(F__law_mixed:FnS P w K mg base "_law_mixed" ["_law_number","_law_k"] 1 ZZ)(F__law_cell_at:FnS P w K mg base "_law_cell_at" ["_law_script","_law_k"] 1 (zbc K))
  (F__law_right:FnS P w K mg base "_law_right" ["_law_base","_law_cell"] 50 zbo) (F__law_word_of:FnS P w K mg base "_law_word_of" ["_law_caught"] 1 (Yl K cR cT cB cW cD cP cA cU cI cG cX)) :
  zmP P w K mg base ["_law_script","_law_base","_law_cell","_law_row","_law_made"] "law" ZM 51 (zbi K):=by
 intro f cdv A outer s H vs Q E hr h
 obtain⟨_,rfl,l,ns0,rfl,hq,h63,k⟩:=h
 refine⟨_,(zf (zn (i:=1) Yo.nd rfl (Or.inl rfl) (cFn F__law_wide_base hr zw (ac (cFn F__law_mixed hr zw (ac (cFn F__law_cell_at hr zw (ac (pv 0) (ac zg zb))) (ac zg zb))) zb)))
   (zf (jW zY rfl (jg (zi qo (zJ (ac zg zb)) (qx zeX (pv 0) (qV zg) qW))) (zE (i:=2) Yo.nd rfl (Or.inl rfl))
    (zf (zN (J4 (Z4 (cFn F__law_right hr zw (ac (pv 1) (ac (pv 2) zb)))))
     (zh (zk Qk))
     zA)
    (zf (zn (i:=3) Yo.nd rfl (Or.inl rfl) (zi zQ (pv 2) (zi zaX zg zg)))
    (zf (zn (i:=4) Yo.nd rfl (Or.inl rfl) (zJ (ac (zgX F_BadText hr (ac (pv 3) zb)) (ac (zgX F_RowTooGreat hr (ac (pv 3) zb)) zb))))
    (zh (zN (PW.pt (YU (zx (zbQ K hr.units) (Jj (lv:=1) (caps:=[]) (N':=["_law_one"]) rfl (zW.alone rfl (by decide +kernel) (by decide +kernel) rfl) (zZ (by decide)) (jg (pv 4)) (fun _ _ _ _=>zE (i:=0) (show(["_law_one"]:List Str).Nodup by decide +kernel) rfl (Or.inl rfl)) (fun _ _ _ _=>(zk1 K (pv 0)))) (zJ (ac (pv 3) (ac (pv 3) zb))) (zD _)) (Yt (zx (zbQ K hr.units) (Jj (lv:=1) (caps:=[]) (N':=["_law_one"]) rfl (zW.alone rfl (by decide +kernel) (by decide +kernel) rfl) (zZ (by decide)) (jg (pv 4)) (fun _ _ _ _=>zE (i:=0) (show(["_law_one"]:List Str).Nodup by decide +kernel) rfl (Or.inl rfl)) (fun _ _ _ _=>(cFn F__law_word_of hr zw (ac (pv 0) zb)))) (zJ (ac zO (ac zO zb))) (zD _)))))
     (zh (zk Qk))
     zA))))))
   (zh (zk Qk)))),?_⟩
 try (set_option simprocs false in dsimp only[zr])
 have two:∀{a:V} {b:V},([a,b]:List V).length≤sizeLine:=fun {_ _}=>by show 2≤sizeLine;decide
 refine⟨_,rfl,_,_,rfl,l,ns0,0,rfl,rfl,hq,by decide,fun c0=>⟨_,_,rfl,c0,8,rfl,rfl,by decide,by decide,fun n8 _ _=>⟨_,rfl,n8,rfl,fun kept spare tb H1 gb hs S1 hb=>?_⟩⟩⟩
 have B1:Bas H1 (.ref tb) kept spare:=⟨⟨tb,rfl,hb⟩,gb⟩
 have s100:(100:Nat)≤sizeLine:=by decide
 refine⟨(by show 1≤sizeLine;decide),fun p1 g1=>⟨_,rfl,_,rfl,l,_,rfl,(zd.new g1).seq (S1.seq hq),fun p2 g2=>?_⟩⟩
 rw[Q1 (by decide)]
 have n12:p1≠p2:=by rintro rfl;rw[zc]at g2;cases g2
 refine⟨p1,p2,_,_,rfl,rfl,SqL.of (by rw[zC n12];exact zc),SqL.of zc,?_,fun p3 g3=>⟨p3,rfl,⟨_,SqL.of zc⟩,?_⟩⟩
 ·rw[xa,yB];show 1+_≤_;omega
 have SG:=((zd.new g1).trans (zd.new g2)).trans (zd.new (o:=.lst ([V.int 0]++(ns0.drop (1:Int).toNat).map V.int)) g3)
 revert SG
 generalize hG:upd _ p3 _=G
 intro SG
 have eG:G p3=some (.lst ([V.int 0]++(ns0.drop (1:Int).toNat).map V.int)):=by rw[←hG,zc]
 have BG:=B1.up SG
 refine qQ (K:=K) (xs:=(0::ns0.drop (1:Int).toNat).map V.int) (fun i σ H'=>∃y2 y3 y4,σ=[some (.ref l),some (.ref tb),y2,y3,y4]∧zd G H') ⟨none,none,none,rfl,zd.refl G⟩ (fun i σ H' _ ⟨_,_,_,_,S⟩=>SqL.of (S _ _ eG)) ?_ ?_
 rotate_left
 ·rintro σ H2 ⟨y2,y3,y4,rfl,S2⟩
  exact k H2
 rintro i x σ H2 hx ⟨y2,y3,y4,rfl,S2⟩
 obtain⟨z,hz,rfl⟩:=j7 hx
 refine⟨_,rfl,_,rfl,_,_,rfl,kept,spare,z,BG.up S2,hs,rfl,fun H3 S3=>⟨_,rfl,jd ?_⟩⟩
 refine⟨_,rfl,_,_,rfl,rfl,⟨by decide,by decide,by decide⟩,_,_,rfl,rfl,(by show(0:Int)<10^(6:Int).toNat;decide),?_⟩
 generalize z%10^(6:Int).toNat=row
 have S23:=S2.trans S3
 refine⟨_,rfl,_,rfl,fun x1 d1 fx1 fd1 ne1=>?_⟩
 have D1:=zd.new (o:=.xd [("row",.int row)]) fd1
 have fx1':upd H3 d1 (.xd [("row",.int row)]) x1=none:=by rw[zC (Ne.symm ne1)];exact fx1
 have X1:=zd.new (o:=.ext (jF x1 cX (some d1))) fx1'
 have ed1:=X1 _ _ (zc (H:=H3) (a:=d1) (o:=.xd [("row",.int row)]))
 have ex1:=zc (H:=upd H3 d1 (.xd [("row",.int row)])) (a:=x1) (o:=.ext (jF x1 cX (some d1)))
 have A1:=D1.trans X1
 generalize upd (upd H3 d1 (.xd [("row",.int row)])) x1 (.ext (jF x1 cX (some d1)))=H4 at *
 refine⟨_,rfl,_,rfl,fun x2 d2 fx2 fd2 ne2=>?_⟩
 have D2:=zd.new (o:=.xd [("row",.int row)]) fd2
 have fx2':upd H4 d2 (.xd [("row",.int row)]) x2=none:=by rw[zC (Ne.symm ne2)];exact fx2
 have X2:=zd.new (o:=.ext (jF x2 cG (some d2))) fx2'
 have ed2:=X2 _ _ (zc (H:=H4) (a:=d2) (o:=.xd [("row",.int row)]))
 have ex2:=zc (H:=upd H4 d2 (.xd [("row",.int row)])) (a:=x2) (o:=.ext (jF x2 cG (some d2)))
 have A2:=D2.trans X2
 have ed1:=A2 _ _ ed1
 have ex1:=A2 _ _ ex1
 generalize upd (upd H4 d2 (.xd [("row",.int row)])) x2 (.ext (jF x2 cG (some d2)))=H5 at *
 refine⟨two,fun pm fm=>?_⟩
 have NM:=zd.new (o:=.lst [.ref x1,.ref x2]) fm
 have em:=zc (H:=H5) (a:=pm) (o:=.lst [.ref x1,.ref x2])
 have ed1:=NM _ _ ed1
 have ex1:=NM _ _ ex1
 have ed2:=NM _ _ ed2
 have ex2:=NM _ _ ex2
 have S6:=S23.trans (A1.trans (A2.trans NM))
 generalize upd H5 pm (.lst [.ref x1,.ref x2])=H6 at *
 refine⟨_,rfl,pm,rfl,⟨_,SqL.of em⟩,Zw (K:=K) (SqL.of em) (by show 2<sizeLine;decide) (fun _=>.int row) ?_ ?_⟩
 ·intro x hx H' Q' S q
  rcases xt.mp hx with rfl|hx
  ·exact⟨_,rfl,x1,cX,d1,_,.int row,rfl,S _ _ ex1,S _ _ ed1,C.fx,rfl,q _ (zd.refl _)⟩
  ·obtain rfl:=xo.mp hx
   exact⟨_,rfl,x2,cG,d2,_,.int row,rfl,S _ _ ex2,S _ _ ed2,C.fg,rfl,q _ (zd.refl _)⟩
 intro q1 H7 hq1 S7 e7
 refine⟨_,rfl,_,rfl,two,fun q2 f2=>?_⟩
 have N8:=zd.new (o:=.lst [.int row,.int row]) f2
 have e7:H7 q1=some (.lst ([row,row].map V.int)):=e7
 refine⟨_,_,rdL (xs:=[row,row]) (N8 _ _ e7),rdL (xs:=[row,row]) zc,Ji _,Ji _,_,rfl,?_⟩
 rw[Q4,decide_eq_true rfl]
 refine jd ?_
 have S8:=S7.trans N8
 have em8:=S8 _ _ em
 refine⟨_,rfl,pm,rfl,⟨_,SqL.of em8⟩,Zw (K:=K) (SqL.of em8) (by show 2<sizeLine;decide) (fun _=>.str "other") ?_ ?_⟩
 ·intro x hx H' Q' S q
  rcases xt.mp hx with rfl|hx
  ·exact⟨_,rfl,_,rfl,.exc x1 cX (some d1) 9 rfl ((S8.trans S) _ _ ex1) C.x (by decide) fun H2 S2=>q H2 S2⟩
  ·obtain rfl:=xo.mp hx
   exact⟨_,rfl,_,rfl,.exc x2 cG (some d2) 8 rfl ((S8.trans S) _ _ ex2) C.g (by decide) fun H2 S2=>q H2 S2⟩
 intro q3 H9 hq3 S9 e9
 have e9:H9 q3=some (.lst [.str "other",.str "other"]):=e9
 refine⟨two,fun q4 f4=>?_⟩
 have N10:=zd.new (o:=.lst [.str "other",.str "other"]) f4
 refine⟨_,_,.lst (SqL.of (N10 _ _ e9)) (.cons (.str "other") (.cons (.str "other") .nil)),.lst (SqL.of zc) (.cons (.str "other") (.cons (.str "other") .nil)),by decide +kernel,by decide +kernel,_,rfl,?_⟩
 refine Jz (by decide +kernel) ?_
 exact⟨_,_,_,rfl,S6.trans (S8.trans (S9.trans N10))⟩
end
section
variable {P:Program}{w:World}{K:xb}{mg:Str→Option Value}{base:Heap}{cR cT cB cW cD cP cA cU cI cG cX:Addr}
noncomputable def zko (s:Stmt)(i:Nat):Stmt:=match s with
 | .ClassDef _ _ _ body _ _ _ _ _ _ _=>body.getD i (.Pass ⟨0,0,0,0⟩)
 |_=>s
noncomputable abbrev Zu:Stmt:=zko (top 11) 0
theorem zlf:zu ["self","row"] ["self","row"] (ze Zu):=⟨rfl,rfl,rfl,by decide +kernel,rfl,by decide +kernel,by decide +kernel⟩
theorem zkY {fI:Addr}{fd:FuncData}(F:Fun K "__init__" "BadText.__init__" Zu fI fd)(G:ZW K cX "row"):Jw P w K mg base (CX1 P w) 1 fI fd ["self","row"] (zbg cX "row"):=by
 refine F.okX zlf (fun vs H Q E h=>by obtain⟨_,_,rfl,_⟩:=h;rfl) fun cdv A outer s H vs Q E hr h=>?_
 obtain⟨_,_,rfl,e,rfl,he,q⟩:=h
 refine⟨_,(zh (zhd (pv 0) (pv 1) rfl)),?_⟩
 exact⟨_,rfl,_,rfl,e,cX,rfl,he,G,fun d hd=>q d hd⟩
theorem zmH {fI:Addr}{oc:Value}{od an:Option Addr}{osl:Array (Option Value)}{kV doc pm cdv ct:Value}(T:Txt K mg cR cT cB cW cD cP cA cU cI cG cX)(G:ZW K cX "row")(hq:Z9 K cX fI bmV "ValueError.__new__"=true)(hfn:uv K (.ref fI)=true)
  (l:K.lookup fI=some ⟨oc,od,.func (xn "__init__" "BadText.__init__" (zp Zu) (zm Zu) (ze Zu) .none kV doc pm an cdv ct),osl⟩) (c:xk K cdv "BadText.__init__"=true) (kp:xj K (.ref fI)=true):zdN P w K mg base "BadText" cX "row" 1 :=
 ⟨fI,_,"row",hq,T.BadText,hfn,zkY (za9 l c kp) G,.all fun us hl=>by
  match us,hl with
  | [a,b],_=>rfl⟩
noncomputable abbrev JY:Stmt:=zko (top 10) 0
theorem zjw:zu ["self","row"] ["self","row"] (ze JY):=⟨rfl,rfl,rfl,by decide +kernel,rfl,by decide +kernel,by decide +kernel⟩
theorem zjT {fI:Addr}{fd:FuncData}(F:Fun K "__init__" "RowTooGreat.__init__" JY fI fd)(G:ZW K cG "row"):Jw P w K mg base (CX1 P w) 1 fI fd ["self","row"] (zbg cG "row"):=by
 refine F.okX zjw (fun vs H Q E h=>by obtain⟨_,_,rfl,_⟩:=h;rfl) fun cdv A outer s H vs Q E hr h=>?_
 obtain⟨_,_,rfl,e,rfl,he,q⟩:=h
 refine⟨_,(zh (zhd (pv 0) (pv 1) rfl)),?_⟩
 exact⟨_,rfl,_,rfl,e,cG,rfl,he,G,fun d hd=>q d hd⟩
theorem zmZ {fI:Addr}{oc:Value}{od an:Option Addr}{osl:Array (Option Value)}{kV doc pm cdv ct:Value}(T:Txt K mg cR cT cB cW cD cP cA cU cI cG cX)(G:ZW K cG "row")(hq:Z9 K cG fI bmV "ValueError.__new__"=true)(hfn:uv K (.ref fI)=true)
  (l:K.lookup fI=some ⟨oc,od,.func (xn "__init__" "RowTooGreat.__init__" (zp JY) (zm JY) (ze JY) .none kV doc pm an cdv ct),osl⟩) (c:xk K cdv "RowTooGreat.__init__"=true) (kp:xj K (.ref fI)=true):zdN P w K mg base "RowTooGreat" cG "row" 1 :=
 ⟨fI,_,"row",hq,T.RowTooGreat,hfn,zjT (za9 l c kp) G,.all fun us hl=>by
  match us,hl with
  | [a,b],_=>rfl⟩
end
end K28
namespace K28
open PySem L2 RF
theorem zlD {l:vq}{w:World}{K:xb}{h:Heap}{mg:Str→Option Value}{fa:Addr}(X:K.In h)(G:h.Ns mainGlobals mg)(hfa:mg "law"=some (.ref fa))
  {f0:Addr} {od0 an0:Option Addr} {sl0:Array (Option Value)} {oc0 kV0 dc0 pm0 cd0 ct0:Value}
  {f1:Addr} {od1 an1:Option Addr} {sl1:Array (Option Value)} {oc1 kV1 dc1 pm1 cd1 ct1:Value}
  {f2:Addr} {od2 an2:Option Addr} {sl2:Array (Option Value)} {oc2 kV2 dc2 pm2 cd2 ct2:Value}
  {f3:Addr} {od3 an3:Option Addr} {sl3:Array (Option Value)} {oc3 kV3 dc3 pm3 cd3 ct3:Value}
  {f4:Addr} {od4 an4:Option Addr} {sl4:Array (Option Value)} {oc4 kV4 dc4 pm4 cd4 ct4:Value}
  {f5:Addr} {od5 an5:Option Addr} {sl5:Array (Option Value)} {oc5 kV5 dc5 pm5 cd5 ct5:Value}
  {f6:Addr} {od6 an6:Option Addr} {sl6:Array (Option Value)} {oc6 kV6 dc6 pm6 cd6 ct6:Value}
  {f7:Addr} {od7 an7:Option Addr} {sl7:Array (Option Value)} {oc7 kV7 dc7 pm7 cd7 ct7:Value}
  {f8:Addr} {od8 an8:Option Addr} {sl8:Array (Option Value)} {oc8 kV8 dc8 pm8 cd8 ct8:Value}
  {f9:Addr} {od9 an9:Option Addr} {sl9:Array (Option Value)} {oc9 kV9 dc9 pm9 cd9 ct9:Value}
  {f10:Addr} {od10 an10:Option Addr} {sl10:Array (Option Value)} {oc10 kV10 dc10 pm10 cd10 ct10:Value}
  {f11:Addr} {od11 an11:Option Addr} {sl11:Array (Option Value)} {oc11 kV11 dc11 pm11 cd11 ct11:Value}
  {f12:Addr} {od12 an12:Option Addr} {sl12:Array (Option Value)} {oc12 kV12 dc12 pm12 cd12 ct12:Value}
  {f13:Addr} {od13 an13:Option Addr} {sl13:Array (Option Value)} {oc13 kV13 dc13 pm13 cd13 ct13:Value}
  {f14:Addr} {od14 an14:Option Addr} {sl14:Array (Option Value)} {oc14 kV14 dc14 pm14 cd14 ct14:Value}
  {f15:Addr} {od15 an15:Option Addr} {sl15:Array (Option Value)} {oc15 kV15 dc15 pm15 cd15 ct15:Value}
  {f16:Addr} {od16 an16:Option Addr} {sl16:Array (Option Value)} {oc16 kV16 dc16 pm16 cd16 ct16:Value}
  {f17:Addr} {od17 an17:Option Addr} {sl17:Array (Option Value)} {oc17 kV17 dc17 pm17 cd17 ct17:Value}
  {f18:Addr} {od18 an18:Option Addr} {sl18:Array (Option Value)} {oc18 kV18 dc18 pm18 cd18 ct18:Value}
  {f19:Addr} {od19 an19:Option Addr} {sl19:Array (Option Value)} {oc19 kV19 dc19 pm19 cd19 ct19:Value}
  {f20:Addr} {od20 an20:Option Addr} {sl20:Array (Option Value)} {oc20 kV20 dc20 pm20 cd20 ct20:Value}
  {f21:Addr} {od21 an21:Option Addr} {sl21:Array (Option Value)} {oc21 kV21 dc21 pm21 cd21 ct21:Value}
  {f22:Addr} {od22 an22:Option Addr} {sl22:Array (Option Value)} {oc22 kV22 dc22 pm22 cd22 ct22:Value}
  {f23:Addr} {od23 an23:Option Addr} {sl23:Array (Option Value)} {oc23 kV23 dc23 pm23 cd23 ct23:Value}
  {f24:Addr} {od24 an24:Option Addr} {sl24:Array (Option Value)} {oc24 kV24 dc24 pm24 cd24 ct24:Value}
  {f25:Addr} {od25 an25:Option Addr} {sl25:Array (Option Value)} {oc25 kV25 dc25 pm25 cd25 ct25:Value}
  {f26:Addr} {od26 an26:Option Addr} {sl26:Array (Option Value)} {oc26 kV26 dc26 pm26 cd26 ct26:Value}
  {f27:Addr} {od27 an27:Option Addr} {sl27:Array (Option Value)} {oc27 kV27 dc27 pm27 cd27 ct27:Value}
  {f28:Addr} {od28 an28:Option Addr} {sl28:Array (Option Value)} {oc28 kV28 dc28 pm28 cd28 ct28:Value}
  {f29:Addr} {od29 an29:Option Addr} {sl29:Array (Option Value)} {oc29 kV29 dc29 pm29 cd29 ct29:Value}
  {f30:Addr} {od30 an30:Option Addr} {sl30:Array (Option Value)} {oc30 kV30 dc30 pm30 cd30 ct30:Value}
  {f31:Addr} {od31 an31:Option Addr} {sl31:Array (Option Value)} {oc31 kV31 dc31 pm31 cd31 ct31:Value}
  {f32:Addr} {od32 an32:Option Addr} {sl32:Array (Option Value)} {oc32 kV32 dc32 pm32 cd32 ct32:Value}
  {f33:Addr} {od33 an33:Option Addr} {sl33:Array (Option Value)} {oc33 kV33 dc33 pm33 cd33 ct33:Value}
  {f34:Addr} {od34 an34:Option Addr} {sl34:Array (Option Value)} {oc34 kV34 dc34 pm34 cd34 ct34:Value}
  {f35:Addr} {od35 an35:Option Addr} {sl35:Array (Option Value)} {oc35 kV35 dc35 pm35 cd35 ct35:Value}
  {f36:Addr} {od36 an36:Option Addr} {sl36:Array (Option Value)} {oc36 kV36 dc36 pm36 cd36 ct36:Value}
  {f37:Addr} {od37 an37:Option Addr} {sl37:Array (Option Value)} {oc37 kV37 dc37 pm37 cd37 ct37:Value}
  {f38:Addr} {od38 an38:Option Addr} {sl38:Array (Option Value)} {oc38 kV38 dc38 pm38 cd38 ct38:Value}
  {f39:Addr} {od39 an39:Option Addr} {sl39:Array (Option Value)} {oc39 kV39 dc39 pm39 cd39 ct39:Value}
  {f40:Addr} {od40 an40:Option Addr} {sl40:Array (Option Value)} {oc40 kV40 dc40 pm40 cd40 ct40:Value}
  {f41:Addr} {od41 an41:Option Addr} {sl41:Array (Option Value)} {oc41 kV41 dc41 pm41 cd41 ct41:Value}
  {f42:Addr} {od42 an42:Option Addr} {sl42:Array (Option Value)} {oc42 kV42 dc42 pm42 cd42 ct42:Value}
  {f43:Addr} {od43 an43:Option Addr} {sl43:Array (Option Value)} {oc43 kV43 dc43 pm43 cd43 ct43:Value}
  {f44:Addr} {od44 an44:Option Addr} {sl44:Array (Option Value)} {oc44 kV44 dc44 pm44 cd44 ct44:Value}
  {f45:Addr} {od45 an45:Option Addr} {sl45:Array (Option Value)} {oc45 kV45 dc45 pm45 cd45 ct45:Value}
  {f46:Addr} {od46 an46:Option Addr} {sl46:Array (Option Value)} {oc46 kV46 dc46 pm46 cd46 ct46:Value}
  {f47:Addr} {od47 an47:Option Addr} {sl47:Array (Option Value)} {oc47 kV47 dc47 pm47 cd47 ct47:Value}
  {f48:Addr} {od48 an48:Option Addr} {sl48:Array (Option Value)} {oc48 kV48 dc48 pm48 cd48 ct48:Value}
  {f49:Addr} {od49 an49:Option Addr} {sl49:Array (Option Value)} {oc49 kV49 dc49 pm49 cd49 ct49:Value}
  {f50:Addr} {od50 an50:Option Addr} {sl50:Array (Option Value)} {oc50 kV50 dc50 pm50 cd50 ct50:Value}
  {f51:Addr} {od51 an51:Option Addr} {sl51:Array (Option Value)} {oc51 kV51 dc51 pm51 cd51 ct51:Value}
  {f52:Addr} {od52 an52:Option Addr} {sl52:Array (Option Value)} {oc52 kV52 dc52 pm52 cd52 ct52:Value}
  {f53:Addr} {od53 an53:Option Addr} {sl53:Array (Option Value)} {oc53 kV53 dc53 pm53 cd53 ct53:Value}
  {f54:Addr} {od54 an54:Option Addr} {sl54:Array (Option Value)} {oc54 kV54 dc54 pm54 cd54 ct54:Value}
  {f55:Addr} {od55 an55:Option Addr} {sl55:Array (Option Value)} {oc55 kV55 dc55 pm55 cd55 ct55:Value}
  {f56:Addr} {od56 an56:Option Addr} {sl56:Array (Option Value)} {oc56 kV56 dc56 pm56 cd56 ct56:Value}
  {f57:Addr} {od57 an57:Option Addr} {sl57:Array (Option Value)} {oc57 kV57 dc57 pm57 cd57 ct57:Value}
  {f58:Addr} {od58 an58:Option Addr} {sl58:Array (Option Value)} {oc58 kV58 dc58 pm58 cd58 ct58:Value}
  {f59:Addr} {od59 an59:Option Addr} {sl59:Array (Option Value)} {oc59 kV59 dc59 pm59 cd59 ct59:Value}
  {f60:Addr} {od60 an60:Option Addr} {sl60:Array (Option Value)} {oc60 kV60 dc60 pm60 cd60 ct60:Value}
  {cR:Addr}
  {cT:Addr}
  {cB:Addr}
  {cW:Addr}
  {cD:Addr}
  {cP:Addr}
  {cA:Addr}
  {cU:Addr}
  {cI:Addr}
  {cG:Addr}
  {cX:Addr}
  {tk37:Tok}
  {tk38:Tok}
  {tk39:Tok}
  {tk40:Tok}
  {fI fJ:Addr} {odI anI odJ anJ:Option Addr} {slI slJ:Array (Option Value)} {ocI kVI dcI pmI cdI ctI ocJ kVJ dcJ pmJ cdJ ctJ:Value}
  (a0:xh K mainGlobals "common"=some (some (.ref f0))) (l0:K.lookup f0=some ⟨oc0,od0,.func (xn "common" "common" (zp JO) (zm JO) (ze JO) .none kV0 dc0 pm0 an0 cd0 ct0),sl0⟩) (c0:xk K cd0 "common"=true) (k0:xj K (.ref f0)=true)
  (a1:xh K mainGlobals "base_of"=some (some (.ref f1))) (l1:K.lookup f1=some ⟨oc1,od1,.func (xn "base_of" "base_of" (zp Jr) (zm Jr) (ze Jr) .none kV1 dc1 pm1 an1 cd1 ct1),sl1⟩) (c1:xk K cd1 "base_of"=true) (k1:xj K (.ref f1)=true)
  (a2:xh K mainGlobals "have_common_part"=some (some (.ref f2))) (l2:K.lookup f2=some ⟨oc2,od2,.func (xn "have_common_part" "have_common_part" (zp jw) (zm jw) (ze jw) .none kV2 dc2 pm2 an2 cd2 ct2),sl2⟩) (c2:xk K cd2 "have_common_part"=true) (k2:xj K (.ref f2)=true)
  (a3:xh K mainGlobals "divisors_of"=some (some (.ref f3))) (l3:K.lookup f3=some ⟨oc3,od3,.func (xn "divisors_of" "divisors_of" (zp qi) (zm qi) (ze qi) .none kV3 dc3 pm3 an3 cd3 ct3),sl3⟩) (c3:xk K cd3 "divisors_of"=true) (k3:xj K (.ref f3)=true)
  (a4:xh K mainGlobals "refuse_bad_places"=some (some (.ref f4))) (l4:K.lookup f4=some ⟨oc4,od4,.func (xn "refuse_bad_places" "refuse_bad_places" (zp jo) (zm jo) (ze jo) .none kV4 dc4 pm4 an4 cd4 ct4),sl4⟩) (c4:xk K cd4 "refuse_bad_places"=true) (k4:xj K (.ref f4)=true)
  (a5:xh K mainGlobals "product_of"=some (some (.ref f5))) (l5:K.lookup f5=some ⟨oc5,od5,.func (xn "product_of" "product_of" (zp qa) (zm qa) (ze qa) .none kV5 dc5 pm5 an5 cd5 ct5),sl5⟩) (c5:xk K cd5 "product_of"=true) (k5:xj K (.ref f5)=true)
  (a6:xh K mainGlobals "span_of"=some (some (.ref f6))) (l6:K.lookup f6=some ⟨oc6,od6,.func (xn "span_of" "span_of" (zp Js) (zm Js) (ze Js) .none kV6 dc6 pm6 an6 cd6 ct6),sl6⟩) (c6:xk K cd6 "span_of"=true) (k6:xj K (.ref f6)=true)
  (a7:xh K mainGlobals "lowest"=some (some (.ref f7))) (l7:K.lookup f7=some ⟨oc7,od7,.func (xn "lowest" "lowest" (zp JL) (zm JL) (ze JL) .none kV7 dc7 pm7 an7 cd7 ct7),sl7⟩) (c7:xk K cd7 "lowest"=true) (k7:xj K (.ref f7)=true)
  (a8:xh K mainGlobals "highest"=some (some (.ref f8))) (l8:K.lookup f8=some ⟨oc8,od8,.func (xn "highest" "highest" (zp Jt) (zm Jt) (ze Jt) .none kV8 dc8 pm8 an8 cd8 ct8),sl8⟩) (c8:xk K cd8 "highest"=true) (k8:xj K (.ref f8)=true)
  (a9:xh K mainGlobals "fits"=some (some (.ref f9))) (l9:K.lookup f9=some ⟨oc9,od9,.func (xn "fits" "fits" (zp Qe) (zm Qe) (ze Qe) .none kV9 dc9 pm9 an9 cd9 ct9),sl9⟩) (c9:xk K cd9 "fits"=true) (k9:xj K (.ref f9)=true)
  (a10:xh K mainGlobals "figure_of"=some (some (.ref f10))) (l10:K.lookup f10=some ⟨oc10,od10,.func (xn "figure_of" "figure_of" (zp qT) (zm qT) (ze qT) .none kV10 dc10 pm10 an10 cd10 ct10),sl10⟩) (c10:xk K cd10 "figure_of"=true) (k10:xj K (.ref f10)=true)
  (a11:xh K mainGlobals "number_of"=some (some (.ref f11))) (l11:K.lookup f11=some ⟨oc11,od11,.func (xn "number_of" "number_of" (zp qS) (zm qS) (ze qS) .none kV11 dc11 pm11 an11 cd11 ct11),sl11⟩) (c11:xk K cd11 "number_of"=true) (k11:xj K (.ref f11)=true)
  (a12:xh K mainGlobals "numbers_of"=some (some (.ref f12))) (l12:K.lookup f12=some ⟨oc12,od12,.func (xn "numbers_of" "numbers_of" (zp qd) (zm qd) (ze qd) .none kV12 dc12 pm12 an12 cd12 ct12),sl12⟩) (c12:xk K cd12 "numbers_of"=true) (k12:xj K (.ref f12)=true)
  (a13:xh K mainGlobals "is_right"=some (some (.ref f13))) (l13:K.lookup f13=some ⟨oc13,od13,.func (xn "is_right" "is_right" (zp Jb) (zm Jb) (ze Jb) .none kV13 dc13 pm13 an13 cd13 ct13),sl13⟩) (c13:xk K cd13 "is_right"=true) (k13:xj K (.ref f13)=true)
  (a14:xh K mainGlobals "rests_of"=some (some (.ref f14))) (l14:K.lookup f14=some ⟨oc14,od14,.func (xn "rests_of" "rests_of" (zp qG) (zm qG) (ze qG) .none kV14 dc14 pm14 an14 cd14 ct14),sl14⟩) (c14:xk K cd14 "rests_of"=true) (k14:xj K (.ref f14)=true)
  (a15:xh K mainGlobals "refuse_no_figures"=some (some (.ref f15))) (l15:K.lookup f15=some ⟨oc15,od15,.func (xn "refuse_no_figures" "refuse_no_figures" (zp jp) (zm jp) (ze jp) .none kV15 dc15 pm15 an15 cd15 ct15),sl15⟩) (c15:xk K cd15 "refuse_no_figures"=true) (k15:xj K (.ref f15)=true)
  (a16:xh K mainGlobals "refuse_no_figure"=some (some (.ref f16))) (l16:K.lookup f16=some ⟨oc16,od16,.func (xn "refuse_no_figure" "refuse_no_figure" (zp jt) (zm jt) (ze jt) .none kV16 dc16 pm16 an16 cd16 ct16),sl16⟩) (c16:xk K cd16 "refuse_no_figure"=true) (k16:xj K (.ref f16)=true)
  (a17:xh K mainGlobals "number_by_kept"=some (some (.ref f17))) (l17:K.lookup f17=some ⟨oc17,od17,.func (xn "number_by_kept" "number_by_kept" (zp jB) (zm jB) (ze jB) .none kV17 dc17 pm17 an17 cd17 ct17),sl17⟩) (c17:xk K cd17 "number_by_kept"=true) (k17:xj K (.ref f17)=true)
  (a18:xh K mainGlobals "number_by_rests"=some (some (.ref f18))) (l18:K.lookup f18=some ⟨oc18,od18,.func (xn "number_by_rests" "number_by_rests" (zp jn) (zm jn) (ze jn) .none kV18 dc18 pm18 an18 cd18 ct18),sl18⟩) (c18:xk K cd18 "number_by_rests"=true) (k18:xj K (.ref f18)=true)
  (a19:xh K mainGlobals "inverse"=some (some (.ref f19))) (l19:K.lookup f19=some ⟨oc19,od19,.func (xn "inverse" "inverse" (zp Jy) (zm Jy) (ze Jy) .none kV19 dc19 pm19 an19 cd19 ct19),sl19⟩) (c19:xk K cd19 "inverse"=true) (k19:xj K (.ref f19)=true)
  (a20:xh K mainGlobals "put_in"=some (some (.ref f20))) (l20:K.lookup f20=some ⟨oc20,od20,.func (xn "put_in" "put_in" (zp JU) (zm JU) (ze JU) .none kV20 dc20 pm20 an20 cd20 ct20),sl20⟩) (c20:xk K cd20 "put_in"=true) (k20:xj K (.ref f20)=true)
  (a21:xh K mainGlobals "taken_out"=some (some (.ref f21))) (l21:K.lookup f21=some ⟨oc21,od21,.func (xn "taken_out" "taken_out" (zp j9) (zm j9) (ze j9) .none kV21 dc21 pm21 an21 cd21 ct21),sl21⟩) (c21:xk K cd21 "taken_out"=true) (k21:xj K (.ref f21)=true)
  (a22:xh K mainGlobals "added"=some (some (.ref f22))) (l22:K.lookup f22=some ⟨oc22,od22,.func (xn "added" "added" (zp Zk) (zm Zk) (ze Zk) .none kV22 dc22 pm22 an22 cd22 ct22),sl22⟩) (c22:xk K cd22 "added"=true) (k22:xj K (.ref f22)=true)
  (a23:xh K mainGlobals "taken"=some (some (.ref f23))) (l23:K.lookup f23=some ⟨oc23,od23,.func (xn "taken" "taken" (zp Zn) (zm Zn) (ze Zn) .none kV23 dc23 pm23 an23 cd23 ct23),sl23⟩) (c23:xk K cd23 "taken"=true) (k23:xj K (.ref f23)=true)
  (a24:xh K mainGlobals "multiplied"=some (some (.ref f24))) (l24:K.lookup f24=some ⟨oc24,od24,.func (xn "multiplied" "multiplied" (zp qq) (zm qq) (ze qq) .none kV24 dc24 pm24 an24 cd24 ct24),sl24⟩) (c24:xk K cd24 "multiplied"=true) (k24:xj K (.ref f24)=true)
  (a25:xh K mainGlobals "turned"=some (some (.ref f25))) (l25:K.lookup f25=some ⟨oc25,od25,.func (xn "turned" "turned" (zp JT) (zm JT) (ze JT) .none kV25 dc25 pm25 an25 cd25 ct25),sl25⟩) (c25:xk K cd25 "turned"=true) (k25:xj K (.ref f25)=true)
  (a26:xh K mainGlobals "quotient"=some (some (.ref f26))) (l26:K.lookup f26=some ⟨oc26,od26,.func (xn "quotient" "quotient" (zp Jc) (zm Jc) (ze Jc) .none kV26 dc26 pm26 an26 cd26 ct26),sl26⟩) (c26:xk K cd26 "quotient"=true) (k26:xj K (.ref f26)=true)
  (a27:xh K mainGlobals "rest"=some (some (.ref f27))) (l27:K.lookup f27=some ⟨oc27,od27,.func (xn "rest" "rest" (zp Qb) (zm Qb) (ze Qb) .none kV27 dc27 pm27 an27 cd27 ct27),sl27⟩) (c27:xk K cd27 "rest"=true) (k27:xj K (.ref f27)=true)
  (a28:xh K mainGlobals "number_to_divide"=some (some (.ref f28))) (l28:K.lookup f28=some ⟨oc28,od28,.func (xn "number_to_divide" "number_to_divide" (zp ju) (zm ju) (ze ju) .none kV28 dc28 pm28 an28 cd28 ct28),sl28⟩) (c28:xk K cd28 "number_to_divide"=true) (k28:xj K (.ref f28)=true)
  (a29:xh K mainGlobals "scaled"=some (some (.ref f29))) (l29:K.lookup f29=some ⟨oc29,od29,.func (xn "scaled" "scaled" (zp Jn) (zm Jn) (ze Jn) .none kV29 dc29 pm29 an29 cd29 ct29),sl29⟩) (c29:xk K cd29 "scaled"=true) (k29:xj K (.ref f29)=true)
  (a30:xh K mainGlobals "digits"=some (some (.ref f30))) (l30:K.lookup f30=some ⟨oc30,od30,.func (xn "digits" "digits" (zp JQ) (zm JQ) (ze JQ) .none kV30 dc30 pm30 an30 cd30 ct30),sl30⟩) (c30:xk K cd30 "digits"=true) (k30:xj K (.ref f30)=true)
  (a31:xh K mainGlobals "sign"=some (some (.ref f31))) (l31:K.lookup f31=some ⟨oc31,od31,.func (xn "sign" "sign" (zp Z6) (zm Z6) (ze Z6) .none kV31 dc31 pm31 an31 cd31 ct31),sl31⟩) (c31:xk K cd31 "sign"=true) (k31:xj K (.ref f31)=true)
  (a32:xh K mainGlobals "compared"=some (some (.ref f32))) (l32:K.lookup f32=some ⟨oc32,od32,.func (xn "compared" "compared" (zp Je) (zm Je) (ze Je) .none kV32 dc32 pm32 an32 cd32 ct32),sl32⟩) (c32:xk K cd32 "compared"=true) (k32:xj K (.ref f32)=true)
  (a33:xh K mainGlobals "sign_of"=some (some (.ref f33))) (l33:K.lookup f33=some ⟨oc33,od33,.func (xn "sign_of" "sign_of" (zp Ju) (zm Ju) (ze Ju) .none kV33 dc33 pm33 an33 cd33 ct33),sl33⟩) (c33:xk K cd33 "sign_of"=true) (k33:xj K (.ref f33)=true)
  (a34:xh K mainGlobals "mended"=some (some (.ref f34))) (l34:K.lookup f34=some ⟨oc34,od34,.func (xn "mended" "mended" (zp JN) (zm JN) (ze JN) .none kV34 dc34 pm34 an34 cd34 ct34),sl34⟩) (c34:xk K cd34 "mended"=true) (k34:xj K (.ref f34)=true)
  (a35:xh K mainGlobals "found"=some (some (.ref f35))) (l35:K.lookup f35=some ⟨oc35,od35,.func (xn "found" "found" (zp JW) (zm JW) (ze JW) .none kV35 dc35 pm35 an35 cd35 ct35),sl35⟩) (c35:xk K cd35 "found"=true) (k35:xj K (.ref f35)=true)
  (a36:xh K mainGlobals "number_without"=some (some (.ref f36))) (l36:K.lookup f36=some ⟨oc36,od36,.func (xn "number_without" "number_without" (zp jb) (zm jb) (ze jb) .none kV36 dc36 pm36 an36 cd36 ct36),sl36⟩) (c36:xk K cd36 "number_without"=true) (k36:xj K (.ref f36)=true)
  (a37:xh K mainGlobals "choices"=some (some (.ref f37))) (l37:K.lookup f37=some ⟨oc37,od37,.func (xn "choices" "choices" (zp q9) (zm q9) (ze q9) .none kV37 dc37 pm37 an37 cd37 ct37),sl37⟩) (c37:xk K cd37 "choices"=true) (k37:xj K (.ref f37)=true)
  (a38:xh K mainGlobals "row_product"=some (some (.ref f38))) (l38:K.lookup f38=some ⟨oc38,od38,.func (xn "row_product" "row_product" (zp qf) (zm qf) (ze qf) .none kV38 dc38 pm38 an38 cd38 ct38),sl38⟩) (c38:xk K cd38 "row_product"=true) (k38:xj K (.ref f38)=true)
  (a39:xh K mainGlobals "table_product"=some (some (.ref f39))) (l39:K.lookup f39=some ⟨oc39,od39,.func (xn "table_product" "table_product" (zp jh) (zm jh) (ze jh) .none kV39 dc39 pm39 an39 cd39 ct39),sl39⟩) (c39:xk K cd39 "table_product"=true) (k39:xj K (.ref f39)=true)
  (a40:xh K mainGlobals "refuse_unlike_tables"=some (some (.ref f40))) (l40:K.lookup f40=some ⟨oc40,od40,.func (xn "refuse_unlike_tables" "refuse_unlike_tables" (zp jc) (zm jc) (ze jc) .none kV40 dc40 pm40 an40 cd40 ct40),sl40⟩) (c40:xk K cd40 "refuse_unlike_tables"=true) (k40:xj K (.ref f40)=true)
  (a41:xh K mainGlobals "figures_in"=some (some (.ref f41))) (l41:K.lookup f41=some ⟨oc41,od41,.func (xn "figures_in" "figures_in" (zp qt) (zm qt) (ze qt) .none kV41 dc41 pm41 an41 cd41 ct41),sl41⟩) (c41:xk K cd41 "figures_in"=true) (k41:xj K (.ref f41)=true)
  (a42:xh K mainGlobals "columns_of"=some (some (.ref f42))) (l42:K.lookup f42=some ⟨oc42,od42,.func (xn "columns_of" "columns_of" (zp qe) (zm qe) (ze qe) .none kV42 dc42 pm42 an42 cd42 ct42),sl42⟩) (c42:xk K cd42 "columns_of"=true) (k42:xj K (.ref f42)=true)
  (a43:xh K mainGlobals "told_row"=some (some (.ref f43))) (l43:K.lookup f43=some ⟨oc43,od43,.func (xn "told_row" "told_row" (zp qL) (zm qL) (ze qL) .none kV43 dc43 pm43 an43 cd43 ct43),sl43⟩) (c43:xk K cd43 "told_row"=true) (k43:xj K (.ref f43)=true)
  (a44:xh K mainGlobals "sum_of_products"=some (some (.ref f44))) (l44:K.lookup f44=some ⟨oc44,od44,.func (xn "sum_of_products" "sum_of_products" (zp jx) (zm jx) (ze jx) .none kV44 dc44 pm44 an44 cd44 ct44),sl44⟩) (c44:xk K cd44 "sum_of_products"=true) (k44:xj K (.ref f44)=true)
  (a45:xh K mainGlobals "figure_text"=some (some (.ref f45))) (l45:K.lookup f45=some ⟨oc45,od45,.func (xn "figure_text" "figure_text" (zp qh) (zm qh) (ze qh) .none kV45 dc45 pm45 an45 cd45 ct45),sl45⟩) (c45:xk K cd45 "figure_text"=true) (k45:xj K (.ref f45)=true)
  (a46:xh K mainGlobals "written"=some (some (.ref f46))) (l46:K.lookup f46=some ⟨oc46,od46,.func (xn "written" "written" (zp JA) (zm JA) (ze JA) .none kV46 dc46 pm46 an46 cd46 ct46),sl46⟩) (c46:xk K cd46 "written"=true) (k46:xj K (.ref f46)=true)
  (a47:xh K mainGlobals "number_text"=some (some (.ref f47))) (l47:K.lookup f47=some ⟨oc47,od47,.func (xn "number_text" "number_text" (zp jz) (zm jz) (ze jz) .none kV47 dc47 pm47 an47 cd47 ct47),sl47⟩) (c47:xk K cd47 "number_text"=true) (k47:xj K (.ref f47)=true)
  (a48:xh K mainGlobals "_law_cell_at"=some (some (.ref f48))) (l48:K.lookup f48=some ⟨oc48,od48,.func (xn "_law_cell_at" "_law_cell_at" (zp j6) (zm j6) (ze j6) .none kV48 dc48 pm48 an48 cd48 ct48),sl48⟩) (c48:xk K cd48 "_law_cell_at"=true) (k48:xj K (.ref f48)=true)
  (a49:xh K mainGlobals "_law_mixed"=some (some (.ref f49))) (l49:K.lookup f49=some ⟨oc49,od49,.func (xn "_law_mixed" "_law_mixed" (zp qy) (zm qy) (ze qy) .none kV49 dc49 pm49 an49 cd49 ct49),sl49⟩) (c49:xk K cd49 "_law_mixed"=true) (k49:xj K (.ref f49)=true)
  (a50:xh K mainGlobals "_law_base_by"=some (some (.ref f50))) (l50:K.lookup f50=some ⟨oc50,od50,.func (xn "_law_base_by" "_law_base_by" (zp jZ) (zm jZ) (ze jZ) .none kV50 dc50 pm50 an50 cd50 ct50),sl50⟩) (c50:xk K cd50 "_law_base_by"=true) (k50:xj K (.ref f50)=true)
  (a51:xh K mainGlobals "_law_span"=some (some (.ref f51))) (l51:K.lookup f51=some ⟨oc51,od51,.func (xn "_law_span" "_law_span" (zp qR) (zm qR) (ze qR) .none kV51 dc51 pm51 an51 cd51 ct51),sl51⟩) (c51:xk K cd51 "_law_span"=true) (k51:xj K (.ref f51)=true)
  (a52:xh K mainGlobals "_law_fitting"=some (some (.ref f52))) (l52:K.lookup f52=some ⟨oc52,od52,.func (xn "_law_fitting" "_law_fitting" (zp j4) (zm j4) (ze j4) .none kV52 dc52 pm52 an52 cd52 ct52),sl52⟩) (c52:xk K cd52 "_law_fitting"=true) (k52:xj K (.ref f52)=true)
  (a53:xh K mainGlobals "_law_figure"=some (some (.ref f53))) (l53:K.lookup f53=some ⟨oc53,od53,.func (xn "_law_figure" "_law_figure" (zp jS) (zm jS) (ze jS) .none kV53 dc53 pm53 an53 cd53 ct53),sl53⟩) (c53:xk K cd53 "_law_figure"=true) (k53:xj K (.ref f53)=true)
  (a54:xh K mainGlobals "_law_wide_base"=some (some (.ref f54))) (l54:K.lookup f54=some ⟨oc54,od54,.func (xn "_law_wide_base" "_law_wide_base" (zp jv) (zm jv) (ze jv) .none kV54 dc54 pm54 an54 cd54 ct54),sl54⟩) (c54:xk K cd54 "_law_wide_base"=true) (k54:xj K (.ref f54)=true)
  (a55:xh K mainGlobals "_law_drawn"=some (some (.ref f55))) (l55:K.lookup f55=some ⟨oc55,od55,.func (xn "_law_drawn" "_law_drawn" (zp qu) (zm qu) (ze qu) .none kV55 dc55 pm55 an55 cd55 ct55),sl55⟩) (c55:xk K cd55 "_law_drawn"=true) (k55:xj K (.ref f55)=true)
  (a56:xh K mainGlobals "_law_deed"=some (some (.ref f56))) (l56:K.lookup f56=some ⟨oc56,od56,.func (xn "_law_deed" "_law_deed" (zp qO) (zm qO) (ze qO) .none kV56 dc56 pm56 an56 cd56 ct56),sl56⟩) (c56:xk K cd56 "_law_deed"=true) (k56:xj K (.ref f56)=true)
  (a57:xh K mainGlobals "_law_word_of"=some (some (.ref f57))) (l57:K.lookup f57=some ⟨oc57,od57,.func (xn "_law_word_of" "_law_word_of" (zp j5) (zm j5) (ze j5) .none kV57 dc57 pm57 an57 cd57 ct57),sl57⟩) (c57:xk K cd57 "_law_word_of"=true) (k57:xj K (.ref f57)=true)
  (a58:xh K mainGlobals "_law_told"=some (some (.ref f58))) (l58:K.lookup f58=some ⟨oc58,od58,.func (xn "_law_told" "_law_told" (zp qN) (zm qN) (ze qN) .none kV58 dc58 pm58 an58 cd58 ct58),sl58⟩) (c58:xk K cd58 "_law_told"=true) (k58:xj K (.ref f58)=true)
  (a59:xh K mainGlobals "_law_right"=some (some (.ref f59))) (l59:K.lookup f59=some ⟨oc59,od59,.func (xn "_law_right" "_law_right" (zp qs) (zm qs) (ze qs) .none kV59 dc59 pm59 an59 cd59 ct59),sl59⟩) (c59:xk K cd59 "_law_right"=true) (k59:xj K (.ref f59)=true)
  (a60:xh K mainGlobals "law"=some (some (.ref f60))) (l60:K.lookup f60=some ⟨oc60,od60,.func (xn "law" "law" (zp ZM) (zm ZM) (ze ZM) .none kV60 dc60 pm60 an60 cd60 ct60),sl60⟩) (c60:xk K cd60 "law"=true) (k60:xj K (.ref f60)=true)
  (z0:xh K mainGlobals "len"=some none)
  (z1:xh K mainGlobals "isinstance"=some none)
  (z2:xh K mainGlobals "sorted"=some none)
  (z3:xh K mainGlobals "list"=some none)
  (z4:xh K mainGlobals "tuple"=some none)
  (z5:xh K mainGlobals "int"=some none)
  (z6:xh K mainGlobals "bool"=some none)
  (z7:xh K mainGlobals "str"=some none)
  (z8:xh K mainGlobals "reversed"=some none)
  (z9:xh K mainGlobals "zip"=some none)
  (z10:xh K mainGlobals "all"=some none)
  (z11:xh K mainGlobals "any"=some none)
  (z12:xh K mainGlobals "min"=some none)
  (z13:xh K mainGlobals "max"=some none)
  (z14:xh K mainGlobals "range"=some none)
  (z15:xh K mainGlobals "enumerate"=some none)
  (z16:xh K mainGlobals "sum"=some none)
  (z17:xh K mainGlobals "set"=some none)
  (z18:xh K mainGlobals "ValueError"=some none)
  (z19:xh K mainGlobals "RestError"=some (some (.ref cR)))
  (z20:xh K mainGlobals "TooGreat"=some (some (.ref cT)))
  (z21:x0 K cT bmV "ValueError.__new__"=true)
  (z22:xh K mainGlobals "BadFigure"=some (some (.ref cB)))
  (z23:x0 K cB bmV "ValueError.__new__"=true)
  (z24:xh K mainGlobals "Wrong"=some (some (.ref cW)))
  (z25:x0 K cW bmV "ValueError.__new__"=true)
  (z26:xh K mainGlobals "BadDivisor"=some (some (.ref cD)))
  (z27:x0 K cD bmV "ValueError.__new__"=true)
  (z28:xh K mainGlobals "BadPlace"=some (some (.ref cP)))
  (z29:x0 K cP bmV "ValueError.__new__"=true)
  (z30:xh K mainGlobals "BadBase"=some (some (.ref cA)))
  (z31:x0 K cA bmV "ValueError.__new__"=true)
  (z32:xh K mainGlobals "Unlike"=some (some (.ref cU)))
  (z33:x0 K cU bmV "ValueError.__new__"=true)
  (z34:xh K mainGlobals "BadInput"=some (some (.ref cI)))
  (z35:xh K mainGlobals "RowTooGreat"=some (some (.ref cG)))
  (z36:xh K mainGlobals "BadText"=some (some (.ref cX)))
  (z37:xh K mainGlobals "MOST_KEPT"=some (some (.int 6 tk37)))
  (z38:xh K mainGlobals "MOST_SPARE"=some (some (.int 4 tk38)))
  (z39:xh K mainGlobals "LEAST_DIVISOR"=some (some (.int 2 tk39)))
  (z40:xh K mainGlobals "GREATEST_DIVISOR"=some (some (.int 1000000 tk40)))
  (xga_cB:xL K (.ref cB) "__getattribute__"=some (some (.builtin "BaseException.__getattribute__")))
  (xgt_cB:xL K (.ref cB) "__getattr__"=some none)
  (xcl_cB:xL K (.ref cB) "__class__"=some (some (.builtin "object.__class__")))
  (xmo_cB:yg K cB (.type "object")=some true)
  (xmb_cB:yg K cB (.type "BaseException")=some true)
  (xr_cB:yL K (.ref cB) (.ref cR)=some true)
  (xv_cB:xi K (.ref cB) (.type "ValueError")=some true)
  (xrr_cB:xi K (.ref cB) (.ref cR)=some true)
  (xk0_cB:xi K (.ref cB) (.ref cB)=some true)
  (xk1_cB:xi K (.ref cB) (.ref cW)=some false)
  (xk2_cB:xi K (.ref cB) (.ref cT)=some false)
  (xk3_cB:xi K (.ref cB) (.ref cA)=some false)
  (xk4_cB:xi K (.ref cB) (.ref cD)=some false)
  (xk5_cB:xi K (.ref cB) (.ref cP)=some false)
  (xk6_cB:xi K (.ref cB) (.ref cU)=some false)
  (xk7_cB:xi K (.ref cB) (.ref cI)=some false)
  (xk8_cB:xi K (.ref cB) (.ref cG)=some false)
  (xk9_cB:xi K (.ref cB) (.ref cX)=some false)
  (xga_cW:xL K (.ref cW) "__getattribute__"=some (some (.builtin "BaseException.__getattribute__")))
  (xgt_cW:xL K (.ref cW) "__getattr__"=some none)
  (xcl_cW:xL K (.ref cW) "__class__"=some (some (.builtin "object.__class__")))
  (xmo_cW:yg K cW (.type "object")=some true)
  (xmb_cW:yg K cW (.type "BaseException")=some true)
  (xr_cW:yL K (.ref cW) (.ref cR)=some true)
  (xv_cW:xi K (.ref cW) (.type "ValueError")=some true)
  (xrr_cW:xi K (.ref cW) (.ref cR)=some true)
  (xk0_cW:xi K (.ref cW) (.ref cB)=some false)
  (xk1_cW:xi K (.ref cW) (.ref cW)=some true)
  (xk2_cW:xi K (.ref cW) (.ref cT)=some false)
  (xk3_cW:xi K (.ref cW) (.ref cA)=some false)
  (xk4_cW:xi K (.ref cW) (.ref cD)=some false)
  (xk5_cW:xi K (.ref cW) (.ref cP)=some false)
  (xk6_cW:xi K (.ref cW) (.ref cU)=some false)
  (xk7_cW:xi K (.ref cW) (.ref cI)=some false)
  (xk8_cW:xi K (.ref cW) (.ref cG)=some false)
  (xk9_cW:xi K (.ref cW) (.ref cX)=some false)
  (xga_cT:xL K (.ref cT) "__getattribute__"=some (some (.builtin "BaseException.__getattribute__")))
  (xgt_cT:xL K (.ref cT) "__getattr__"=some none)
  (xcl_cT:xL K (.ref cT) "__class__"=some (some (.builtin "object.__class__")))
  (xmo_cT:yg K cT (.type "object")=some true)
  (xmb_cT:yg K cT (.type "BaseException")=some true)
  (xr_cT:yL K (.ref cT) (.ref cR)=some true)
  (xv_cT:xi K (.ref cT) (.type "ValueError")=some true)
  (xrr_cT:xi K (.ref cT) (.ref cR)=some true)
  (xk0_cT:xi K (.ref cT) (.ref cB)=some false)
  (xk1_cT:xi K (.ref cT) (.ref cW)=some false)
  (xk2_cT:xi K (.ref cT) (.ref cT)=some true)
  (xk3_cT:xi K (.ref cT) (.ref cA)=some false)
  (xk4_cT:xi K (.ref cT) (.ref cD)=some false)
  (xk5_cT:xi K (.ref cT) (.ref cP)=some false)
  (xk6_cT:xi K (.ref cT) (.ref cU)=some false)
  (xk7_cT:xi K (.ref cT) (.ref cI)=some false)
  (xk8_cT:xi K (.ref cT) (.ref cG)=some false)
  (xk9_cT:xi K (.ref cT) (.ref cX)=some false)
  (xga_cG:xL K (.ref cG) "__getattribute__"=some (some (.builtin "BaseException.__getattribute__")))
  (xgt_cG:xL K (.ref cG) "__getattr__"=some none)
  (xcl_cG:xL K (.ref cG) "__class__"=some (some (.builtin "object.__class__")))
  (xmo_cG:yg K cG (.type "object")=some true)
  (xmb_cG:yg K cG (.type "BaseException")=some true)
  (xr_cG:yL K (.ref cG) (.ref cR)=some true)
  (xv_cG:xi K (.ref cG) (.type "ValueError")=some true)
  (xrr_cG:xi K (.ref cG) (.ref cR)=some true)
  (xk0_cG:xi K (.ref cG) (.ref cB)=some false)
  (xk1_cG:xi K (.ref cG) (.ref cW)=some false)
  (xk2_cG:xi K (.ref cG) (.ref cT)=some false)
  (xk3_cG:xi K (.ref cG) (.ref cA)=some false)
  (xk4_cG:xi K (.ref cG) (.ref cD)=some false)
  (xk5_cG:xi K (.ref cG) (.ref cP)=some false)
  (xk6_cG:xi K (.ref cG) (.ref cU)=some false)
  (xk7_cG:xi K (.ref cG) (.ref cI)=some false)
  (xk8_cG:xi K (.ref cG) (.ref cG)=some true)
  (xk9_cG:xi K (.ref cG) (.ref cX)=some false)
  (xga_cX:xL K (.ref cX) "__getattribute__"=some (some (.builtin "BaseException.__getattribute__")))
  (xgt_cX:xL K (.ref cX) "__getattr__"=some none)
  (xcl_cX:xL K (.ref cX) "__class__"=some (some (.builtin "object.__class__")))
  (xmo_cX:yg K cX (.type "object")=some true)
  (xmb_cX:yg K cX (.type "BaseException")=some true)
  (xr_cX:yL K (.ref cX) (.ref cR)=some true)
  (xv_cX:xi K (.ref cX) (.type "ValueError")=some true)
  (xrr_cX:xi K (.ref cX) (.ref cR)=some true)
  (xk0_cX:xi K (.ref cX) (.ref cB)=some false)
  (xk1_cX:xi K (.ref cX) (.ref cW)=some false)
  (xk2_cX:xi K (.ref cX) (.ref cT)=some false)
  (xk3_cX:xi K (.ref cX) (.ref cA)=some false)
  (xk4_cX:xi K (.ref cX) (.ref cD)=some false)
  (xk5_cX:xi K (.ref cX) (.ref cP)=some false)
  (xk6_cX:xi K (.ref cX) (.ref cU)=some false)
  (xk7_cX:xi K (.ref cX) (.ref cI)=some false)
  (xk8_cX:xi K (.ref cX) (.ref cG)=some false)
  (xk9_cX:xi K (.ref cX) (.ref cX)=some true)
  (xsp:v8 K (.builtin "object.__class__") "__get__"=some (some (.builtin "getset_descriptor.__get__")))
  (xtk:wx K (.builtin "object.__class__")=some true)
  (xsa:xL K (.ref cX) "__setattr__"=some (some (.builtin "object.__setattr__")))
  (xna:xL K (.ref cX) "row"=some none)
  (xhd:u8 K cX=true)
  (xmr:((uG K cX).any fun cd=>cd.mro==.ref cX::.ref cR::bmV)=true)
  (xf:xL K (.ref cX) "__init__"=some (some (.ref fI)))
  (xl:K.lookup fI=some ⟨ocI,odI,.func (xn "__init__" "BadText.__init__" (zp Zu) (zm Zu) (ze Zu) .none kVI dcI pmI anI cdI ctI),slI⟩)
  (xc:xk K cdI "BadText.__init__"=true)
  (xkp:xj K (.ref fI)=true)
  (xfn:uv K (.ref fI)=true)
  (xin:Z9 K cX fI bmV "ValueError.__new__"=true)
  (xsa2:xL K (.ref cG) "__setattr__"=some (some (.builtin "object.__setattr__")))
  (xna2:xL K (.ref cG) "row"=some none)
  (xhd2:u8 K cG=true)
  (xmr2:((uG K cG).any fun cd=>cd.mro==.ref cG::.ref cR::bmV)=true)
  (xf2:xL K (.ref cG) "__init__"=some (some (.ref fJ)))
  (xl2:K.lookup fJ=some ⟨ocJ,odJ,.func (xn "__init__" "RowTooGreat.__init__" (zp JY) (zm JY) (ze JY) .none kVJ dcJ pmJ anJ cdJ ctJ),slJ⟩)
  (xc2:xk K cdJ "RowTooGreat.__init__"=true)
  (xkp2:xj K (.ref fJ)=true)
  (xfn2:uv K (.ref fJ)=true)
  (xin2:Z9 K cG fJ bmV "ValueError.__new__"=true) :
  ∃fd:FuncData,(∀(s:Shared) (v:Value),BindsTo s fd ⟨[v],[]⟩ [("_law_script",v)])∧∀base:Heap,K.In base→base.Ns mainGlobals mg→Jw l.prog w K mg base (CX1 l.prog w) 52 fa fd ["_law_script"] (zbi K):=by
 have e:=hfa.symm.trans (x5 X G a60)
 cases e
 have T:Txt K mg cR cT cB cW cD cP cA cU cI cG cX:=⟨xN X G z0,xN X G z1,xN X G z2,xN X G z3,xN X G z4,xN X G z5,xN X G z6,xN X G z7,xN X G z8,xN X G z9,xN X G z10,xN X G z11,xN X G z12,xN X G z13,xN X G z14,xN X G z15,xN X G z16,xN X G z17,xN X G z18,x5 X G z19,x5 X G z20,z21,x5 X G z22,z23,x5 X G z24,z25,x5 X G z26,z27,x5 X G z28,z29,x5 X G z30,z31,x5 X G z32,z33,x5 X G z34,x5 X G z35,x5 X G z36,⟨_,x5 X G z37⟩,⟨_,x5 X G z38⟩,⟨_,x5 X G z39⟩,⟨_,x5 X G z40⟩⟩
 have D0:Def K mg "common" JO:=zB X G a0 l0 c0 k0
 have D1:Def K mg "base_of" Jr:=zB X G a1 l1 c1 k1
 have D2:Def K mg "have_common_part" jw:=zB X G a2 l2 c2 k2
 have D3:Def K mg "divisors_of" qi:=zB X G a3 l3 c3 k3
 have D4:Def K mg "refuse_bad_places" jo:=zB X G a4 l4 c4 k4
 have D5:Def K mg "product_of" qa:=zB X G a5 l5 c5 k5
 have D6:Def K mg "span_of" Js:=zB X G a6 l6 c6 k6
 have D7:Def K mg "lowest" JL:=zB X G a7 l7 c7 k7
 have D8:Def K mg "highest" Jt:=zB X G a8 l8 c8 k8
 have D9:Def K mg "fits" Qe:=zB X G a9 l9 c9 k9
 have D10:Def K mg "figure_of" qT:=zB X G a10 l10 c10 k10
 have D11:Def K mg "number_of" qS:=zB X G a11 l11 c11 k11
 have D12:Def K mg "numbers_of" qd:=zB X G a12 l12 c12 k12
 have D13:Def K mg "is_right" Jb:=zB X G a13 l13 c13 k13
 have D14:Def K mg "rests_of" qG:=zB X G a14 l14 c14 k14
 have D15:Def K mg "refuse_no_figures" jp:=zB X G a15 l15 c15 k15
 have D16:Def K mg "refuse_no_figure" jt:=zB X G a16 l16 c16 k16
 have D17:Def K mg "number_by_kept" jB:=zB X G a17 l17 c17 k17
 have D18:Def K mg "number_by_rests" jn:=zB X G a18 l18 c18 k18
 have D19:Def K mg "inverse" Jy:=zB X G a19 l19 c19 k19
 have D20:Def K mg "put_in" JU:=zB X G a20 l20 c20 k20
 have D21:Def K mg "taken_out" j9:=zB X G a21 l21 c21 k21
 have D22:Def K mg "added" Zk:=zB X G a22 l22 c22 k22
 have D23:Def K mg "taken" Zn:=zB X G a23 l23 c23 k23
 have D24:Def K mg "multiplied" qq:=zB X G a24 l24 c24 k24
 have D25:Def K mg "turned" JT:=zB X G a25 l25 c25 k25
 have D26:Def K mg "quotient" Jc:=zB X G a26 l26 c26 k26
 have D27:Def K mg "rest" Qb:=zB X G a27 l27 c27 k27
 have D28:Def K mg "number_to_divide" ju:=zB X G a28 l28 c28 k28
 have D29:Def K mg "scaled" Jn:=zB X G a29 l29 c29 k29
 have D30:Def K mg "digits" JQ:=zB X G a30 l30 c30 k30
 have D31:Def K mg "sign" Z6:=zB X G a31 l31 c31 k31
 have D32:Def K mg "compared" Je:=zB X G a32 l32 c32 k32
 have D33:Def K mg "sign_of" Ju:=zB X G a33 l33 c33 k33
 have D34:Def K mg "mended" JN:=zB X G a34 l34 c34 k34
 have D35:Def K mg "found" JW:=zB X G a35 l35 c35 k35
 have D36:Def K mg "number_without" jb:=zB X G a36 l36 c36 k36
 have D37:Def K mg "choices" q9:=zB X G a37 l37 c37 k37
 have D38:Def K mg "row_product" qf:=zB X G a38 l38 c38 k38
 have D39:Def K mg "table_product" jh:=zB X G a39 l39 c39 k39
 have D40:Def K mg "refuse_unlike_tables" jc:=zB X G a40 l40 c40 k40
 have D41:Def K mg "figures_in" qt:=zB X G a41 l41 c41 k41
 have D42:Def K mg "columns_of" qe:=zB X G a42 l42 c42 k42
 have D43:Def K mg "told_row" qL:=zB X G a43 l43 c43 k43
 have D44:Def K mg "sum_of_products" jx:=zB X G a44 l44 c44 k44
 have D45:Def K mg "figure_text" qh:=zB X G a45 l45 c45 k45
 have D46:Def K mg "written" JA:=zB X G a46 l46 c46 k46
 have D47:Def K mg "number_text" jz:=zB X G a47 l47 c47 k47
 have D48:Def K mg "_law_cell_at" j6:=zB X G a48 l48 c48 k48
 have D49:Def K mg "_law_mixed" qy:=zB X G a49 l49 c49 k49
 have D50:Def K mg "_law_base_by" jZ:=zB X G a50 l50 c50 k50
 have D51:Def K mg "_law_span" qR:=zB X G a51 l51 c51 k51
 have D52:Def K mg "_law_fitting" j4:=zB X G a52 l52 c52 k52
 have D53:Def K mg "_law_figure" jS:=zB X G a53 l53 c53 k53
 have D54:Def K mg "_law_wide_base" jv:=zB X G a54 l54 c54 k54
 have D55:Def K mg "_law_drawn" qu:=zB X G a55 l55 c55 k55
 have D56:Def K mg "_law_deed" qO:=zB X G a56 l56 c56 k56
 have D57:Def K mg "_law_word_of" j5:=zB X G a57 l57 c57 k57
 have D58:Def K mg "_law_told" qN:=zB X G a58 l58 c58 k58
 have D59:Def K mg "_law_right" qs:=zB X G a59 l59 c59 k59
 have FL:=za9 (st:=ZM) l60 c60 k60
 refine⟨xn "law" "law" (zp ZM) (zm ZM) (ze ZM) .none kV60 dc60 pm60 an60 cd60 ct60,fun s v=>.of_eq rfl,fun base _ _=>?_⟩
 have M_cB:IsW K cR cT cB cW cD cP cA cU cI cG cX cB 0:=⟨⟨⟨xga_cB,xgt_cB,xcl_cB,xsp,xtk,xmo_cB,xmb_cB⟩,xr_cB,xv_cB,xk0_cB,xk1_cB,xk2_cB,xk3_cB,xk4_cB,xk5_cB,xk6_cB,xk7_cB,xk8_cB,xk9_cB⟩,xrr_cB⟩
 have M_cW:IsW K cR cT cB cW cD cP cA cU cI cG cX cW 1:=⟨⟨⟨xga_cW,xgt_cW,xcl_cW,xsp,xtk,xmo_cW,xmb_cW⟩,xr_cW,xv_cW,xk0_cW,xk1_cW,xk2_cW,xk3_cW,xk4_cW,xk5_cW,xk6_cW,xk7_cW,xk8_cW,xk9_cW⟩,xrr_cW⟩
 have M_cT:IsW K cR cT cB cW cD cP cA cU cI cG cX cT 2:=⟨⟨⟨xga_cT,xgt_cT,xcl_cT,xsp,xtk,xmo_cT,xmb_cT⟩,xr_cT,xv_cT,xk0_cT,xk1_cT,xk2_cT,xk3_cT,xk4_cT,xk5_cT,xk6_cT,xk7_cT,xk8_cT,xk9_cT⟩,xrr_cT⟩
 have M_cG:IsW K cR cT cB cW cD cP cA cU cI cG cX cG 8:=⟨⟨⟨xga_cG,xgt_cG,xcl_cG,xsp,xtk,xmo_cG,xmb_cG⟩,xr_cG,xv_cG,xk0_cG,xk1_cG,xk2_cG,xk3_cG,xk4_cG,xk5_cG,xk6_cG,xk7_cG,xk8_cG,xk9_cG⟩,xrr_cG⟩
 have M_cX:IsW K cR cT cB cW cD cP cA cU cI cG cX cX 9:=⟨⟨⟨xga_cX,xgt_cX,xcl_cX,xsp,xtk,xmo_cX,xmb_cX⟩,xr_cX,xv_cX,xk0_cX,xk1_cX,xk2_cX,xk3_cX,xk4_cX,xk5_cX,xk6_cX,xk7_cX,xk8_cX,xk9_cX⟩,xrr_cX⟩
 have GG:ZW K cX "row":=⟨⟨xga_cX,xgt_cX,xcl_cX,xsp,xtk,xmo_cX,xmb_cX⟩,xsa,xna,xhd,⟨cR,xmr⟩⟩
 have GGG:ZW K cG "row":=⟨⟨xga_cG,xgt_cG,xcl_cG,xsp,xtk,xmo_cG,xmb_cG⟩,xsa2,xna2,xhd2,⟨cR,xmr2⟩⟩
 have GM:CM K cR cT cB cW cD cP cA cU cI cG cX:=⟨M_cB,M_cW,M_cT,M_cG,M_cX,GG,GGG⟩
 have FRI:=zmH (P:=l.prog) (w:=w) (base:=base) T GG xin xfn xl xc xkp
 have FRG:=zmZ (P:=l.prog) (w:=w) (base:=base) T GGG xin2 xfn2 xl2 xc2 xkp2
 have FPL:=zbD (P:=l.prog) (w:=w) (base:=base) D5
 have F0:=ziv (P:=l.prog) (w:=w) (base:=base) D0
 have F2:=zly D2 F0
 have F1:=zgQ D1 T F2
 have F3:=zbP (P:=l.prog) (w:=w) (base:=base) D3
 have F4:=zhg (P:=l.prog) (w:=w) (base:=base) D4 T
 have F5:=zcN (P:=l.prog) (w:=w) (base:=base) D5
 have F6:=zgz D6 F5
 have F7:=ziI D7 F6
 have F8:=zgn D8 F6
 have F9:=zkK D9 F7 F8
 have F14:=zeD D14 F3
 have F10:=zdz D10 T F9 F14
 have F16:=ziy D16 T F3
 have F19:=zbu (P:=l.prog) (w:=w) (base:=base) D19 40
 have FBL:=zdP D18 T F19
 have F18:=zeK D18 T F19
 have F17:=zfY D17 T F18
 have F13:=zew D13 T F16 F17 F14
 have F11:=zc7 D11 T F13 F17
 have F15:=zcH D15 F16
 have F12:=zcQ D12 F15 F11
 have FNL:=F12.imp zlY
 have F20:=zlO D20 T F11 F1 F10
 have F21:=zeP D21 T F11 F3 F4 F1 F10
 have F22:=ziO (cD:=cD) (cP:=cP) (cA:=cA) (cU:=cU) D22 FNL F10
 have F23:=zjY (cD:=cD) (cP:=cP) (cA:=cA) (cU:=cU) D23 FNL F10
 have F24:=zcP (cD:=cD) (cP:=cP) (cA:=cA) (cU:=cU) D24 FNL F10
 have F25:=zho (cD:=cD) (cP:=cP) (cA:=cA) (cU:=cU) D25 F11 F10
 have F28:=zd8 D28 T F11
 have F26:=zet D26 F28 F10
 have F27:=zk7 D27 F28
 have F29:=zh9 D29 T F11 F4 FPL F10
 have F30:=zg5 D30 T F11 F6
 have F33:=zgp (P:=l.prog) (w:=w) (base:=base) D33
 have F31:=zkp (cT:=cT) D31 F11 F33
 have F32:=zeI (cT:=cT) D32 FNL F33
 have FC0:=zey (P:=l.prog) (w:=w) (base:=base) D37
 have FC1:=QT (by decide) D37 T FC0
 have FC2:=QT (by decide) D37 T FC1
 have F37:=QT (by decide) D37 T FC2
 have F36:=zgr D36 T F3 FBL
 have F35:=zkd D35 T F14
 have F34:=zib D34 T F16 F37 F36 F9 F35
 have F44:=zlZ (P:=l.prog) (w:=w) (base:=base) D44 T
 have F38:=zlI D38 T F12 F10 F44
 have F40:=zlg (P:=l.prog) (w:=w) (base:=base) D40 T
 have F41:=zhV (P:=l.prog) (w:=w) (base:=base) D41
 have F42:=zk3 (P:=l.prog) (w:=w) (base:=base) D42 T
 have F43:=zkH D43 T F10 F44
 have F39:=ziN D39 T F40 F15 F41 F12 F42 F43
 have FN0:=zg2 (P:=l.prog) (w:=w) (base:=base) D47
 have FN1:=zhH D47 T FN0
 have F47:=zjV D47 T FN1
 have F45:=zjc D45 T F16 F47
 have F46:=zf2 D46 F11 F47
 have F48:=zgN (P:=l.prog) (w:=w) (base:=base) D48 T
 have F49:=ziL (P:=l.prog) (w:=w) (base:=base) D49
 have F50:=zge D50 T F49
 have F51:=zdC (P:=l.prog) (w:=w) (base:=base) D51
 have F52:=zgD D52 F51 F49
 have F53:=zcO (P:=l.prog) (w:=w) (base:=base) D53
 have F54:=zli D54 T F50
 have F55:=zi9 D55 T F53 F52
 have W_number_of:=F11.imp (zll (cT:=cT))
 have W_digits:=F30
 have W_sign:=F31
 have W_turned:=F25.imp (zjf)
 have W_written:=F46.imp (zgl (cT:=cT))
 have W_is_right:=F13.imp (zj7)
 have W_mended:=F34.imp (zhQ)
 have W_figure_text:=F45.imp (zjp)
 have W_compared:=F32
 have W_added:=F22.imp (zax)
 have W_taken:=F23.imp (zax)
 have W_multiplied:=F24.imp (zax)
 have W_quotient:=F26.imp (zk9 (z:=3))
 have W_rest:=F27.imp (zkQ (z:=3))
 have W_scaled:=F29.imp (zie)
 have W_put_in:=F20.imp (zlX)
 have W_taken_out:=F21.imp (zlp)
 have W_row_product:=F38.imp (zmb)
 have W_table_product:=F39.imp (zlP)
 have F56:=zkC D56 T W_number_of W_digits W_sign W_turned W_written W_is_right W_mended W_figure_text W_compared W_added W_taken W_multiplied W_quotient W_rest W_scaled W_put_in W_taken_out W_row_product W_table_product
 have F57:=zg1 (P:=l.prog) (w:=w) (base:=base) D57 T
 have F58:=zkJ D58 T GM F56 F57
 have F59:=ziZ D59 T F49 F55 F58
 exact FL.okX Yo jC (zjM T GM FRI FRG F54 F49 F48 F59 F57 _)
theorem zmK {l:vq}{q:Program}{loose:List Str}{XP:(Str→Option Value)→Heap→Prop}{YP:World→Heap→Prop}{d:DefRec}{K:Params→xb}(hn:l.most=some 63)(hdf:d.params.defaults=[])
  (hY:∀(w:World) (h:Heap),YP w h→(K w.params).In h)
  (F:∀(w:World) (mg:Str→Option Value) (fa:Addr) (h:Heap),(K w.params).In h→h.Ns mainGlobals mg→mg d.name=some (.ref fa) →
   ∃fd:FuncData,(∀(s:Shared) (u:Value),BindsTo s fd ⟨[u],[]⟩ [("_law_script",u)])∧∀base:Heap,(K w.params).In base→base.Ns mainGlobals mg→Jw l.prog w (K w.params) mg base (CX1 l.prog w) 52 fa fd ["_law_script"] (zbi (K w.params))) :
  wF q loose XP YP l.row.toRowW d [] (fun f vs=>PySem.call f vs) :=
 L2.zld (n:=63) (k:=52) (x:="_law_script") (CX:=fun w=>CX1 l.prog w) (sp:=fun w=>(zbi (K w.params))) hn (by decide) hdf ⟨rfl,by decide,by decide⟩ hY F (fun _ _ a ns hl _ hS=>⟨_,rfl,a,ns,rfl,hS,hl,fun _=>rfl⟩) fun _ H s e s'=>zj4 H s e s'
end K28
open PySem PySem.W PyProof.Rows
theorem PySem.W.Fast.tw7090638985439209030 : True := trivial
theorem PySem.W.Fast.tw14798545060795160715 : True := trivial
theorem PySem.W.Fast.tw10787480158167099042 : True := trivial
theorem PySem.W.Fast.tw793083972712015618 : True := trivial
theorem PySem.W.Fast.tw4695807987244737756 : True := trivial
theorem PySem.W.Fast.tw11807252927753605303 : True := trivial
theorem PySem.W.Fast.tw4405433493842115495 : True := trivial
theorem PySem.W.Fast.tw17891655869507860537 : True := trivial
theorem PySem.W.Fast.tw4175256628072661520 : True := trivial
theorem PySem.W.Fast.tw11136329822831442467 : True := trivial
theorem PySem.W.Fast.tw270322520427267270 : True := trivial
theorem PySem.W.Fast.tw17043459305779730062 : True := trivial
theorem PySem.W.Fast.tw13721442328702783572 : True := trivial
theorem PySem.W.Fast.tw1984232649646685778 : True := trivial
set_option maxRecDepth 100000 in
set_option maxHeartbeats 0 in
theorem PySem.Challenge.cw_restfigures_k28_figures_refused_holds : PySem.Challenge.rw_restfigures_k28_figures_refused.Holds := by
 w_on;o_law;k_head;(case hw=>w_witness2)
 k_fill
 refine K28.zmK (l:=PySem.Challenge.rw_restfigures_k28_figures_refused) rfl rfl (fun w h Y=>PySem.W.kIn_of Y) ?F
 case F =>
  intro w mg fa h KX G hmg
  refine' K28.zlD KX G hmg ?a0 ?l0 ?c0 ?k0 ?a1 ?l1 ?c1 ?k1 ?a2 ?l2 ?c2 ?k2 ?a3 ?l3 ?c3 ?k3 ?a4 ?l4 ?c4 ?k4 ?a5 ?l5 ?c5 ?k5 ?a6 ?l6 ?c6 ?k6 ?a7 ?l7 ?c7 ?k7 ?a8 ?l8 ?c8 ?k8 ?a9 ?l9 ?c9 ?k9 ?a10 ?l10 ?c10 ?k10 ?a11 ?l11 ?c11 ?k11 ?a12 ?l12 ?c12 ?k12 ?a13 ?l13 ?c13 ?k13 ?a14 ?l14 ?c14 ?k14 ?a15 ?l15 ?c15 ?k15 ?a16 ?l16 ?c16 ?k16 ?a17 ?l17 ?c17 ?k17 ?a18 ?l18 ?c18 ?k18 ?a19 ?l19 ?c19 ?k19 ?a20 ?l20 ?c20 ?k20 ?a21 ?l21 ?c21 ?k21 ?a22 ?l22 ?c22 ?k22 ?a23 ?l23 ?c23 ?k23 ?a24 ?l24 ?c24 ?k24 ?a25 ?l25 ?c25 ?k25 ?a26 ?l26 ?c26 ?k26 ?a27 ?l27 ?c27 ?k27 ?a28 ?l28 ?c28 ?k28 ?a29 ?l29 ?c29 ?k29 ?a30 ?l30 ?c30 ?k30 ?a31 ?l31 ?c31 ?k31 ?a32 ?l32 ?c32 ?k32 ?a33 ?l33 ?c33 ?k33 ?a34 ?l34 ?c34 ?k34 ?a35 ?l35 ?c35 ?k35 ?a36 ?l36 ?c36 ?k36 ?a37 ?l37 ?c37 ?k37 ?a38 ?l38 ?c38 ?k38 ?a39 ?l39 ?c39 ?k39 ?a40 ?l40 ?c40 ?k40 ?a41 ?l41 ?c41 ?k41 ?a42 ?l42 ?c42 ?k42 ?a43 ?l43 ?c43 ?k43 ?a44 ?l44 ?c44 ?k44 ?a45 ?l45 ?c45 ?k45 ?a46 ?l46 ?c46 ?k46 ?a47 ?l47 ?c47 ?k47 ?a48 ?l48 ?c48 ?k48 ?a49 ?l49 ?c49 ?k49 ?a50 ?l50 ?c50 ?k50 ?a51 ?l51 ?c51 ?k51 ?a52 ?l52 ?c52 ?k52 ?a53 ?l53 ?c53 ?k53 ?a54 ?l54 ?c54 ?k54 ?a55 ?l55 ?c55 ?k55 ?a56 ?l56 ?c56 ?k56 ?a57 ?l57 ?c57 ?k57 ?a58 ?l58 ?c58 ?k58 ?a59 ?l59 ?c59 ?k59 ?a60 ?l60 ?c60 ?k60 ?z0 ?z1 ?z2 ?z3 ?z4 ?z5 ?z6 ?z7 ?z8 ?z9 ?z10 ?z11 ?z12 ?z13 ?z14 ?z15 ?z16 ?z17 ?z18 ?z19 ?z20 ?z21 ?z22 ?z23 ?z24 ?z25 ?z26 ?z27 ?z28 ?z29 ?z30 ?z31 ?z32 ?z33 ?z34 ?z35 ?z36 ?z37 ?z38 ?z39 ?z40 ?xga_cB ?xgt_cB ?xcl_cB ?xmo_cB ?xmb_cB ?xr_cB ?xv_cB ?xrr_cB ?xk0_cB ?xk1_cB ?xk2_cB ?xk3_cB ?xk4_cB ?xk5_cB ?xk6_cB ?xk7_cB ?xk8_cB ?xk9_cB ?xga_cW ?xgt_cW ?xcl_cW ?xmo_cW ?xmb_cW ?xr_cW ?xv_cW ?xrr_cW ?xk0_cW ?xk1_cW ?xk2_cW ?xk3_cW ?xk4_cW ?xk5_cW ?xk6_cW ?xk7_cW ?xk8_cW ?xk9_cW ?xga_cT ?xgt_cT ?xcl_cT ?xmo_cT ?xmb_cT ?xr_cT ?xv_cT ?xrr_cT ?xk0_cT ?xk1_cT ?xk2_cT ?xk3_cT ?xk4_cT ?xk5_cT ?xk6_cT ?xk7_cT ?xk8_cT ?xk9_cT ?xga_cG ?xgt_cG ?xcl_cG ?xmo_cG ?xmb_cG ?xr_cG ?xv_cG ?xrr_cG ?xk0_cG ?xk1_cG ?xk2_cG ?xk3_cG ?xk4_cG ?xk5_cG ?xk6_cG ?xk7_cG ?xk8_cG ?xk9_cG ?xga_cX ?xgt_cX ?xcl_cX ?xmo_cX ?xmb_cX ?xr_cX ?xv_cX ?xrr_cX ?xk0_cX ?xk1_cX ?xk2_cX ?xk3_cX ?xk4_cX ?xk5_cX ?xk6_cX ?xk7_cX ?xk8_cX ?xk9_cX ?xsp ?xtk ?xsa ?xna ?xhd ?xmr ?xf ?xl ?xc ?xkp ?xfn ?xin ?xsa2 ?xna2 ?xhd2 ?xmr2 ?xf2 ?xl2 ?xc2 ?xkp2 ?xfn2 ?xin2
  (case a0|l0|c0|k0|a1|l1|c1|k1|a2|l2|c2|k2|a3|l3|c3|k3|a4|l4|c4|k4|a5|l5|c5|k5|a6|l6|c6|k6|a7|l7|c7|k7|a8|l8|c8|k8|a9|l9|c9|k9|a10|l10|c10|k10|a11|l11|c11|k11|a12|l12|c12|k12|a13|l13|c13|k13|a14|l14|c14|k14|a15|l15|c15|k15|a16|l16|c16|k16|a17|l17|c17|k17|a18|l18|c18|k18|a19|l19|c19|k19|a20|l20|c20|k20|a21|l21|c21|k21|a22|l22|c22|k22|a23|l23|c23|k23|a24|l24|c24|k24|a25|l25|c25|k25|a26|l26|c26|k26|a27|l27|c27|k27|a28|l28|c28|k28|a29|l29|c29|k29|a30|l30|c30|k30|a31|l31|c31|k31|a32|l32|c32|k32|a33|l33|c33|k33|a34|l34|c34|k34|a35|l35|c35|k35|a36|l36|c36|k36|a37|l37|c37|k37|a38|l38|c38|k38|a39|l39|c39|k39|a40|l40|c40|k40|a41|l41|c41|k41|a42|l42|c42|k42|a43|l43|c43|k43|a44|l44|c44|k44|a45|l45|c45|k45|a46|l46|c46|k46|a47|l47|c47|k47|a48|l48|c48|k48|a49|l49|c49|k49|a50|l50|c50|k50|a51|l51|c51|k51|a52|l52|c52|k52|a53|l53|c53|k53|a54|l54|c54|k54|a55|l55|c55|k55|a56|l56|c56|k56|a57|l57|c57|k57|a58|l58|c58|k58|a59|l59|c59|k59|a60|l60|c60|k60|z0|z1|z2|z3|z4|z5|z6|z7|z8|z9|z10|z11|z12|z13|z14|z15|z16|z17|z18|z19|z20=>k_is)
  (case z21=>k_exc)
  (case z22=>k_is)
  (case z23=>k_exc)
  (case z24=>k_is)
  (case z25=>k_exc)
  (case z26=>k_is)
  (case z27=>k_exc)
  (case z28=>k_is)
  (case z29=>k_exc)
  (case z30=>k_is)
  (case z31=>k_exc)
  (case z32=>k_is)
  (case z33=>k_exc)
  (case z34|z35|z36|z37|z38|z39|z40|xga_cB|xgt_cB|xcl_cB|xmo_cB|xmb_cB=>k_is)
  (case xr_cB=>kts_exm)
  (case xv_cB=>kit_is)
  (case xrr_cB=>kit_is)
  (case xk0_cB=>kit_is)
  (case xk1_cB=>kit_is)
  (case xk2_cB=>kit_is)
  (case xk3_cB=>kit_is)
  (case xk4_cB=>kit_is)
  (case xk5_cB=>kit_is)
  (case xk6_cB=>kit_is)
  (case xk7_cB=>kit_is)
  (case xk8_cB=>kit_is)
  (case xk9_cB=>kit_is)
  (case xga_cW|xgt_cW|xcl_cW|xmo_cW|xmb_cW=>k_is)
  (case xr_cW=>kts_exm)
  (case xv_cW=>kit_is)
  (case xrr_cW=>kit_is)
  (case xk0_cW=>kit_is)
  (case xk1_cW=>kit_is)
  (case xk2_cW=>kit_is)
  (case xk3_cW=>kit_is)
  (case xk4_cW=>kit_is)
  (case xk5_cW=>kit_is)
  (case xk6_cW=>kit_is)
  (case xk7_cW=>kit_is)
  (case xk8_cW=>kit_is)
  (case xk9_cW=>kit_is)
  (case xga_cT|xgt_cT|xcl_cT|xmo_cT|xmb_cT=>k_is)
  (case xr_cT=>kts_exm)
  (case xv_cT=>kit_is)
  (case xrr_cT=>kit_is)
  (case xk0_cT=>kit_is)
  (case xk1_cT=>kit_is)
  (case xk2_cT=>kit_is)
  (case xk3_cT=>kit_is)
  (case xk4_cT=>kit_is)
  (case xk5_cT=>kit_is)
  (case xk6_cT=>kit_is)
  (case xk7_cT=>kit_is)
  (case xk8_cT=>kit_is)
  (case xk9_cT=>kit_is)
  (case xga_cG|xgt_cG|xcl_cG|xmo_cG|xmb_cG=>k_is)
  (case xr_cG=>kts_exm)
  (case xv_cG=>kit_is)
  (case xrr_cG=>kit_is)
  (case xk0_cG=>kit_is)
  (case xk1_cG=>kit_is)
  (case xk2_cG=>kit_is)
  (case xk3_cG=>kit_is)
  (case xk4_cG=>kit_is)
  (case xk5_cG=>kit_is)
  (case xk6_cG=>kit_is)
  (case xk7_cG=>kit_is)
  (case xk8_cG=>kit_is)
  (case xk9_cG=>kit_is)
  (case xga_cX|xgt_cX|xcl_cX|xmo_cX|xmb_cX=>k_is)
  (case xr_cX=>kts_exm)
  (case xv_cX=>kit_is)
  (case xrr_cX=>kit_is)
  (case xk0_cX=>kit_is)
  (case xk1_cX=>kit_is)
  (case xk2_cX=>kit_is)
  (case xk3_cX=>kit_is)
  (case xk4_cX=>kit_is)
  (case xk5_cX=>kit_is)
  (case xk6_cX=>kit_is)
  (case xk7_cX=>kit_is)
  (case xk8_cX=>kit_is)
  (case xk9_cX=>kit_is)
  (case xsp|xtk|xsa|xna|xhd=>k_is)
  (case xmr=>kernel_rfl)
  (case xf|xl|xc|xkp|xfn=>k_is)
  (case xin=>kernel_rfl)
  (case xsa2|xna2|xhd2=>k_is)
  (case xmr2=>kernel_rfl)
  (case xf2|xl2|xc2|xkp2|xfn2=>k_is)
  (case xin2=>kernel_rfl)
