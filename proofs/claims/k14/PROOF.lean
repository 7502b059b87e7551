import PyProof.Rows.All
import Wide.All
import OpenK.AllK
import Wide.FinOn
import PyProof.Rows.SortRuns
import PyProof.Rows.SortKey
import PyProof.Rows.SortStr
import PyProof.Rows.SortShellK
import KE.KSortKey
import Lean
import PyProof.EqAt
import PyProof.EqKinds
import PyProof.TupleCall
import KE.KPairComp
import KE.KDictSum
import PyProof.ConsumeWalk
import PyProof.NeKinds
import KE.KIsAll
import PyProof.IsiPairs
import PyProof.IsiHeapPairs
import PyProof.CompUse
import OpenK.KOwn
import PyProof.ExcArgsOwn
import PyProof.ExcBaseAll.ValueError
import PyProof.StationsW
import PyProof.RulesAs
import PyProof.FString
import PyProof.FString4
import PyProof.StrLawsRepr
import PyProof.NsDelKeeps
import PyProof.StrWalks
import PyProof.CollectStr
import KE.KDictOf
import PyProof.DictUpdate
import PyProof.EnumMake
import PyProof.EnumFor
import PyProof.EnumStmt
import PyProof.AttrMissHeap
import PyProof.MeetsStr
import PyProof.FitsReplace
import PyProof.MeetsDict
import KE.KDictList
import PyProof.Rows.SetFrom
import PyProof.SetRoads
import KE.KIntText
import PyProof.Rows.CatFin
import KE.RegKIsAll
import PySem.Challenge.RW_twistbrackets_k14_read
set_option linter.all false
set_option Elab.async false
set_option maxRecDepth 100000
local macro_rules | `(tactic| omega) => `(tactic| lia)
section
namespace Tim
open PySem PyProof.Rows
noncomputable abbrev dflt:Keyed:=(Value.none,Value.none)
noncomputable def G (xs:Array Keyed) (i:Nat):Keyed:=xs[i]?.getD dflt
structure Od where
  O:KeyOrd
  key:Keyed→O.α
  rk:Keyed→Nat
variable (o:Od)
noncomputable def Od.b (x y:Keyed):Bool:=o.O.blt (o.key x) (o.key y)
noncomputable def Od.lt (x y:Keyed):Prop:=o.b x y=true∨(o.b y x=false∧o.rk x < o.rk y)
variable {o:Od}
variable (o)
variable {o}
structure SB (kd:SortKind) (a0:Array Keyed) (st:SortSt):Prop where
  perm:(arrOf st).Perm a0
  kind:kindOf st=kd
  failed:failedOf st=none
section
variable {prog:Program} {w:World} {A:Around} {E:Value→Shared→Prop} {s:Shared} {a0:Array Keyed} {kd:SortKind} {o:Od}
end
end Tim
end
section
namespace Tim
open PySem PyProof.Rows
section
variable {prog:Program} {w:World} {A:Around} {E:Value→Shared→Prop} {s:Shared} {a0:Array Keyed} {kd:SortKind} {o:Od}
end
end Tim
end
section
namespace Tim
open PySem PyProof.Rows
section
variable {prog:Program} {w:World} {A:Around} {E:Value→Shared→Prop} {s:Shared} {a0:Array Keyed} {kd:SortKind} {o:Od}
end
end Tim
end
section
namespace Tim
open PySem PyProof.Rows
variable {o:Od}
end Tim
end
section
namespace Tim
open PySem PyProof.Rows
section
variable {prog:Program} {w:World} {A:Around} {E:Value→Shared→Prop} {s:Shared} {a0:Array Keyed} {kd:SortKind} {o:Od}
end
end Tim
end
section
namespace Tim
open PySem PyProof.Rows
variable {o:Od}
section
variable {prog:Program} {w:World} {A:Around} {E:Value→Shared→Prop} {s:Shared} {a0:Array Keyed} {kd:SortKind}
end
end Tim
end
section
namespace Tim
open PySem PyProof.Rows
variable {o:Od}
section
variable {prog:Program} {w:World} {A:Around} {E:Value→Shared→Prop} {s:Shared} {a0:Array Keyed} {kd:SortKind}
end
end Tim
end
section
namespace Tim
open PySem PyProof.Rows
variable {o:Od}
section
variable {prog:Program} {w:World} {A:Around} {E:Value→Shared→Prop} {s:Shared} {a0:Array Keyed} {kd:SortKind}
end
end Tim
end
section
namespace Tim
open PySem PyProof.Rows
open Classical in
section
variable {prog:Program} {w:World} {A:Around} {E:Value→Shared→Prop} {s:Shared}
end
end Tim
end
section
namespace Tim
open PySem PyProof.Rows
noncomputable def PairAt (h:Heap) (v:Value) (n:Int) (x:Str):Prop:=∃ a o t u e,v = .ref a∧h.get? a=some o∧o.cls = .type "tuple"∧o.data = .seq #[.int n t,.str x u] e
open Classical in
theorem PairAt.inj {h:Heap} {v:Value} {n m:Int} {x y:Str} (a:PairAt h v n x) (b:PairAt h v m y):n=m∧x=y:=by
  obtain ⟨a1,o1,t1,u1,e1,rfl,g1,_,d1⟩:=a
  obtain ⟨a2,o2,t2,u2,e2,q,g2,_,d2⟩:=b
  cases q
  rw [g1] at g2
  cases g2
  rw [d1] at d2
  injection d2 with d3 _
  have d4:=congrArg Array.toList d3
  injection d4 with d5 d6
  injection d5 with d7 _
  injection d6 with d8 _
  injection d8 with d9 _
  exact ⟨d7,d9⟩
section
variable {prog:Program} {w:World} {A:Around} {E:Value→Shared→Prop} {s:Shared}
end
end Tim
end
section
namespace Tim
open PySem PyProof.Rows
section
variable {prog:Program} {w:World} {A:Around} {E:Value→Shared→Prop} {s:Shared}
end
end Tim
end
section
namespace Wm
variable {α:Type} [DecidableEq α]
noncomputable abbrev D (α:Type):=List (α×Int)
noncomputable def look (d:D α) (w:α):Option Int:=(d.find? fun p=>decide (p.1=w)).map (·.2)
noncomputable def put (d:D α) (w:α) (c:Int):D α:=if (d.any fun p=>decide (p.1=w))=true then d.map (fun p=>if p.1=w then (p.1,c) else p) else d++[(w,c)]
noncomputable def nz (d:D α):D α:=d.foldl (fun k p=>if p.2≠0 then put k p.1 p.2 else k) []
variable (op:α→α→α)
variable {op}
inductive Br (α:Type) where
  | leaf (x:α)
  | node (l r:Br α)
noncomputable def Br.wt:Br α→Nat
  | .leaf _=>1
  | .node l r=>l.wt + r.wt
variable (op)
variable {op}
noncomputable def l1 (d:D α):Nat:=(d.map fun p=>p.2.natAbs).sum
end Wm
end
section
namespace L2
open PySem PySem.Spec PyProof.Rows
noncomputable abbrev Key:=Sum Int Str
noncomputable def keyIs:Key→Value→Bool
  | .inl k,v=>Value.isInt k v
  | .inr x,v=>Value.isStrOf x v
noncomputable def keyH (w:World):Key→Int
  | .inl k=>hashInt k
  | .inr x=>hashStr w x
theorem keyIs_shape:∀ {k:Key} {v:Value},keyIs k v=true→(∃ i t,k=Sum.inl i∧v=Value.int i t)∨(∃ x t,k=Sum.inr x∧v=Value.str x t)
  | .inl i,v,h=>by
    obtain ⟨t,e⟩:=Value.isInt_shape (k:=i) (v:=v) h
    exact .inl ⟨i,t,rfl,e⟩
  | .inr x,v,h=>by
    obtain ⟨t,e⟩:=Value.isStrOf_shape (x:=x) (v:=v) h
    exact .inr ⟨x,t,rfl,e⟩
theorem key_ll (a b:Int):decide ((Sum.inl a:Key)=Sum.inl b)=(a == b):=by
  by_cases e:a=b
  · subst e;simp
  · have h:¬ (Sum.inl a:Key)=Sum.inl b:=fun q=>e (Sum.inl.inj q)
    rw [decide_eq_false h]
    exact (beq_eq_false_iff_ne.mpr e).symm
theorem key_rr (a b:Str):decide ((Sum.inr a:Key)=Sum.inr b)=decide (a=b):=by
  by_cases e:a=b
  · subst e;simp
  · have h:¬ (Sum.inr a:Key)=Sum.inr b:=fun q=>e (Sum.inr.inj q)
    rw [decide_eq_false h,decide_eq_false e]
theorem key_lr (a:Int) (b:Str):decide ((Sum.inl a:Key)=Sum.inr b)=false:=decide_eq_false (fun q=>nomatch q)
theorem key_rl (a:Str) (b:Int):decide ((Sum.inr a:Key)=Sum.inl b)=false:=decide_eq_false (fun q=>nomatch q)
noncomputable def mixKind (prog:Program) (w:World):PySem.KeyKind prog w Key where
  is:=keyIs
  hash:=keyH w
  inj:=fun v a b ha hb=>by
    rcases keyIs_shape ha with ⟨i,t,rfl,rfl⟩ | ⟨x,t,rfl,rfl⟩
    · rcases keyIs_shape hb with ⟨j,u,rfl,e⟩ | ⟨y,u,rfl,e⟩
      · injection e with e1 _;rw [e1]
      · exact nomatch e
    · rcases keyIs_shape hb with ⟨j,u,rfl,e⟩ | ⟨y,u,rfl,e⟩
      · exact nomatch e
      · injection e with e1 _;rw [e1]
  byValue:=fun k v h=>by
    rcases keyIs_shape h with ⟨i,t,rfl,rfl⟩ | ⟨x,t,rfl,rfl⟩ <;> rfl
  pyHash:=fun hv h=>by
    rcases keyIs_shape hv with ⟨i,t,rfl,rfl⟩ | ⟨x,t,rfl,rfl⟩
    · exact wpAny_pyHash_int h
    · exact wpAny_pyHash_str h
  eqBool:=fun hu hv h=>by
    rcases keyIs_shape hu with ⟨i,t,rfl,rfl⟩ | ⟨x,t,rfl,rfl⟩
    · rcases keyIs_shape hv with ⟨j,u,rfl,rfl⟩ | ⟨y,u,rfl,rfl⟩
      · rw [key_ll] at h;exact wpAny_eqBool_int h
      · rw [key_lr] at h;exact SeqAt.EqAt.int_str i t y u _ _ _ _ h
    · rcases keyIs_shape hv with ⟨j,u,rfl,rfl⟩ | ⟨y,u,rfl,rfl⟩
      · rw [key_rl] at h;exact SeqAt.EqAt.str_int x t j u _ _ _ _ h
      · rw [key_rr] at h;exact wpAny_eqBool_str h
  «strs»:=fun k x t v h=>by
    rcases keyIs_shape h with ⟨i,u,rfl,e⟩ | ⟨y,u,rfl,e⟩
    · exact nomatch e
    · injection e with e1 _
      subst e1
      cases v <;> rfl
end L2
namespace L2
open PySem PySem.Spec PyProof.Rows
inductive V where
  | non | bl (b:Bool) | int (i:Int) | str (x:Str) | byt (b:Array UInt8) | flt (b:UInt64) | ref (a:Addr) | ty (n:String)
  deriving DecidableEq
noncomputable def RelV:V→Value→Prop
  | .non,u=>u=Value.none
  | .bl b,u=>u=Value.bool b
  | .int i,u=>∃ t,u=Value.int i t
  | .str x,u=>∃ t,u=Value.str x t
  | .byt b,u=>∃ t,u=Value.bytes b t
  | .flt b,u=>∃ t,u=Value.float b t
  | .ref a,u=>u=Value.ref a
  | .ty n,u=>u=Value.type n
noncomputable abbrev Vals:List V→List Value→Prop:=Paired RelV
theorem Vals.length {xs:List V} {us:List Value} (r:Vals xs us):xs.length=us.length:=Paired.length r
theorem Vals.get:∀ {xs:List V} {us:List Value} {i:Nat} {x:V},Vals xs us→xs[i]? = some x→∃ u,us[i]? = some u∧RelV x u
  | _,_,_,_,.nil,e=>by simp at e
  | _,_,0,_,.cons r _,e=>by simp at e;subst e;exact ⟨_,rfl,r⟩
  | _,_,i + 1,x,.cons _ t,e=>by
    obtain ⟨u,h1,h2⟩:=Vals.get (i:=i) (x:=x) t (by simpa using e)
    exact ⟨u,by simpa using h1,h2⟩
theorem Vals.set {x:V} {u:Value} (r:RelV x u):∀ {xs:List V} {us:List Value} (i:Nat),Vals xs us→Vals (xs.set i x) (us.set i u)
  | _,_,_,.nil=>.nil
  | _,_,0,.cons _ t=>.cons r t
  | _,_,i + 1,.cons q t=>.cons q (Vals.set r i t)
theorem Vals.append:∀ {xs ys:List V} {us ws:List Value},Vals xs us→Vals ys ws→Vals (xs++ys) (us++ws)
  | _,_,_,_,.nil,s=>s
  | _,_,_,_,.cons r t,s=>.cons r (Vals.append t s)
theorem Vals.take:∀ {xs:List V} {us:List Value} (n:Nat),Vals xs us→Vals (xs.take n) (us.take n)
  | _,_,0,_=>.nil
  | _,_,_ + 1,.nil=>.nil
  | _,_,n + 1,.cons r t=>.cons r (Vals.take n t)
noncomputable def RelO:Option V→Option Value→Prop
  | some v,some u=>RelV v u
  | none,none=>True
  | _,_=>False
noncomputable def KV {κ:Type}:List (κ×V)→List (κ×Value)→Prop:=Paired fun (p:κ×V) (q:κ×Value)=>p.1=q.1∧RelV p.2 q.2
noncomputable def kV:Key→V
  | .inl i=>.int i
  | .inr x=>.str x
inductive HO where
  | lst (xs:List V)
  | tup (xs:List V)
  | dK (kvs:List (Key×V)) | dT (kvs:List (List Key×V))
  | set (S:Int→Bool) (n:Nat)
  | ins (C dx:Addr) (fs:List (Str×V))
  | own (x:Addr)
  | xd (fs:List (Str×V))
  | met (f x:Addr)
  | rng (lo hi:Int)
  | frz (o:Obj) (u:HO)
  | tbl (ps:Array Value)
  | ext (φ:Heap→Prop)
noncomputable abbrev Hp:=Addr→Option HO
noncomputable def upd (H:Hp) (a:Addr) (o:HO):Hp:=fun b=>if b=a then some o else H b
theorem upd_same {H:Hp} {a:Addr} {o:HO}:upd H a o a=some o:=by unfold upd;rw [if_pos rfl]
theorem upd_ne {H:Hp} {a b:Addr} {o:HO} (h:b≠a):upd H a o b=H b:=by unfold upd;rw [if_neg h]
theorem ne_of_none {H:Hp} {a b:Addr} {o:HO} (h:H a=some o) (h':H b=none):a≠b:=by
  intro e;subst e;rw [h] at h';cases h'
section
variable (P:Program) (w:World)
noncomputable def ObjOk (H:Hp) (h:Heap) (a:Addr):HO→Prop
  | .lst xs=>xs.length≤sizeLine∧∃ (its:List Value) (n:Nat),Vals xs its∧h.get? a=some { cls:=.type "list",data:=.seq its.toArray n }
  | .tup xs=>xs.length≤sizeLine∧∃ its:List Value,Vals xs its∧IsTup h a its.toArray
  | .dK kvs=>kvs.length≤sizeLine∧(a == sysModules)=false∧∃ vs,KV kvs vs∧h.DictOf (mixKind P w) a vs
  | .dT kvs=>kvs.length≤sizeLine∧(a == sysModules)=false∧∃ xs:List (List Key×Addr×Value),
      Paired (fun (p:List Key×V) (q:List Key×Addr×Value)=>p.1=q.1∧H q.2.1=some (.tup (p.1.map kV))∧RelV p.2 q.2.2) kvs xs ∧
      ∃ o es ep,h.get? a=some o∧o.ExactDict∧o.data = .dict es ep∧es.toList=xs.map (entryOfKey (tupleKind (mixKind P w)))∧(xs.map (·.1)).Nodup
  | .set S n=>h.SetOf (intKind P w) a S n
  | .ins C dx fs=>H dx=some (.own a)∧fs.length≤1000∧dx≠a∧h.get? a=some (PySem.W.instObj C dx) ∧
      ∃ mA,h.Ns1 dx mA∧(∀ f,RelO (fs.lookup f) (mA f))∧PySem.Within mA (fs.map (·.1))
  | .own _=>∃ o,h.get? a=some o
  | .xd fs=>∃ mA,h.Ns1 a mA∧∀ f,RelO (fs.lookup f) (mA f)
  | .rng lo hi=>∃ t u v,h.get? a=some { cls:=.type "range",data:=.fields #[.int lo t,.int hi u,.int 1 v] }
  | .frz o u=>h.get? a=some o∧ObjOk H h a u
  | .tbl ps=>h.get? a=some { cls:=.none,data:=.fields ps }
  | .met f x=>h.get? a=some (PySem.W.methodObj (.ref f) (.ref x))
  | .ext φ=>φ h∧(∃ o,h.get? a=some o)∧∀ h1 h2:Heap,φ h1→(∀ o,h1.get? a=some o→h2.get? a=some o)→φ h2
noncomputable def HOk (H:Hp) (h:Heap):Prop:=∀ a o,H a=some o→ObjOk P w H h a o
end
section
variable {P:Program} {w:World} {H H':Hp} {h h':Heap} {a:Addr} {o:HO}
theorem ObjOk.lt (x:ObjOk P w H h a o):a < h.objs.size:=by
  cases o with
  | lst xs=>obtain ⟨_,_,_,_,e⟩:=x;exact Heap.lt_size e
  | tup xs=>obtain ⟨_,_,_,p⟩:=x;exact p.lt
  | dK kvs=>obtain ⟨_,_,_,_,o,_,_,e,_⟩:=x;exact Heap.lt_size e
  | dT kvs=>obtain ⟨_,_,_,_,o,_,_,e,_⟩:=x;exact Heap.lt_size e
  | set S n=>obtain ⟨o,_,_,_,e,_⟩:=x;exact Heap.lt_size e
  | ins C dx fs=>obtain ⟨_,_,_,e,_⟩:=x;exact Heap.lt_size e
  | own y=>obtain ⟨_,e⟩:=x;exact Heap.lt_size e
  | xd fs=>obtain ⟨_,⟨_,_,_,e,_⟩,_⟩:=x;exact Heap.lt_size e
  | rng lo hi=>obtain ⟨_,_,_,e⟩:=x;exact Heap.lt_size e
  | frz ob u=>obtain ⟨e,_⟩:=x;exact Heap.lt_size e
  | tbl ps=>exact Heap.lt_size (show h.get? a=some _ from x)
  | met f y=>exact Heap.lt_size (show h.get? a=some _ from x)
  | ext φ=>obtain ⟨_,⟨_,e⟩,_⟩:=x;exact Heap.lt_size e
theorem Paired.mapP {α β:Type} {F G:α→β→Prop}:∀ {l₁:List α} {l₂:List β},Paired F l₁ l₂→(∀ a b,F a b→G a b)→Paired G l₁ l₂
  | _,_,.nil,_=>.nil
  | _,_,.cons r t,f=>.cons (f _ _ r) (Paired.mapP t f)
theorem ObjOk.stay (x:ObjOk P w H h a o) (k:∀ b u,(b=a∨H b=some (.own a))→h.get? b=some u→h'.get? b=some u)
    (ho:∀ b,H b=some (.own a)→H' b=some (.own a)) (ht:∀ b xs,H b=some (.tup xs)→H' b=some (.tup xs)):ObjOk P w H' h' a o:=by
  induction o with
  | lst xs=>obtain ⟨z,its,n,r,e⟩:=x;exact ⟨z,its,n,r,k _ _ (.inl rfl) e⟩
  | tup xs=>obtain ⟨z,its,r,ob,e,c⟩:=x;exact ⟨z,its,r,ob,k _ _ (.inl rfl) e,c⟩
  | dK kvs=>obtain ⟨z,y,vs,r,ob,es,ep,e,c⟩:=x;exact ⟨z,y,vs,r,ob,es,ep,k _ _ (.inl rfl) e,c⟩
  | dT kvs =>
    obtain ⟨z,y,xs,r,ob,es,ep,e,c⟩:=x
    exact ⟨z,y,xs,Paired.mapP r fun p q z=>⟨z.1,ht _ _ z.2.1,z.2.2⟩,ob,es,ep,k _ _ (.inl rfl) e,c⟩
  | set S n=>obtain ⟨ob,es,ep,t,e,c⟩:=x;exact ⟨ob,es,ep,t,k _ _ (.inl rfl) e,c⟩
  | ins C dx fs =>
    obtain ⟨d,z,ne,e,mA,⟨od,es,ep,e2,c⟩,r⟩:=x
    exact ⟨ho _ d,z,ne,k _ _ (.inl rfl) e,mA,⟨od,es,ep,k _ _ (.inr d) e2,c⟩,r⟩
  | own y=>obtain ⟨ob,e⟩:=x;exact ⟨ob,k _ _ (.inl rfl) e⟩
  | xd fs=>obtain ⟨mA,⟨od,es,ep,e,c⟩,r⟩:=x;exact ⟨mA,⟨od,es,ep,k _ _ (.inl rfl) e,c⟩,r⟩
  | rng lo hi=>obtain ⟨t,u,v,e⟩:=x;exact ⟨t,u,v,k _ _ (.inl rfl) e⟩
  | frz ob u ih=>obtain ⟨e,q⟩:=x;exact ⟨k _ _ (.inl rfl) e,ih q⟩
  | tbl ps =>
    have e:h.get? a=some { cls:=.none,data:=.fields ps }:=x
    show h'.get? a=some { cls:=.none,data:=.fields ps }
    exact k a _ (.inl rfl) e
  | met f y =>
    have e:h.get? a=some (PySem.W.methodObj (.ref f) (.ref y)):=x
    show h'.get? a=some (PySem.W.methodObj (.ref f) (.ref y))
    exact k a _ (.inl rfl) e
  | ext φ=>obtain ⟨p,⟨o,e⟩,st⟩:=x;exact ⟨st _ _ p fun o q=>k _ _ (.inl rfl) q,⟨o,k _ _ (.inl rfl) e⟩,st⟩
theorem HOk.lt (x:HOk P w H h) (e:H a=some o):a < h.objs.size:=(x a o e).lt
theorem HOk.fresh (x:HOk P w H h) (e:h.objs.size≤a):H a=none:=by
  cases q:H a with
  | none=>rfl
  | some u=>exact absurd (Nat.lt_of_lt_of_le (x.lt q) e) (Nat.lt_irrefl _)
theorem HOk.kept (x:HOk P w H h) (k:∀ b u,h.get? b=some u→h'.get? b=some u):HOk P w H h':=fun a o e =>
  (x a o e).stay (fun b u _ q=>k b u q) (fun _ q=>q) fun _ _ q=>q
theorem HOk.laid (x:HOk P w H h) (k:∀ b u,h.get? b=some u→h'.get? b=some u) (hp:h.objs.size≤a) (new:ObjOk P w (upd H a o) h' a o):HOk P w (upd H a o) h':=fun b u e=>by
  have hn:=x.fresh hp
  by_cases hb:b=a
  · subst hb;rw [upd_same] at e;cases e;exact new
  · rw [upd_ne hb] at e
    exact (x b u e).stay (fun c v _ q=>k c v q) (fun c q=>by rw [upd_ne (ne_of_none q hn)];exact q) fun c xs q=>by rw [upd_ne (ne_of_none q hn)];exact q
end
noncomputable def Rd (H:Hp) (a:Addr) (u:HO):Prop:=H a=some u∨∃ o,H a=some (.frz o u)
theorem Rd.ok {P:Program} {w:World} {H:Hp} {h:Heap} {a:Addr} {u:HO} (r:Rd H a u) (x:HOk P w H h):ObjOk P w H h a u:=by
  rcases r with r | ⟨o,r⟩
  · exact x a u r
  · obtain ⟨_,q⟩:=x a _ r
    exact q
noncomputable def Mut:Option HO→Prop
  | some (.lst _)=>True
  | some (.dK _)=>True
  | some (.dT _)=>True
  | some (.set _ _)=>True
  | some (.ins _ _ _)=>True
  | some (.ext _)=>True
  | _=>False
section
variable {P:Program} {w:World} {H:Hp} {h h':Heap} {x e:Addr} {o':HO}
theorem HOk.write (ok:HOk P w H h) (mu:Mut (H x)) (he:e=x∨H e=some (.own x)) (k:∀ b u,b≠e→h.get? b=some u→h'.get? b=some u) (heo:∃ u,h'.get? e=some u)
    (new:ObjOk P w (upd H x o') h' x o'):HOk P w (upd H x o') h':=fun b u q=>by
  have nown:∀ c y,H c=some (.own y)→c≠x:=fun c y r z=>by subst z;rw [r] at mu;exact mu
  have ntup:∀ c xs,H c=some (.tup xs)→c≠x:=fun c xs r z=>by subst z;rw [r] at mu;exact mu
  by_cases hb:b=x
  · subst hb;rw [upd_same] at q;cases q;exact new
  · rw [upd_ne hb] at q
    by_cases hbe:b=e
    · have q':H b=some (.own x):=by
        rcases he with z | z
        · exact absurd (hbe.trans z) hb
        · rw [hbe];exact z
      rw [q] at q';cases q'
      obtain ⟨v,hv⟩:=heo
      exact ⟨v,by rw [hbe];exact hv⟩
    · refine (ok b u q).stay (fun c v hc r=>k c v ?_ r) (fun c r=>by rw [upd_ne (nown c b r)];exact r) fun c xs r=>by rw [upd_ne (ntup c xs r)];exact r
      rcases hc with rfl | hc
      · exact hbe
      · rintro rfl
        rcases he with z | z
        · exact nown c b hc z
        · rw [hc] at z;cases z;exact hb rfl
end
structure Un (fs ex:List Addr) (H H':Hp) (h h':Heap):Prop where
  keep:∀ b o,h.get? b=some o→H b=none→b ∉ fs→b ∉ ex→h'.get? b=some o
  slot:∀ b o,h.get? b=some o→H b=none→b∈fs→b ∉ ex→∃ sl,h'.get? b=some { o with slots:=sl }
  free:∀ b o,h.get? b=some o→H b=none→b ∉ ex→H' b=none
  there:∀ b o,h.get? b=some o→b ∉ ex→∃ o',h'.get? b=some o'
  tups:∀ b xs,H b=some (.tup xs)→H' b=some (.tup xs)
  frzs:∀ b o u,H b=some (.frz o u)→H' b=some (.frz o u)
  tbls:∀ b ps,H b=some (.tbl ps)→∃ more,H' b=some (.tbl (ps++more))
section
variable {fs fs' ex ex':List Addr} {H H1 H2:Hp} {h h1 h2 h':Heap} {a x e:Addr} {o:HO}
theorem Un.any (u:Un fs ex H H1 h h1) {b:Addr} {ob:Obj} (q:h.get? b=some ob) (n:H b=none) (hx:b ∉ ex):∃ sl,h1.get? b=some { ob with slots:=sl }:=by
  by_cases hb:b∈fs
  · exact u.slot b ob q n hb hx
  · exact ⟨ob.slots,u.keep b ob q n hb hx⟩
theorem Un.trans (a:Un fs ex H H1 h h1) (b:Un fs ex H1 H2 h1 h2):Un fs ex H H2 h h2 where
  keep:=fun c ob q n hc hx=>b.keep c ob (a.keep c ob q n hc hx) (a.free c ob q n hx) hc hx
  slot:=fun c ob q n hc hx=>by
    obtain ⟨sl,e1⟩:=a.slot c ob q n hc hx
    obtain ⟨sl',e2⟩:=b.slot c _ e1 (a.free c ob q n hx) hc hx
    exact ⟨sl',e2⟩
  free:=fun c ob q n hx=>by
    obtain ⟨o',e1⟩:=a.there c ob q hx
    exact b.free c o' e1 (a.free c ob q n hx) hx
  there:=fun c ob q hx=>by
    obtain ⟨o',e1⟩:=a.there c ob q hx
    exact b.there c o' e1 hx
  tups:=fun c xs q=>b.tups c xs (a.tups c xs q)
  frzs:=fun c ob xs q=>b.frzs c ob xs (a.frzs c ob xs q)
  tbls:=fun c ps q=>by
    obtain ⟨m1,e1⟩:=a.tbls c ps q
    obtain ⟨m2,e2⟩:=b.tbls c _ e1
    exact ⟨m1++m2,by rw [e2,Array.append_assoc]⟩
theorem Un.kept (k:∀ b u,h.get? b=some u→h'.get? b=some u):Un fs ex H H h h' :=
  ⟨fun b ob q _ _ _=>k b ob q,fun b ob q _ _ _=>⟨ob.slots,k b ob q⟩,fun _ _ _ n _=>n,fun b ob q _=>⟨ob,k b ob q⟩,fun _ _ q=>q,fun _ _ _ q=>q,fun _ ps q=>⟨#[],by rw [q];simp⟩⟩
theorem Un.refl:Un fs ex H H h h:=Un.kept fun _ _ q=>q
theorem Un.laid (k:∀ b u,h.get? b=some u→h'.get? b=some u) (hp:h.objs.size≤a) (hn:H a=none):Un fs ex H (upd H a o) h h' where
  keep:=fun b u q _ _ _=>k b u q
  slot:=fun b u q _ _ _=>⟨u.slots,k b u q⟩
  free:=fun b u q n _=>by rw [upd_ne (Nat.ne_of_lt (Nat.lt_of_lt_of_le (Heap.lt_size q) hp))];exact n
  there:=fun b u q _=>⟨u,k b u q⟩
  tups:=fun b xs q=>by rw [upd_ne (ne_of_none q hn)];exact q
  frzs:=fun b u xs q=>by rw [upd_ne (ne_of_none q hn)];exact q
  tbls:=fun b ps q=>⟨#[],by rw [upd_ne (ne_of_none q hn),q];simp⟩
theorem Un.write (mu:Mut (H x)) (he:e=x∨H e=some (.own x)) (k:∀ b u,b≠e→h.get? b=some u→h'.get? b=some u) (heo:∃ u,h'.get? e=some u):Un fs ex H (upd H x o) h h':=by
  have hx:∀ b,H b=none→b≠x:=fun b n z=>by subst z;rw [n] at mu;exact mu
  have hb:∀ b,H b=none→b≠e:=fun b n z=>by
    subst z
    rcases he with r | r
    · exact hx b n r
    · rw [n] at r;cases r
  have hm:∀ b u,H b=some u→¬ Mut (some u)→b≠x:=fun b u q nm z=>by subst z;rw [q] at mu;exact nm mu
  refine ⟨fun b u q n _ _=>k b u (hb b n) q,fun b u q n _ _=>⟨u.slots,k b u (hb b n) q⟩,fun b u q n _=>by rw [upd_ne (hx b n)];exact n,fun b u q _=>?_,
    fun b xs q=>by rw [upd_ne (hm b _ q fun z=>z)];exact q,fun b u xs q=>by rw [upd_ne (hm b _ q fun z=>z)];exact q,fun b ps q=>⟨#[],by rw [upd_ne (hm b _ q fun z=>z),q];simp⟩⟩
  by_cases hbe:b=e
  · subst hbe;exact heo
  · exact ⟨u,k b u hbe q⟩
end
noncomputable def trk (h:Heap) (H:Hp):List Addr:=(List.range h.objs.size).filter fun a=>(H a).isSome
noncomputable def hidT (h:Heap) (H:Hp):Heap:=PySem.W.hideAll h (trk h H)
theorem hidT_size (h:Heap) (H:Hp):(hidT h H).objs.size=h.objs.size:=PySem.W.hideAll_size _ _
theorem hidT_get {h:Heap} {H:Hp} {b:Addr} {o:Obj} (e:h.get? b=some o) (n:H b=none):(hidT h H).get? b=some o :=
  PySem.W.hideAll_get _ e fun hm=>by
    have q:(H b).isSome=true:=(List.mem_filter.mp hm).2
    rw [n] at q;simp at q
theorem of_hidT {h:Heap} {H:Hp} {b:Addr} {o:Obj} (e:(hidT h H).get? b=some o):h.get? b=some o∧H b=none:=by
  have e':h.get? b=some o:=PySem.W.of_hideAll (trk h H) e
  refine ⟨e',?_⟩
  cases q:H b with
  | none=>rfl
  | some x =>
    have hm:b∈trk h H:=List.mem_filter.mpr ⟨List.mem_range.mpr (Heap.lt_size e'),by simp [q]⟩
    have z:(hidT h H).get? b=none:=PySem.W.hideAll_none (trk h H) hm
    rw [z] at e;cases e
noncomputable def allNews (g h:Heap) (L:Addr):List (Addr×Obj):=(List.range h.objs.size).filterMap fun a=>if a=L∨(g.get? a).isSome=true then none else (h.get? a).map fun o=>(a,o)
noncomputable def rest (g h:Heap) (L d:Addr):List (Addr×Obj):=(allNews g h L).filter fun p=>decide (p.1≠d)
end L2
namespace L2
open PySem PySem.Spec PyProof.Rows
structure Mod (K:PySem.W.Frag) (mg:Str→Option Value) (base:Heap):Prop where
  kin:K.In base
  glob:base.Ns mainGlobals mg
  blt:∃ mb,base.Ns builtinsNs mb∧∀ x:Str,x≠"__name__"→mb x=bootBuiltins x
  nolimit:base.NoLimit
structure Cx where
  prog:Program
  w:World
  K:PySem.W.Frag
  mg:Str→Option Value
  base:Heap
  A:Around
  N:List Str
  s₀:Shared
  H₀:Hp
  env:Env
  outer:List Env
  stack:List Env
  ex:List Addr
  fn:Str→Bool
  calm:Bool
  pn:List (Addr×Obj)
  xe:Value→Shared→Prop
noncomputable def frs (l:List Env):List Addr:=l.filterMap (·.frame)
noncomputable abbrev Cx.fs (X:Cx):List Addr:=frs X.outer
noncomputable def Vis (sc:Scope) (x:Str):Prop:=sc.names.lookup x=some .local∨sc.names.lookup x=some .cell∨sc.names.lookup x=some .free
noncomputable def Loc (sc:Scope) (x:Str):Prop:=sc.names.lookup x=some .local∨sc.names.lookup x=some .cell
noncomputable def Look (env:Env) (h:Heap) (m:Str→Option Value) (x:Str) (u:Value):Prop :=
  (env.kindOf x=some .local∧m x=some u)∨((env.kindOf x=some .cell∨env.kindOf x=some .free)∧∃ c,env.cells.lookup x=some c∧h.IsCell c (some u))
structure Cx.Ok (X:Cx):Prop where
  mod:Mod X.K X.mg X.base
  kind:X.env.scope.kind = .function
  glob:X.env.globals=mainGlobals
  blt:X.env.builtins=builtinsNs
  above:X.s₀.heap.objs.size≤X.env.locals
  inj:∀ x y c,X.env.cells.lookup x=some c→X.env.cells.lookup y=some c→x=y
  has:∀ x,(X.env.kindOf x=some .cell∨X.env.kindOf x=some .free)→∃ c,X.env.cells.lookup x=some c
  cab:∀ x c,X.fn x=true→X.env.cells.lookup x=some c→X.s₀.heap.objs.size≤c
  hd:X.calm=true→X.A.handled=none
  frames:X.A.frames=some X.stack
  stk:X.stack=X.outer∨(X.stack=X.env :: X.outer∧X.env.frame=some X.env.locals)
  exf:∀ b∈X.ex,b≠X.env.locals∧∀ x c,X.env.cells.lookup x=some c→c≠b
  bs:∀ b o,X.base.get? b=some o→X.s₀.heap.get? b=some o∧X.H₀ b=none
  bsz:X.base.objs.size≤X.s₀.heap.objs.size
  noex:∀ b o,X.base.get? b=some o→b ∉ X.ex
  exfs:∀ b∈X.ex,b ∉ X.fs
  funs:X.s₀.heap.FunFrames X.base X.outer
  frf:∀ b∈X.fs,X.H₀ b=none
structure Inv (X:Cx) (pins:List (Addr×Obj)) (σ:List (Option V)) (H:Hp) (s:Shared):Prop where
  ok:X.Ok
  os:s.os=X.s₀.os
  bare:AllBare s.gens
  base:Un X.fs X.ex X.H₀ H X.s₀.heap s.heap
  loc:∃ m,s.heap.Ns X.env.locals m∧∀ (i:Nat) (x:Str) (v:V),X.N[i]? = some x→σ[i]? = some (some v)→Vis X.env.scope x→∃ u,RelV v u∧Look X.env s.heap m x u
  cell:∀ x c,X.env.cells.lookup x=some c→∃ v,s.heap.IsCell c v
  free:H X.env.locals=none
  freeC:∀ x c,X.env.cells.lookup x=some c→H c=none
  pin:∀ p∈X.pn++pins,s.heap.get? p.1=some p.2∧H p.1=none∧p.1≠X.env.locals∧p.1 ∉ X.fs∧∀ v,p.2.data≠.cell v
  hok:HOk X.prog X.w H s.heap
  len:σ.length=X.N.length
section
variable {X:Cx} {pins:List (Addr×Obj)} {σ:List (Option V)} {H H':Hp} {s:Shared} {h':Heap}
theorem Cx.Ok.nofr (ok:X.Ok) {b:Addr} {o:Obj} (e:X.base.get? b=some o):b ∉ X.fs:=fun hb=>by
  have:=(ok.funs.mem hb).1
  rw [e] at this;cases this
theorem Inv.bs (I:Inv X pins σ H s):∀ b o,X.base.get? b=some o→s.heap.get? b=some o∧H b=none:=fun b o e =>
  ⟨I.base.keep b o (I.ok.bs b o e).1 (I.ok.bs b o e).2 (I.ok.nofr e) (I.ok.noex b o e),I.base.free b o (I.ok.bs b o e).1 (I.ok.bs b o e).2 (I.ok.noex b o e)⟩
theorem Inv.bk (I:Inv X pins σ H s):∀ b o,X.base.get? b=some o→s.heap.get? b=some o:=fun b o e=>(I.bs b o e).1
theorem Inv.mod (I:Inv X pins σ H s):Mod X.K X.mg X.base:=I.ok.mod
theorem Inv.kIn (I:Inv X pins σ H s):X.K.In s.heap:=I.ok.mod.kin.keeps I.bk
theorem Inv.lt (I:Inv X pins σ H s):X.env.locals < s.heap.objs.size:=let ⟨_,hn,_⟩:=I.loc;hn.lt
theorem Inv.sz (I:Inv X pins σ H s):X.s₀.heap.objs.size≤s.heap.objs.size:=Nat.le_trans I.ok.above (Nat.le_of_lt I.lt)
theorem Inv.nofs (I:Inv X pins σ H s) {a:Addr} (h:s.heap.objs.size≤a):a ∉ X.fs:=fun hb=>by
  obtain ⟨_,o,ho,_⟩:=I.ok.funs.mem hb
  exact absurd (Nat.lt_of_lt_of_le (Heap.lt_size ho) (Nat.le_trans I.sz h)) (Nat.lt_irrefl _)
theorem Inv.cne (I:Inv X pins σ H s):∀ x c,X.env.cells.lookup x=some c→c≠X.env.locals:=fun x c e z=>by
  obtain ⟨v,o,ho,hd⟩:=I.cell x c e
  obtain ⟨m,⟨o',es,ep,ho',hd',_⟩,_⟩:=I.loc
  rw [z,ho'] at ho;cases ho;rw [hd'] at hd;cases hd
theorem Inv.funs (I:Inv X pins σ H s):s.heap.FunFrames X.base X.outer:=by
  have all:∀ (l:List Env),(∀ b∈frs l,b∈X.fs)→X.s₀.heap.FunFrames X.base l→s.heap.FunFrames X.base l:=by
    intro l
    induction l with
    | nil=>intro _ _;trivial
    | cons env r ih =>
      intro hs hl
      obtain ⟨hk,⟨L,o,hf,hn,ho,hd⟩,hr⟩:=hl
      have hL:L∈X.fs:=hs L (by unfold frs;rw [List.filterMap_cons,hf];exact List.mem_cons_self)
      obtain ⟨sl,e⟩:=I.base.slot L o ho (I.ok.frf L hL) hL fun z=>I.ok.exfs L z hL
      exact ⟨hk,⟨L,_,hf,hn,e,hd⟩,ih (fun b hb=>hs b (by unfold frs;rw [List.filterMap_cons,hf];exact List.mem_cons_of_mem _ hb)) hr⟩
  exact all X.outer (fun _ hb=>hb) I.ok.funs
theorem Inv.stack (I:Inv X pins σ H s):s.heap.FunFrames X.base X.stack:=by
  rcases I.ok.stk with e | ⟨e,hf⟩
  · rw [e];exact I.funs
  · rw [e]
    obtain ⟨m,hn,_⟩:=I.loc
    refine .cons (by rw [I.ok.kind];decide) hf hn ?_ I.funs
    exact Heap.get?_none_of_le (Nat.le_trans I.ok.bsz I.ok.above)
theorem Inv.stkSub (I:Inv X pins σ H s):∀ b∈frs X.stack,b∈X.env.locals :: X.fs:=fun b hb=>by
  rcases I.ok.stk with e | ⟨e,hf⟩
  · rw [e] at hb;exact List.mem_cons_of_mem _ hb
  · rw [e] at hb
    unfold frs at hb
    rw [List.filterMap_cons,hf] at hb
    exact hb
theorem Inv.stkFree (I:Inv X pins σ H s):∀ b∈frs X.stack,H b=none:=fun b hb=>by
  rcases List.mem_cons.mp (I.stkSub b hb) with e | hb
  · rw [e];exact I.free
  · obtain ⟨_,o,ho,_⟩:=I.ok.funs.mem hb
    exact I.base.free b o ho (I.ok.frf b hb) fun z=>I.ok.exfs b z hb
theorem Inv.step {g':Array GenState} {t':Nat} {d':Drawn} {ch:List Addr} (I:Inv X pins σ H s)
    (hch:∀ b∈ch,(b∈X.ex∨X.s₀.heap.objs.size≤b)∧b≠X.env.locals∧(∀ x c,X.env.cells.lookup x=some c→c≠b)∧∀ p∈X.pn++pins,p.1≠b)
    (keep:∀ b o,b≠X.env.locals→b ∉ X.fs→b ∉ ch→s.heap.get? b=some o→H b=none→h'.get? b=some o)
    (slot:∀ b o,b≠X.env.locals→b∈X.fs→b ∉ ch→s.heap.get? b=some o→H b=none→∃ sl,h'.get? b=some { o with slots:=sl }) (free:∀ b o,b ∉ ch→s.heap.get? b=some o→H b=none→H' b=none)
    (there:∀ b o,b ∉ ch→s.heap.get? b=some o→∃ o',h'.get? b=some o')
    (tups:∀ b xs,H b=some (.tup xs)→H' b=some (.tup xs)) (frzs:∀ b o u,H b=some (.frz o u)→H' b=some (.frz o u)) (tbls:∀ b ps,H b=some (.tbl ps)→∃ more,H' b=some (.tbl (ps++more)))
    (ns:∀ m,s.heap.Ns X.env.locals m→h'.Ns X.env.locals m) (hok:HOk X.prog X.w H' h') (hg:AllBare g') :
    Inv X pins σ H' { s with heap:=h',gens:=g',drawn:=d',toks:=t' }:=by
  have neL:∀ b o,X.s₀.heap.get? b=some o→b≠X.env.locals:=fun b o e=>Nat.ne_of_lt (Nat.lt_of_lt_of_le (Heap.lt_size e) I.ok.above)
  have neC:∀ b o,X.s₀.heap.get? b=some o→b ∉ X.ex→b ∉ ch:=fun b o e hx hb=>by
    rcases (hch b hb).1 with z | z
    · exact hx z
    · exact absurd (Nat.lt_of_lt_of_le (Heap.lt_size e) z) (Nat.lt_irrefl _)
  have cellK:∀ x c,X.env.cells.lookup x=some c→∀ v,s.heap.IsCell c v→h'.IsCell c v:=fun x c e v ⟨o,ho,hd⟩=>by
    have nch:c ∉ ch:=fun z=>(hch c z).2.2.1 x c e rfl
    by_cases hc:c∈X.fs
    · obtain ⟨sl,q⟩:=slot c o (I.cne x c e) hc nch ho (I.freeC x c e)
      exact ⟨_,q,hd⟩
    · exact ⟨o,keep c o (I.cne x c e) hc nch ho (I.freeC x c e),hd⟩
  refine ⟨I.ok,I.os,hg,⟨fun b o e n hb hx=>?_,fun b o e n hb hx=>?_,fun b o e n hx=>?_,fun b o e hx=>?_,fun b xs e=>tups b xs (I.base.tups b xs e),fun b o xs e=>frzs b o xs (I.base.frzs b o xs e),fun b ps e=>?_⟩,?_,fun x c e=>?_,?_,fun x c e=>?_,fun p hp=>?_,hok,I.len⟩
  · exact keep b o (neL b o e) hb (neC b o e hx) (I.base.keep b o e n hb hx) (I.base.free b o e n hx)
  · obtain ⟨sl,e1⟩:=I.base.slot b o e n hb hx
    obtain ⟨sl',e2⟩:=slot b _ (neL b o e) hb (neC b o e hx) e1 (I.base.free b o e n hx)
    exact ⟨sl',e2⟩
  · obtain ⟨o',e1⟩:=I.base.there b o e hx
    exact free b o' (neC b o e hx) e1 (I.base.free b o e n hx)
  · obtain ⟨o',e1⟩:=I.base.there b o e hx
    exact there b o' (neC b o e hx) e1
  · obtain ⟨m1,e1⟩:=I.base.tbls b ps e
    obtain ⟨m2,e2⟩:=tbls b _ e1
    exact ⟨m1++m2,by rw [e2,Array.append_assoc]⟩
  · obtain ⟨m,hn,hl⟩:=I.loc
    refine ⟨m,ns m hn,fun i x v e1 e2 e3=>?_⟩
    obtain ⟨u,r,l⟩:=hl i x v e1 e2 e3
    refine ⟨u,r,?_⟩
    rcases l with l | ⟨k,c,e,z⟩
    · exact .inl l
    · exact .inr ⟨k,c,e,cellK x c e _ z⟩
  · obtain ⟨v,z⟩:=I.cell x c e
    exact ⟨v,cellK x c e v z⟩
  · obtain ⟨m,⟨o,_,_,ho,_⟩,_⟩:=I.loc
    exact free _ o (fun z=>(hch _ z).2.1 rfl) ho I.free
  · obtain ⟨v,o,ho,hd⟩:=I.cell x c e
    exact free c o (fun z=>(hch c z).2.2.1 x c e rfl) ho (I.freeC x c e)
  · obtain ⟨e,n,ne,nf,d⟩:=I.pin p hp
    have nch:p.1 ∉ ch:=fun z=>(hch p.1 z).2.2.2 p hp rfl
    exact ⟨keep p.1 p.2 ne nf nch e n,free p.1 p.2 nch e n,ne,nf,d⟩
theorem Inv.un {t':Nat} (I:Inv X pins σ H s) (u:Un X.fs [] H H' s.heap h') (hok:HOk X.prog X.w H' h'):Inv X pins σ H' { s with heap:=h',toks:=t' }:=by
  obtain ⟨m,⟨o,es,ep,ho,r⟩,_⟩:=id I.loc
  obtain ⟨sl,hL⟩:=u.any ho I.free (by simp)
  exact I.step (g':=s.gens) (d':=s.drawn) (ch:=[]) (fun _ z=>nomatch z) (fun b o _ hb _ e n=>u.keep b o e n hb (by simp)) (fun b o _ hb _ e n=>u.slot b o e n hb (by simp)) (fun b o _ e n=>u.free b o e n (by simp)) (fun b o _ e=>u.there b o e (by simp)) u.tups u.frzs u.tbls (fun m' hm=>by
    obtain ⟨o',es',ep',ho',r'⟩:=hm
    rw [ho] at ho';cases ho'
    exact ⟨_,es',ep',hL,r'⟩) hok I.bare
theorem Inv.call {g':Array GenState} {t':Nat} {d':Drawn} {ch:List Addr} (I:Inv X pins σ H s) (u:Un (frs X.stack) ch H H' s.heap h') (hok:HOk X.prog X.w H' h') (hg:AllBare g')
    (hch:∀ b∈ch,(b∈X.ex∨X.s₀.heap.objs.size≤b)∧b≠X.env.locals∧(∀ x c,X.env.cells.lookup x=some c→c≠b)∧∀ p∈X.pn++pins,p.1≠b) :
    Inv X pins σ H' { s with heap:=h',gens:=g',drawn:=d',toks:=t' }:=by
  obtain ⟨m,⟨o,es,ep,ho,r⟩,_⟩:=id I.loc
  obtain ⟨sl,hL⟩:=u.any ho I.free fun z=>(hch _ z).2.1 rfl
  exact I.step (ch:=ch) hch (fun b o hL hb hc e n=>u.keep b o e n (fun z=>(List.mem_cons.mp (I.stkSub b z)).elim hL hb) hc) (fun b o _ _ hc e n=>u.any e n hc) (fun b o hc e n=>u.free b o e n hc) (fun b o hc e=>u.there b o e hc) u.tups u.frzs u.tbls (fun m' hm=>by
    obtain ⟨o',es',ep',ho',r'⟩:=hm
    rw [ho] at ho';cases ho'
    exact ⟨_,es',ep',hL,r'⟩) hok hg
theorem Inv.turned {t':Nat} {it:Addr} (I:Inv X pins σ H s) (k:∀ b o,b≠it→s.heap.get? b=some o→h'.get? b=some o) (hn:H it=none) (hL:it≠X.env.locals)
    (h1:it∈X.ex∨X.s₀.heap.objs.size≤it) (h2:∀ x c,X.env.cells.lookup x=some c→c≠it) (h3:∀ p∈X.pn++pins,p.1≠it):Inv X pins σ H { s with heap:=h',toks:=t' }:=by
  have nit:∀ b u,H b=some u→b≠it:=fun b u e z=>by rw [z,hn] at e;cases e
  refine I.step (g':=s.gens) (d':=s.drawn) (ch:=[it]) (fun b hb=>?_) (fun b o _ _ hc e _=>k b o (fun z=>hc (by simp [z])) e) (fun b o _ _ hc e _=>⟨o.slots,k b o (fun z=>hc (by simp [z])) e⟩) (fun _ _ _ _ n=>n)
    (fun b o hc e=>⟨o,k b o (fun z=>hc (by simp [z])) e⟩) (fun _ _ e=>e) (fun _ _ _ e=>e) (fun b ps e=>⟨#[],by rw [e];simp⟩) (fun m hm=>?_) (fun b u e=>?_) I.bare
  · have e:b=it:=by simpa using hb
    subst e
    exact ⟨h1,hL,h2,h3⟩
  · obtain ⟨o,es,ep,ho,r⟩:=hm
    exact ⟨o,es,ep,k _ o (Ne.symm hL) ho,r⟩
  · refine (I.hok b u e).stay (fun c v hc q=>k c v ?_ q) (fun _ q=>q) fun _ _ q=>q
    rcases hc with z | z
    · rw [z];exact nit b u e
    · exact nit c _ z
theorem Inv.tok (I:Inv X pins σ H s) (t:Nat):Inv X pins σ H { s with toks:=t }:=I.un (h':=s.heap) (t':=t) Un.refl I.hok
theorem Inv.kept {t':Nat} (I:Inv X pins σ H s) (k:∀ b u,s.heap.get? b=some u→h'.get? b=some u):Inv X pins σ H { s with heap:=h',toks:=t' }:=I.un (Un.kept k) (I.hok.kept k)
theorem Inv.laid {a:Addr} {o:HO} {t':Nat} (I:Inv X pins σ H s) (k:∀ b u,s.heap.get? b=some u→h'.get? b=some u) (hp:s.heap.objs.size≤a) (new:ObjOk X.prog X.w (upd H a o) h' a o) :
    Inv X pins σ (upd H a o) { s with heap:=h',toks:=t' }:=I.un (Un.laid k hp (I.hok.fresh hp)) (I.hok.laid k hp new)
theorem Inv.write {x e:Addr} {o:HO} {t':Nat} (I:Inv X pins σ H s) (mu:Mut (H x)) (he:e=x∨H e=some (.own x)) (k:∀ b u,b≠e→s.heap.get? b=some u→h'.get? b=some u) (heo:∃ u,h'.get? e=some u)
    (new:ObjOk X.prog X.w (upd H x o) h' x o):Inv X pins σ (upd H x o) { s with heap:=h',toks:=t' }:=I.un (Un.write mu he k heo) (I.hok.write mu he k heo new)
theorem Inv.pins_of {pins':List (Addr×Obj)} (I:Inv X pins σ H s) (h:∀ p∈pins',s.heap.get? p.1=some p.2∧H p.1=none∧p.1≠X.env.locals∧p.1 ∉ X.fs∧∀ v,p.2.data≠.cell v):Inv X pins' σ H s :=
  ⟨I.ok,I.os,I.bare,I.base,I.loc,I.cell,I.free,I.freeC,fun p hp=>(List.mem_append.mp hp).elim (fun z=>I.pin p (List.mem_append_left _ z)) (h p),I.hok,I.len⟩
theorem nodup_ix {N:List Str} (hN:N.Nodup) {i j:Nat} {x:Str} (a:N[i]? = some x) (b:N[j]? = some x):i=j:=by
  obtain ⟨h1,e1⟩:=List.getElem?_eq_some_iff.mp a
  obtain ⟨h2,e2⟩:=List.getElem?_eq_some_iff.mp b
  exact (List.getElem_inj hN).mp (e1.trans e2.symm)
theorem store_ok2 {M:Model} {A:Around} {E:Value→Shared→Prop} {i:Nat} {x:Str} {v:V} {u:Value} {Q:Unit→Shared→Prop} (I:Inv X pins σ H s) (hN:X.N.Nodup) (hi:X.N[i]? = some x) (hx:Loc X.env.scope x) (r:RelV v u)
    (h:∀ s',Inv X pins (σ.set i (some v)) H s'→(∃ a,Heap.SameBut a s.heap s'.heap∧(a=X.env.locals∨X.env.cells.lookup x=some a))→Q () s') (hf:X.fn x=true∨X.env.scope.names.lookup x=some .local:=by first | exact .inl rfl | exact .inr rfl | assumption):wpAny M A (storeName X.env x u) Q E s:=by
  obtain ⟨m,hn,hl⟩:=id I.loc
  have hcls:(X.env.scope.kind == .class || (X.env.scope.kind == .module && X.env.locals != X.env.globals))=false:=by rw [I.ok.kind];rfl
  have hiσ:i < σ.length:=by rw [I.len];exact (List.getElem?_eq_some_iff.mp hi).1
  have cne:=I.cne
  have tracked:∀ {a:Addr} {h':Heap},(∃ o,s.heap.get? a=some o∧H a=none)→Heap.SameBut a s.heap h'→HOk X.prog X.w H h':=fun {a h'} ha hs b ob e=>by
    obtain ⟨_,_,hfree⟩:=ha
    refine (I.hok b ob e).stay (fun c w' hc q=>(hs.2 c ?_).trans q) (fun _ q=>q) fun _ _ q=>q
    rintro rfl
    rcases hc with rfl | hc
    · rw [hfree] at e;cases e
    · rw [hfree] at hc;cases hc
  rcases hx with hk | hk
  · refine wpAny_storeName_local hk hn (fun h' hn' hs=>?_) hcls
    obtain ⟨oL,_,_,hoL,_⟩:=id hn
    refine h _ ⟨I.ok,I.os,I.bare,⟨fun b o e n hb hx=>?_,fun b o e n hb hx=>?_,I.base.free,fun b o e hx=>?_,I.base.tups,I.base.frzs,I.base.tbls⟩,⟨_,hn',fun j y v' e1 e2 e3=>?_⟩,fun y c e=>?_,I.free,I.freeC,fun p hp=>?_,tracked ⟨oL,hoL,I.free⟩ hs,by simpa using I.len⟩ ⟨_,hs,.inl rfl⟩
    · exact (hs.2 b (Nat.ne_of_lt (Nat.lt_of_lt_of_le (Heap.lt_size e) I.ok.above))).trans (I.base.keep b o e n hb hx)
    · obtain ⟨sl,e1⟩:=I.base.slot b o e n hb hx
      exact ⟨sl,(hs.2 b (Nat.ne_of_lt (Nat.lt_of_lt_of_le (Heap.lt_size e) I.ok.above))).trans e1⟩
    · obtain ⟨o',e1⟩:=I.base.there b o e hx
      exact ⟨o',(hs.2 b (Nat.ne_of_lt (Nat.lt_of_lt_of_le (Heap.lt_size e) I.ok.above))).trans e1⟩
    · by_cases hj:j=i
      · subst hj
        rw [hi] at e1;cases e1
        rw [List.getElem?_set_self hiσ] at e2
        cases e2
        exact ⟨u,r,.inl ⟨hk,by simp⟩⟩
      · rw [List.getElem?_set_ne (Ne.symm hj)] at e2
        obtain ⟨u',r',q⟩:=hl j y v' e1 e2 e3
        refine ⟨u',r',?_⟩
        rcases q with ⟨k,e⟩ | ⟨k,c,e,z⟩
        · refine .inl ⟨k,?_⟩
          have:y≠x:=fun e=>hj (nodup_ix hN e1 (e ▸ hi))
          simp [this,e]
        · exact .inr ⟨k,c,e,z.sameBut hs (cne y c e)⟩
    · obtain ⟨w',z⟩:=I.cell y c e
      exact ⟨w',z.sameBut hs (cne y c e)⟩
    · obtain ⟨e,n,ne,nf,d⟩:=I.pin p hp
      exact ⟨(hs.2 p.1 ne).trans e,n,ne,nf,d⟩
  · have hfn:X.fn x=true:=by
      rcases hf with z | z
      · exact z
      · rw [z] at hk;cases hk
    obtain ⟨c,hc⟩:=I.ok.has x (.inl hk)
    obtain ⟨w',z⟩:=I.cell x c hc
    refine wpAny_storeName_cell I.ok.kind hk hc z (fun h' hc' hs=>?_)
    obtain ⟨oc,hoc,hocd⟩:=id z
    refine h { s with heap:=h' } ⟨I.ok,I.os,I.bare,⟨fun b o e n hb hx=>?_,fun b o e n hb hx=>?_,I.base.free,fun b o e hx=>?_,I.base.tups,I.base.frzs,I.base.tbls⟩,⟨m,hn.sameBut hs (Ne.symm (cne x c hc)),fun j y v' e1 e2 e3=>?_⟩,fun y c' e=>?_,I.free,I.freeC,fun p hp=>?_,tracked ⟨oc,hoc,I.freeC x c hc⟩ hs,by simpa using I.len⟩ ⟨c,hs,.inr hc⟩
    · exact (hs.2 b (Nat.ne_of_lt (Nat.lt_of_lt_of_le (Heap.lt_size e) (I.ok.cab x c hfn hc)))).trans (I.base.keep b o e n hb hx)
    · obtain ⟨sl,e1⟩:=I.base.slot b o e n hb hx
      exact ⟨sl,(hs.2 b (Nat.ne_of_lt (Nat.lt_of_lt_of_le (Heap.lt_size e) (I.ok.cab x c hfn hc)))).trans e1⟩
    · obtain ⟨o',e1⟩:=I.base.there b o e hx
      exact ⟨o',(hs.2 b (Nat.ne_of_lt (Nat.lt_of_lt_of_le (Heap.lt_size e) (I.ok.cab x c hfn hc)))).trans e1⟩
    · by_cases hj:j=i
      · subst hj
        rw [hi] at e1;cases e1
        rw [List.getElem?_set_self hiσ] at e2
        cases e2
        exact ⟨u,r,.inr ⟨.inl hk,c,hc,hc'⟩⟩
      · rw [List.getElem?_set_ne (Ne.symm hj)] at e2
        obtain ⟨u',r',q⟩:=hl j y v' e1 e2 e3
        refine ⟨u',r',?_⟩
        rcases q with q | ⟨k,c',e,z'⟩
        · exact .inl q
        · refine .inr ⟨k,c',e,z'.sameBut hs ?_⟩
          rintro rfl
          exact hj (nodup_ix hN e1 (I.ok.inj _ _ _ e hc ▸ hi))
    · by_cases hcc:c'=c
      · subst hcc;exact ⟨_,hc'⟩
      · obtain ⟨w2,z2⟩:=I.cell y c' e
        exact ⟨w2,z2.sameBut hs hcc⟩
    · obtain ⟨e,n,ne,nf,d⟩:=I.pin p hp
      refine ⟨(hs.2 p.1 ?_).trans e,n,ne,nf,d⟩
      intro q
      rw [q,hoc] at e
      have q':oc=p.2:=Option.some.inj e
      exact d w' (by rw [← q'];exact hocd)
theorem store_ok {M:Model} {A:Around} {E:Value→Shared→Prop} {i:Nat} {x:Str} {v:V} {u:Value} {Q:Unit→Shared→Prop} (I:Inv X pins σ H s) (hN:X.N.Nodup) (hi:X.N[i]? = some x) (hx:Loc X.env.scope x) (r:RelV v u)
    (h:∀ s',Inv X pins (σ.set i (some v)) H s'→Q () s') (hf:X.fn x=true∨X.env.scope.names.lookup x=some .local:=by first | exact .inl rfl | exact .inr rfl | assumption):wpAny M A (storeName X.env x u) Q E s :=
  store_ok2 I hN hi hx r (fun s' I' _=>h s' I') hf
theorem Inv.call' {s':Shared} {ch:List Addr} (I:Inv X pins σ H s) (ho:s'.os=s.os) (u:Un (frs X.stack) ch H H' s.heap s'.heap) (hok:HOk X.prog X.w H' s'.heap) (hg:AllBare s'.gens)
    (hch:∀ b∈ch,(b∈X.ex∨X.s₀.heap.objs.size≤b)∧b≠X.env.locals∧(∀ x c,X.env.cells.lookup x=some c→c≠b)∧∀ p∈X.pn++pins,p.1≠b):Inv X pins σ H' s':=by
  obtain ⟨h',g',d',t',o'⟩:=s'
  have e:o'=s.os:=ho
  subst e
  exact I.call (g':=g') (t':=t') (d':=d') u hok hg hch
end
noncomputable abbrev XK:=Value→Option Addr→Hp→Prop
noncomputable abbrev St:=List (Option V)
noncomputable abbrev VK:=V→Hp→Prop
noncomputable abbrev TE:=St→Hp→VK→Prop
noncomputable abbrev TT:=St→Hp→(Bool→Hp→Prop)→Prop
noncomputable abbrev TA:=St→Hp→(List V→Hp→Prop)→Prop
structure Ends where
  nx:St→Hp→Prop
  rt:VK
  bk:St→Hp→Prop:=fun _ _=>False
  ct:St→Hp→Prop:=fun _ _=>False
noncomputable abbrev TS:=Ends→St→Hp→Prop
noncomputable def EP (X:Cx) (pins:List (Addr×Obj)) (σ:St) (Q:VK) (u:Value) (s':Shared):Prop:=∃ v H',Inv X pins σ H' s'∧RelV v u∧Q v H'
noncomputable def TP (X:Cx) (pins:List (Addr×Obj)) (σ:St) (Q:Bool→Hp→Prop) (b:Bool) (s':Shared):Prop:=∃ H',Inv X pins σ H' s'∧Q b H'
noncomputable def AP (X:Cx) (pins:List (Addr×Obj)) (σ:St) (Q:List V→Hp→Prop) (us:List Value) (s':Shared):Prop:=∃ vs H',Inv X pins σ H' s'∧Vals vs us∧Q vs H'
noncomputable def SP (X:Cx) (pins:List (Addr×Obj)) (D:Ends) (f:Flow) (s':Shared):Prop :=
  match f with
  | .next=>∃ σ' H',Inv X pins σ' H' s'∧D.nx σ' H'
  | .brk=>∃ σ' H',Inv X pins σ' H' s'∧D.bk σ' H'
  | .cont=>∃ σ' H',Inv X pins σ' H' s'∧D.ct σ' H'
  | .ret u=>∃ v σ' H',Inv X pins σ' H' s'∧RelV v u∧D.rt v H'
noncomputable def PE (X:Cx) (e:Expr) (t:TE):Prop :=
  ∀ (pins:List (Addr×Obj)) (s:Shared) (σ:St) (H:Hp) (Q:VK),Inv X pins σ H s→t σ H Q→wpAny (model X.prog X.w) X.A (eval e X.env) (EP X pins σ Q) X.xe s
noncomputable def PT (X:Cx) (e:Expr) (t:TT):Prop :=
  ∀ (pins:List (Addr×Obj)) (s:Shared) (σ:St) (H:Hp) (Q:Bool→Hp→Prop),Inv X pins σ H s→t σ H Q→wpAny (model X.prog X.w) X.A (isTrue e X.env (eval e X.env)) (TP X pins σ Q) X.xe s
noncomputable def PW (X:Cx) (e:Expr) (t:TT):Prop :=
  ∀ (whole:Sem Value) (pins:List (Addr×Obj)) (s:Shared) (σ:St) (H:Hp) (Q:Bool→Hp→Prop),Inv X pins σ H s→t σ H Q→wpAny (model X.prog X.w) X.A (isTrue e X.env whole) (TP X pins σ Q) X.xe s
theorem PW.pt {X:Cx} {e:Expr} {t:TT} (h:PW X e t):PT X e t:=h _
noncomputable def PA (X:Cx) (es:List Expr) (t:TA):Prop :=
  ∀ (pos:Pos) (pins:List (Addr×Obj)) (s:Shared) (σ:St) (H:Hp) (Q:List V→Hp→Prop),Inv X pins σ H s→t σ H Q→wpAny (model X.prog X.w) X.A (spliced (backTo pos (starEach es X.env))) (AP X pins σ Q) X.xe s
noncomputable def PS (X:Cx) (st:Stmt) (t:TS):Prop :=
  ∀ (pins:List (Addr×Obj)) (s:Shared) (σ:St) (H:Hp) (D:Ends),Inv X pins σ H s→t D σ H→wpAny (model X.prog X.w) X.A (exec st X.env) (SP X pins D) X.xe s
noncomputable def PSs (X:Cx) (st:List Stmt) (t:TS):Prop :=
  ∀ (pins:List (Addr×Obj)) (s:Shared) (σ:St) (H:Hp) (D:Ends),Inv X pins σ H s→t D σ H→wpAny (model X.prog X.w) X.A (execs st X.env) (SP X pins D) X.xe s
theorem thn {α:Type} {t:Sem α} {Q Q':α→Shared→Prop} {M:Model} {A:Around} {E:Value→Shared→Prop} {s:Shared} (h:wpAny M A t Q E s) (hQ:∀ a s,Q a s→Q' a s):wpAny M A t Q' E s:=wpAny_mono h hQ fun _ _ x=>x
end L2
namespace L2
open PySem PySem.Spec PyProof.Rows
section
variable {X:Cx}
noncomputable def tVar (i:Nat):TE:=fun σ H Q=>∃ v,σ[i]? = some (some v)∧Q v H
noncomputable def tC (v:V):TE:=fun _ H Q=>Q v H
theorem pe_var {i:Nat} {x:Str} {pos:Pos} (hN:X.N[i]? = some x) (hv:Vis X.env.scope x) (hd:(x == ("__debug__":Str))=false:=by decide) (hcd:(x == ("__classdict__":Str))=false:=by decide):PE X (.Name x pos) (tVar i):=by
  intro pins s σ H Q I h
  obtain ⟨v,e,h⟩:=h
  obtain ⟨m,hn,hl⟩:=I.loc
  obtain ⟨u,r,l⟩:=hl i x v hN e hv
  have fin:EP X pins σ Q u s:=⟨v,H,I,r,h⟩
  rcases l with ⟨hk,hm⟩ | ⟨hk,c,hc,hcell⟩
  · exact wpAny_Name (wpAny_loadName_local I.ok.kind hk hn hm fin) hd
  · rcases hk with hk | hk
    · exact wpAny_Name (wpAny_loadName_cell I.ok.kind hk hc hcell fin) hd
    · exact wpAny_Name (wpAny_loadName_free I.ok.kind hk hc hcell fin hcd) hd
theorem pe_int {i j pos}:PE X (.Constant (.int i) j pos) (tC (.int i)):=fun _ _ _ H _ I h=>wpAny_Constant_int ⟨.int i,H,I.tok _,⟨_,rfl⟩,h⟩
theorem pe_bl {b j pos}:PE X (.Constant (.bool b) j pos) (tC (.bl b)):=fun _ _ _ H _ I h=>Constant_bool ⟨.bl b,H,I,rfl,h⟩
theorem pe_non {j pos}:PE X (.Constant .none j pos) (tC .non):=fun _ _ _ H _ I h=>Constant_none ⟨.non,H,I,rfl,h⟩
theorem pe_str {x j pos}:PE X (.Constant (.str x) j pos) (tC (.str x)):=fun _ _ _ H _ I h=>Calls.Constant_str ⟨.str x,H,I.tok _,⟨_,rfl⟩,h⟩
noncomputable def Gl (X:Cx) (x:Str):Prop:=X.env.kindOf x=some .globalImplicit
theorem ld_glob {E:Value→Shared→Prop} {pins:List (Addr×Obj)} {s:Shared} {σ:St} {H:Hp} {x:Str} {u:Value} {pos:Pos} {Q:Value→Shared→Prop} (I:Inv X pins σ H s) (hg:Gl X x) (hm:X.mg x=some u) (h:Q u s)
    (hd:(x == ("__debug__":Str))=false:=by decide):wpAny (model X.prog X.w) X.A (eval (.Name x pos) X.env) Q E s :=
  Calls.Name_function_global I.ok.kind hg (Calls.loadGlobal_global (by rw [I.ok.glob];exact I.mod.glob.keeps I.bk) hm h) hd
theorem ld_blt {E:Value→Shared→Prop} {pins:List (Addr×Obj)} {s:Shared} {σ:St} {H:Hp} {x:Str} {u:Value} {pos:Pos} {Q:Value→Shared→Prop} (I:Inv X pins σ H s) (hg:Gl X x) (hm:X.mg x=none) (hv:bootBuiltins x=some u) (h:Q u s)
    (hn:x≠"__name__":=by decide) (hd:(x == ("__debug__":Str))=false:=by decide):wpAny (model X.prog X.w) X.A (eval (.Name x pos) X.env) Q E s:=by
  obtain ⟨mb,h1,h2⟩:=I.mod.blt
  exact Calls.Name_function_global I.ok.kind hg (Calls.loadGlobal_builtin (by rw [I.ok.glob];exact I.mod.glob.keeps I.bk) hm (by rw [I.ok.blt];exact h1.keeps I.bk) ((h2 x hn).trans hv) h) hd
theorem pe_glob {x:Str} {v:V} {u:Value} {pos:Pos} (hg:Gl X x) (hm:X.mg x=some u) (r:RelV v u) (hd:(x == ("__debug__":Str))=false:=by decide):PE X (.Name x pos) (tC v) :=
  fun _ _ _ H _ I h=>ld_glob I hg hm ⟨v,H,I,r,h⟩ hd
theorem pe_bltn {x:Str} {v:V} {u:Value} {pos:Pos} (hg:Gl X x) (hm:X.mg x=none) (hv:bootBuiltins x=some u) (r:RelV v u) (hn:x≠"__name__":=by decide) (hd:(x == ("__debug__":Str))=false:=by decide):PE X (.Name x pos) (tC v) :=
  fun _ _ _ H _ I h=>ld_blt I hg hm hv ⟨v,H,I,r,h⟩ hn hd
variable {a b:Expr} {ta tb:TE} {pos:Pos}
noncomputable def tB (t:TE):TT:=fun σ H Q=>t σ H fun x H1=>∃ c,x = .bl c∧Q c H1
theorem pt_val {e:Expr} {t:TE} (h:PE X e t) (he:∀ whole,isTrue e X.env whole=(do let v ← whole;standAt e.pos;holding [v] (truthy v)):=by intro _;rfl):PT X e (tB t):=by
  intro pins s σ H Q I hw
  refine isTrue_plain (thn (h pins s σ H _ I hw) fun v s1 hpq=>?_) (he _)
  obtain ⟨x,H1,I1,r1,q1⟩:=hpq
  obtain ⟨d,rfl,q⟩:=q1
  cases r1
  exact wpAny_truthy_bool ⟨H1,I1,q⟩
variable {tA tB':TT} {rest:List Expr}
noncomputable def tAnd (t u:TT):TT:=fun σ H Q=>t σ H fun c H1=>if c=true then u σ H1 Q else Q false H1
noncomputable def tOr (t u:TT):TT:=fun σ H Q=>t σ H fun c H1=>if c=true then Q true H1 else u σ H1 Q
noncomputable def tNot (t:TT):TT:=fun σ H Q=>t σ H fun c H1=>Q (!c) H1
theorem pw_and1 (ha:PT X a tA):PW X (.BoolOp .And [a] pos) tA:=by
  intro wh pins s σ H Q I h
  refine isTrue_and (thn (ha pins s σ H Q I h) fun c s1 e=>?_)
  cases c with
  | true=>exact isTrue_and_nil e
  | false=>exact e
theorem pw_or1 (ha:PT X a tA):PW X (.BoolOp .Or [a] pos) tA:=by
  intro wh pins s σ H Q I h
  refine isTrue_or (thn (ha pins s σ H Q I h) fun c s1 e=>?_)
  cases c with
  | false=>exact isTrue_or_nil e
  | true=>exact e
theorem pw_and (ha:PT X a tA) (hb:PW X (.BoolOp .And (b :: rest) pos) tB'):PW X (.BoolOp .And (a :: b :: rest) pos) (tAnd tA tB'):=by
  intro wh pins s σ H Q I h
  refine isTrue_and (thn (ha pins s σ H _ I h) fun c s1 hpq=>?_)
  obtain ⟨H1,I1,q1⟩:=hpq
  cases c with
  | true=>exact hb wh pins s1 σ H1 Q I1 q1
  | false=>exact ⟨H1,I1,q1⟩
theorem pw_or (ha:PT X a tA) (hb:PW X (.BoolOp .Or (b :: rest) pos) tB'):PW X (.BoolOp .Or (a :: b :: rest) pos) (tOr tA tB'):=by
  intro wh pins s σ H Q I h
  refine isTrue_or (thn (ha pins s σ H _ I h) fun c s1 hpq=>?_)
  obtain ⟨H1,I1,q1⟩:=hpq
  cases c with
  | true=>exact ⟨H1,I1,q1⟩
  | false=>exact hb wh pins s1 σ H1 Q I1 q1
theorem pt_not (ha:PT X a tA):PT X (.UnaryOp .Not a pos) (tNot tA):=by
  intro pins s σ H Q I h
  exact isTrue_not (ha pins s σ H (fun c H1=>Q (!c) H1) I h)
noncomputable def tAndV (ta tb:TE):TE:=fun σ H Q=>ta σ H fun x H1=>∃ c,x = .bl c∧if c=true then tb σ H1 Q else Q (.bl false) H1
noncomputable def tNotV (ta:TE):TE:=fun σ H Q=>ta σ H fun x H1=>∃ c,x = .bl c∧Q (.bl (!c)) H1
theorem pe_one {op} {t:TE} (h:PE X a t):PE X (.BoolOp op [a] pos) t:=fun pins s σ H Q I hw=>BoolOp_one (h pins s σ H Q I hw)
theorem pe_and (ha:PE X a ta) (hb:PE X (.BoolOp .And (b :: rest) pos) tb):PE X (.BoolOp .And (a :: b :: rest) pos) (tAndV ta tb):=by
  intro pins s σ H Q I h
  refine BoolOp_and (thn (ha pins s σ H _ I h) fun v s1 hpq=>?_)
  obtain ⟨x,H1,I1,r1,q1⟩:=hpq
  obtain ⟨c,rfl,q1⟩:=q1
  cases r1
  refine wpAny_truthy_bool ?_
  cases c with
  | true=>exact hb pins s1 σ H1 Q I1 q1
  | false=>exact ⟨.bl false,H1,I1,rfl,q1⟩
theorem pe_not (ha:PE X a ta):PE X (.UnaryOp .Not a pos) (tNotV ta):=by
  intro pins s σ H Q I h
  refine UnaryOp_ (thn (ha pins s σ H _ I h) fun v s1 hpq=>?_)
  obtain ⟨x,H1,I1,r1,q1⟩:=hpq
  obtain ⟨c,rfl,q1⟩:=q1
  cases r1
  exact not_of (wpAny_truthy_bool ⟨.bl (!c),H1,I1,rfl,q1⟩)
noncomputable def tIf (t:TT) (ta tb:TE):TE:=fun σ H Q=>t σ H fun c H1=>if c=true then ta σ H1 Q else tb σ H1 Q
theorem pe_ifExp {c:Expr} (hc:PT X c tA) (ha:PE X a ta) (hb:PE X b tb):PE X (.IfExp c a b pos) (tIf tA ta tb):=by
  intro pins s σ H Q I h
  refine wpAny_IfExp (thn (hc pins s σ H _ I h) fun d s1 hpq=>?_)
  obtain ⟨H1,I1,q1⟩:=hpq
  cases d with
  | true=>exact ha pins s1 σ H1 Q I1 q1
  | false=>exact hb pins s1 σ H1 Q I1 q1
end
end L2
namespace L2
open PySem PySem.Spec PyProof.Rows
noncomputable def SqL (K:PySem.W.Frag) (H:Hp) (a:Addr) (xs:List V):Prop :=
  Rd H a (.lst xs) ∨
    ∃ (o:Obj) (its:Array Value) (n:Nat),K.lookup a=some o∧o.cls = .type "list"∧o.dict=none∧o.data = .seq its n∧its.size≤sizeLine∧Vals xs its.toList
noncomputable def SqT (K:PySem.W.Frag) (H:Hp) (a:Addr) (xs:List V):Prop :=
  Rd H a (.tup xs) ∨
    ∃ (o:Obj) (its:Array Value) (n:Nat),K.lookup a=some o∧o.cls = .type "tuple"∧o.data = .seq its n∧its.size≤sizeLine∧Vals xs its.toList
noncomputable def absV:Value→Option V
  | .none=>some .non
  | .bool b=>some (.bl b)
  | .int i _=>some (.int i)
  | .str x _=>some (.str x)
  | .bytes b _=>some (.byt b)
  | .float b _=>some (.flt b)
  | .ref a=>some (.ref a)
  | .type n=>some (.ty n)
  | _=>none
theorem RelV.abs {x:V} {u:Value} (r:RelV x u):absV u=some x:=by
  cases x with
  | non=>cases r;rfl
  | bl _=>cases r;rfl
  | int _=>obtain ⟨t,rfl⟩:=r;rfl
  | str _=>obtain ⟨t,rfl⟩:=r;rfl
  | byt _=>obtain ⟨t,rfl⟩:=r;rfl
  | flt _=>obtain ⟨t,rfl⟩:=r;rfl
  | ref _=>cases r;rfl
  | ty _=>cases r;rfl
theorem RelV.inj {x y:V} {u:Value} (r:RelV x u) (q:RelV y u):x=y:=Option.some.inj (r.abs.symm.trans q.abs)
theorem Vals.inj:∀ {xs ys:List V} {us:List Value},Vals xs us→Vals ys us→xs=ys
  | _,_,_,.nil,.nil=>rfl
  | _,_,_,.cons r t,.cons r' t'=>by rw [r.inj r',Vals.inj t t']
section
variable {X:Cx} {pins:List (Addr×Obj)} {σ:St} {H:Hp} {s:Shared} {a:Addr} {xs ys:List V}
theorem Inv.list (I:Inv X pins σ H s) (h:SqL X.K H a xs):∃ its:List Value,Vals xs its∧PlainL s.heap a its.toArray∧xs.length≤sizeLine:=by
  rcases h with h | ⟨o,its,n,hk,hc,hd,hs,hz,r⟩
  · obtain ⟨z,its,n,r,e⟩:=h.ok I.hok
    exact ⟨its,r,⟨_,n,e,rfl,rfl,rfl⟩,z⟩
  · refine ⟨its.toList,r,⟨o,n,I.kIn a o hk,hc,hd,by simpa using hs⟩,?_⟩
    have e:=r.length
    simp only [Array.length_toList] at e
    omega
theorem Inv.tuple (I:Inv X pins σ H s) (h:SqT X.K H a xs):∃ its:List Value,Vals xs its∧IsTup s.heap a its.toArray∧xs.length≤sizeLine:=by
  rcases h with h | ⟨o,its,n,hk,hc,hs,hz,r⟩
  · obtain ⟨z,its,r,p⟩:=h.ok I.hok
    exact ⟨its,r,p,z⟩
  · refine ⟨its.toList,r,⟨o,I.kIn a o hk,hc,n,by simpa using hs⟩,?_⟩
    have e:=r.length
    simp only [Array.length_toList] at e
    omega
theorem Inv.list_inj (I:Inv X pins σ H s) (h:SqL X.K H a xs) (h':SqL X.K H a ys):xs=ys:=by
  obtain ⟨its,r,⟨o,n,e,_,_,d⟩,_⟩:=I.list h
  obtain ⟨its',r',⟨o',n',e',_,_,d'⟩,_⟩:=I.list h'
  rw [e] at e';cases e'
  rw [d] at d'
  injection d' with d1 _
  have:its=its':=by simpa using congrArg Array.toList d1
  subst this
  exact r.inj r'
end
noncomputable abbrev Cx.wish (X:Cx) (E:Value→Shared→Prop):Cx:={ X with xe:=E }
noncomputable abbrev Cx.nox (X:Cx):Cx:=X.wish fun _ _=>False
theorem Cx.Ok.wish {X:Cx} (ok:X.Ok) (E:Value→Shared→Prop):(X.wish E).Ok :=
  ⟨ok.mod,ok.kind,ok.glob,ok.blt,ok.above,ok.inj,ok.has,ok.cab,ok.hd,ok.frames,ok.stk,ok.exf,ok.bs,ok.bsz,ok.noex,ok.exfs,ok.funs,ok.frf⟩
theorem Cx.Ok.unwish {X:Cx} {E:Value→Shared→Prop} (ok:(X.wish E).Ok):X.Ok :=
  ⟨ok.mod,ok.kind,ok.glob,ok.blt,ok.above,ok.inj,ok.has,ok.cab,ok.hd,ok.frames,ok.stk,ok.exf,ok.bs,ok.bsz,ok.noex,ok.exfs,ok.funs,ok.frf⟩
section
variable {X:Cx} {pins:List (Addr×Obj)} {σ:St} {H:Hp} {s:Shared} {E:Value→Shared→Prop}
theorem Inv.wish (I:Inv X pins σ H s) (E:Value→Shared→Prop):Inv (X.wish E) pins σ H s:=⟨I.ok.wish E,I.os,I.bare,I.base,I.loc,I.cell,I.free,I.freeC,I.pin,I.hok,I.len⟩
theorem Inv.unwish (I:Inv (X.wish E) pins σ H s):Inv X pins σ H s:=⟨I.ok.unwish,I.os,I.bare,I.base,I.loc,I.cell,I.free,I.freeC,I.pin,I.hok,I.len⟩
theorem SP.unwish {D:Ends} {f:Flow} {s':Shared} (h:SP (X.wish E) pins D f s'):SP X pins D f s':=by
  cases f with
  | next=>obtain ⟨σ',H',I,q⟩:=h;exact ⟨σ',H',I.unwish,q⟩
  | brk=>obtain ⟨σ',H',I,q⟩:=h;exact ⟨σ',H',I.unwish,q⟩
  | cont=>obtain ⟨σ',H',I,q⟩:=h;exact ⟨σ',H',I.unwish,q⟩
  | ret u=>obtain ⟨v,σ',H',I,r,q⟩:=h;exact ⟨v,σ',H',I.unwish,r,q⟩
theorem PSs.nox {st:List Stmt} {t:TS} (h:PSs X.nox st t):PSs X st t:=fun pins s σ H D I hw =>
  wpAny_mono (h pins s σ H D (I.wish _) hw) (fun _ _ q=>q.unwish) fun _ _ z=>False.elim z
end
section
variable {X:Cx} {st:Stmt} {rest:List Stmt} {t u:TS} {e:Expr} {te:TE} {pos:Pos}
noncomputable def tNext:TS:=fun D σ H=>D.nx σ H
noncomputable def tSeq (t u:TS):TS:=fun D σ H=>t { D with nx:=u D } σ H
theorem pss_nil:PSs X [] tNext:=fun _ _ σ H _ I h=>wpAny_execs_nil ⟨σ,H,I,h⟩
theorem pss_cons (h1:PS X st t) (h2:PSs X rest u):PSs X (st :: rest) (tSeq t u):=by
  intro pins s σ H D I h
  refine wpAny_execs_cons (thn (h1 pins s σ H { D with nx:=u D } I h) fun f s1 q=>?_)
  cases f with
  | next =>
    obtain ⟨σ',H',I',q⟩:=q
    exact h2 pins s1 σ' H' D I' q
  | ret v=>exact q
  | brk=>exact q
  | cont=>exact q
theorem pss_one (h1:PS X st t):PSs X [st] t:=by
  intro pins s σ H D I h
  refine wpAny_execs_cons (thn (h1 pins s σ H D I h) fun f s1 q=>?_)
  cases f with
  | next=>exact wpAny_execs_nil q
  | ret v=>exact q
  | brk=>exact q
  | cont=>exact q
theorem Inv.quiet {pins:List (Addr×Obj)} {σ:St} {H:Hp} {s:Shared} (I:Inv X pins σ H s):interactive X.env=false:=by simp [interactive,I.ok.kind]
noncomputable def tDrop (te:TE):TS:=fun D σ H=>te σ H fun _ H1=>D.nx σ H1
theorem ps_expr (he:PE X e te) (hs:swapsWith e none pos.line X.env=pure false:=by rfl):PS X (.Expr e pos) (tDrop te):=by
  intro pins s σ H D I h
  exact wpAny_Expr_any (thn (he pins s σ H _ I h) fun v s1 ⟨x,H1,I1,r1,q1⟩=>⟨σ,H1,I1,q1⟩) I.quiet hs
noncomputable def tRet (te:TE):TS:=fun D σ H=>te σ H D.rt
theorem ps_ret (he:PE X e te):PS X (.Return (some e) pos) (tRet te):=by
  intro pins s σ H D I h
  exact wpAny_Return_some (thn (he pins s σ H _ I h) fun v s1 ⟨x,H1,I1,r1,q1⟩=>⟨x,σ,H1,I1,r1,q1⟩)
noncomputable def tIfS (c:TT) (t u:TS):TS:=fun D σ H=>c σ H fun b H1=>if b=true then t D σ H1 else u D σ H1
theorem ps_if {c:Expr} {a b:List Stmt} {tc:TT} (hc:PT X c tc) (ha:PSs X a t) (hb:PSs X b u):PS X (.If c a b pos) (tIfS tc t u):=by
  intro pins s σ H D I h
  refine wpAny_If (thn (hc pins s σ H _ I h) fun d s1 hpq=>?_)
  obtain ⟨H1,I1,q1⟩:=hpq
  cases d with
  | true=>exact ha pins s1 σ H1 D I1 q1
  | false=>exact hb pins s1 σ H1 D I1 q1
end
noncomputable abbrev TG:=V→St→Hp→(St→Hp→Prop)→Prop
noncomputable abbrev TGs:=List V→St→Hp→(St→Hp→Prop)→Prop
noncomputable def PG (X:Cx) (target:Expr) (t:TG):Prop :=
  ∀ (pins:List (Addr×Obj)) (s:Shared) (σ:St) (H:Hp) (v:V) (u:Value) (Q:St→Hp→Prop),Inv X pins σ H s→RelV v u→t v σ H Q →
    wpAny (model X.prog X.w) X.A (assign target X.env u) (fun _ s'=>∃ σ' H',Inv X pins σ' H' s'∧Q σ' H') X.xe s
noncomputable def PGs (X:Cx) (ts:List Expr) (t:TGs):Prop :=
  ∀ (pins:List (Addr×Obj)) (s:Shared) (σ:St) (H:Hp) (vs:List V) (us:List Value) (Q:St→Hp→Prop),Inv X pins σ H s→Vals vs us→t vs σ H Q →
    wpAny (model X.prog X.w) X.A (assignInOrder ((assignEach ts X.env).map (·.2)) us) (fun _ s'=>∃ σ' H',Inv X pins σ' H' s'∧Q σ' H') X.xe s
section
variable {X:Cx} {pos:Pos}
noncomputable def gName (i:Nat):TG:=fun v σ H Q=>Q (σ.set i (some v)) H
theorem pg_name {i:Nat} {x:Str} (hN:X.N.Nodup) (hi:X.N[i]? = some x) (hx:Loc X.env.scope x) (hf:X.fn x=true∨X.env.scope.names.lookup x=some .local:=by first | exact .inl rfl | exact .inr rfl | assumption):PG X (.Name x pos) (gName i):=by
  intro pins s σ H v u Q I r h
  exact wpAny_assign_Name (store_ok I hN hi hx r (fun s' I'=>⟨_,H,I',h⟩) hf)
noncomputable def gNil:TGs:=fun vs σ H Q=>vs=[]∧Q σ H
noncomputable def gCons (t:TG) (u:TGs):TGs:=fun vs σ H Q=>∃ v r,vs=v :: r∧t v σ H fun σ' H'=>u r σ' H' Q
theorem pgs_nil:PGs X [] gNil:=by
  intro pins s σ H vs us Q I r h
  obtain ⟨e,h⟩:=h
  subst e
  cases r
  exact assignInOrder_nil ⟨σ,H,I,h⟩
theorem pgs_cons {e:Expr} {es:List Expr} {t:TG} {u:TGs} (h1:PG X e t) (h2:PGs X es u)
    (hs:(assignEach (e :: es) X.env).map (·.2)=assign e X.env :: (assignEach es X.env).map (·.2):=by rfl):PGs X (e :: es) (gCons t u):=by
  intro pins s σ H vs us Q I r h
  obtain ⟨v,vr,e1,h⟩:=h
  subst e1
  cases r with
  | cons r rr =>
    rw [hs]
    refine assignInOrder_cons (thn (h1 pins s σ H _ _ _ I r h) fun _ s1 hpq=>?_)
    obtain ⟨σ1,H1,I1,q1⟩:=hpq
    exact h2 pins s1 σ1 H1 _ _ Q I1 rr q1
noncomputable def gTup (K:PySem.W.Frag) (n:Nat) (t:TGs):TG:=fun v σ H Q=>∃ a xs,v = .ref a∧SqT K H a xs∧xs.length=n∧t xs σ H Q
theorem pg_tup {es:List Expr} {k:Nat} {t:TGs} {n:Nat} (hc:X.calm=true) (h:PGs X es t)
    (hn:(assignEach es X.env).length=n:=by rfl) (hst:(assignEach es X.env).findIdx? (·.1)=none:=by rfl):PG X (.Tuple es k pos) (gTup X.K n t):=by
  intro pins s σ H v u Q I r hw
  obtain ⟨a,xs,e1,hq,hl,hw⟩:=hw
  subst e1
  cases r
  obtain ⟨its,rv,ht,hz⟩:=I.tuple hq
  refine assign_Tuple_tuple (I.ok.hd hc) ht (by simp [hn,← hl,rv.length]) hst fun h' hx=>?_
  have I1:Inv X pins σ H { s with heap:=h' }:=I.kept (t':=s.toks) fun b o e=>hx b o (Nat.ne_of_lt (Heap.lt_size e)) e
  exact h pins _ σ H xs _ Q I1 (by simpa using rv) hw
noncomputable def tAsg (te:TE) (g:TG):TS:=fun D σ H=>te σ H fun x H1=>g x σ H1 D.nx
theorem ps_asg {tg e:Expr} {te:TE} {g:TG} (he:PE X e te) (hg:PG X tg g) (hs:swapsWithSole [tg] e pos.line X.env=pure false:=by rfl) (hw:swappedStores [tg] e X.env=pure none:=by rfl)
    (h1:(assignEach [tg] X.env).map (·.2)=[assign tg X.env]:=by rfl):PS X (.Assign [tg] e pos) (tAsg te g):=by
  intro pins s σ H D I h
  refine wpAny_Assign_stores (thn (he pins s σ H _ I h) fun v s1 hpq=>?_) hs hw
  obtain ⟨x,H1,I1,r1,q1⟩:=hpq
  rw [h1]
  exact thn (hg pins s1 σ H1 x v _ I1 r1 q1) fun _ s2 q=>q
theorem ps_set {i:Nat} {x:Str} {e:Expr} {te:TE} {pos':Pos} (hN:X.N.Nodup) (hi:X.N[i]? = some x) (hx:Loc X.env.scope x) (he:PE X e te) (hs:swapsWith e (some (.Name x pos')) pos.line X.env=pure false:=by rfl) (hf:X.fn x=true∨X.env.scope.names.lookup x=some .local:=by first | exact .inl rfl | exact .inr rfl | assumption) :
    PS X (.Assign [.Name x pos'] e pos) (tAsg te (gName i)):=by
  intro pins s σ H D I h
  refine wpAny_Assign_Name (thn (he pins s σ H _ I h) fun v s1 hpq=>?_) hs
  obtain ⟨y,H1,I1,r1,q1⟩:=hpq
  exact store_ok I1 hN hi hx r1 (fun s2 I2=>⟨_,H1,I2,q1⟩) hf
end
section
variable {X:Cx} {pos:Pos}
noncomputable def tWhile (c:TT) (tb:TS):TS:=fun D σ H=>∃ W:Nat→St→Hp→Prop,(∃ m,W m σ H)∧∀ m σ H,W m σ H →
  c σ H fun b H1=>if b=true then ∃ N:St→Hp→Prop,(∀ σ' H',N σ' H'→∃ m',m' < m∧W m' σ' H')∧tb { D with nx:=N,ct:=N,bk:=D.nx } σ H1 else D.nx σ H1
theorem ps_while {c:Expr} {body:List Stmt} {tc:TT} {tb:TS} (hp:PassesOwn (model X.prog X.w) X.A X.env X.xe) (hc:PT X c tc) (hb:PSs X body tb):PS X (.While c body [] pos) (tWhile tc tb):=by
  intro pins s σ H D I h
  obtain ⟨W,⟨m0,w0⟩,turn⟩:=h
  refine wpAny_While (codeAny_whileLoop (fun n s'=>∃ σ' H',Inv X pins σ' H' s'∧W n σ' H') ?_ m0 ⟨σ,H,I,w0⟩)
  rintro n s1 ⟨σ1,H1,I1,w1⟩
  refine wpAny_passesOwn hp (thn (hc pins s1 σ1 H1 _ I1 (turn n σ1 H1 w1)) fun b s2 hpq=>?_)
  obtain ⟨H2,I2,q2⟩:=hpq
  cases b with
  | true =>
    obtain ⟨N,hN,q2⟩:=q2
    rw [if_pos rfl]
    refine wpAny_passesOwn hp (thn (hb pins s2 σ1 H2 _ I2 q2) fun f s3 q3=>?_)
    cases f with
    | next =>
      obtain ⟨σ3,H3,I3,n3⟩:=q3
      obtain ⟨m',hm,w3⟩:=hN σ3 H3 n3
      exact ⟨m',hm,σ3,H3,I3,w3⟩
    | cont =>
      obtain ⟨σ3,H3,I3,n3⟩:=q3
      obtain ⟨m',hm,w3⟩:=hN σ3 H3 n3
      exact ⟨m',hm,σ3,H3,I3,w3⟩
    | brk=>exact q3
    | ret v=>exact q3
  | false =>
    rw [if_neg Bool.false_ne_true]
    exact wpAny_execs_nil ⟨σ1,H2,I2,q2⟩
end
structure It where
  go:Nat→Hp→Prop
  yld:Nat→Hp→V→Hp→Prop
  stop:Nat→Hp→Prop
noncomputable def FpOk (X:Cx) (pins:List (Addr×Obj)) (H:Hp) (b:Addr):Prop :=
  H b=none∧b≠X.env.locals∧b ∉ X.fs∧(b∈X.ex∨X.s₀.heap.objs.size≤b)∧(∀ x c,X.env.cells.lookup x=some c→c≠b)∧∀ p∈X.pn++pins,p.1≠b
theorem Inv.fpOk {X:Cx} {pins:List (Addr×Obj)} {σ:St} {H H':Hp} {s:Shared} {b:Addr} (I:Inv X pins σ H s) (hb:s.heap.objs.size≤b) (hn:H' b=none):FpOk X pins H' b:=by
  refine ⟨hn,Nat.ne_of_gt (Nat.lt_of_lt_of_le I.lt hb),I.nofs hb,.inr (Nat.le_trans I.sz hb),fun x c e z=>?_,fun p hp z=>?_⟩
  · obtain ⟨v,q⟩:=I.cell x c e
    exact absurd (Nat.lt_of_lt_of_le q.lt (by rw [z];exact hb)) (Nat.lt_irrefl _)
  · exact absurd (Nat.lt_of_lt_of_le (Heap.lt_size (I.pin p hp).1) (by rw [z];exact hb)) (Nat.lt_irrefl _)
structure Turn (P:Program) (w:World) (K:PySem.W.Frag) (tg:Expr) (J:It) (fp:List Addr) (it:Addr) (tn:Nat→Heap→Prop):Prop where
  mem:it∈fp
  obj:∀ i h,tn i h→∀ b∈fp,∃ o,h.get? b=some o∧∀ v,o.data≠.cell v
  keep:∀ i h h',tn i h→(∀ b∈fp,∀ o,h.get? b=some o→h'.get? b=some o)→tn i h'
  item:∀ (X:Cx),X.prog=P→X.w=w→X.K=K→X.calm=true→∀ (i:Nat) (pins:List (Addr×Obj)) (s:Shared) (σ:St) (H:Hp) (E:Value→Shared→Prop),Inv X pins σ H s→(∀ b∈fp,FpOk X pins H b)→tn i s.heap→J.go i H →
    wpAny (model P w) X.A (pyNext (.ref it)) (fun r s1=>∃ u,r=some u ∧
      wpAny (model P w) X.A (letOwnedTupleGo tg (.ref it) u) (fun _ s2=>∃ x H',Inv X pins σ H' s2∧RelV x u∧J.yld i H x H'∧tn (i + 1) s2.heap∧∀ b∈fp,H' b=none) E s1) E s
  done:∀ (X:Cx),X.prog=P→X.w=w→X.K=K→X.calm=true→∀ (i:Nat) (pins:List (Addr×Obj)) (s:Shared) (σ:St) (H:Hp) (E:Value→Shared→Prop),Inv X pins σ H s→(∀ b∈fp,FpOk X pins H b)→tn i s.heap→J.stop i H →
    wpAny (model P w) X.A (pyNext (.ref it)) (fun r s1=>r=none∧Inv X pins σ H s1) E s
  self:∀ (A:Around) (i:Nat) (s:Shared) (Q:Value→Shared→Prop) (E:Value→Shared→Prop),tn i s.heap→Q (.ref it) s→wpAny (model P w) A (pyIter (.ref it)) Q E s
noncomputable abbrev TI:=St→Hp→(It→Hp→Prop)→Prop
noncomputable def PIE (X:Cx) (pins:List (Addr×Obj)) (σ:St) (tg:Expr) (R:It→Hp→Prop) (itv:Value) (s2:Shared):Prop :=
  ∃ (it:Addr) (fp:List Addr) (tn:Nat→Heap→Prop) (J:It) (H':Hp),itv = .ref it∧Inv X pins σ H' s2∧Turn X.prog X.w X.K tg J fp it tn∧tn 0 s2.heap∧(∀ b∈fp,FpOk X pins H' b)∧R J H'
noncomputable def PI (X:Cx) (tg iter:Expr) (wi:TI):Prop :=
  ∀ (pins:List (Addr×Obj)) (s:Shared) (σ:St) (H:Hp) (R:It→Hp→Prop),Inv X pins σ H s→wi σ H R →
    wpAny (model X.prog X.w) X.A (eval iter X.env) (fun v s1=>wpAny (model X.prog X.w) X.A (pyIter v) (PIE X pins σ tg R) X.xe s1) X.xe s
theorem go_of {M:Model} {A:Around} {E:Value→Shared→Prop} {s:Shared} {tg:Expr} {it:Addr} {u:Value} {o:Obj} {n:String} {vs:Array Value} {Q:Unit→Shared→Prop} (ho:s.heap.get? it=some o) (hc:o.cls = .type n) (hd:o.data = .fields vs)
    (hn:["enumerate","zip","dict_itemiterator","dict_reverseitemiterator","odict_iterator","itertools.zip_longest","itertools.pairwise"].contains n=false) (hQ:Q () s):wpAny M A (letOwnedTupleGo tg (.ref it) u) Q E s:=by
  unfold letOwnedTupleGo
  cases tg <;> first
    | exact wpAny_pure hQ
    | (cases u <;> first
        | exact wpAny_pure hQ
        | (refine wpAny_bind (wpAny_load ho ?_)
           rw [hc,hd]
           show wpAny M A (if (["enumerate","zip","dict_itemiterator","dict_reverseitemiterator","odict_iterator","itertools.zip_longest","itertools.pairwise"].contains n && vs[0]? == some (rawInt _))=true then _ else _) Q E s
           rw [if_neg (by intro h;rw [hn,Bool.false_and] at h;cases h)]
           exact wpAny_pure hQ))
noncomputable def Itl (K:PySem.W.Frag) (a:Addr):It :=
  ⟨fun i H=>∃ xs x,SqL K H a xs∧xs[i]? = some x,fun i H x H'=>H'=H∧∀ xs,SqL K H a xs→xs[i]? = some x,fun i H=>∃ xs,SqL K H a xs∧xs.length≤i⟩
noncomputable def Itr (lo:Int) (n:Nat):It:=⟨fun i _=>i < n,fun i H x H'=>H'=H∧x = .int (lo + i),fun i _=>n≤i⟩
theorem turn_list {P:Program} {w:World} {K:PySem.W.Frag} {tg:Expr} (a it:Addr):Turn P w K tg (Itl K a) [it] it (fun i h=>h.IsListIter it a i) where
  mem:=by simp
  obj:=fun i h st b hb=>by
    have e:b=it:=by simpa using hb
    subst e
    obtain ⟨o,e,c,d⟩:=st
    exact ⟨o,e,fun v z=>by rw [d] at z;cases z⟩
  keep:=fun i h h' st k=>st.at fun o e=>k it (by simp) o e
  item:=by
    intro X hP hw hK hc i pins s σ H E I hf st hg
    subst hP hw hK
    obtain ⟨xs,x,hq,hx⟩:=hg
    obtain ⟨its,rv,p,hz⟩:=I.list hq
    obtain ⟨u,hu,ru⟩:=rv.get hx
    obtain ⟨f0,f1,f2,f3,f4,f5⟩:=hf it (by simp)
    refine wpAny_pyNext_list_item st p.isList (x:=u) (by simpa using hu) fun h' st' sb=>?_
    have I1:Inv X pins σ H { s with heap:=h' }:=I.turned (t':=s.toks) (fun b o hb e=>(sb.2 b hb).trans e) f0 f1 f3 f4 f5
    obtain ⟨o,e,c,d⟩:=id st'
    exact ⟨u,rfl,go_of (s:={ s with heap:=h' }) e c d (by decide) ⟨x,H,I1,ru,⟨rfl,fun ys hy=>by rw [I.list_inj hy hq];exact hx⟩,st',fun b hb=>(hf b hb).1⟩⟩
  done:=by
    intro X hP hw hK hc i pins s σ H E I hf st hg
    subst hP hw hK
    obtain ⟨xs,hq,hx⟩:=hg
    obtain ⟨its,rv,p,hz⟩:=I.list hq
    obtain ⟨f0,f1,f2,f3,f4,f5⟩:=hf it (by simp)
    have hl:=rv.length
    exact wpAny_pyNext_list_end (I.ok.hd hc) st p.isList (by simp;omega) fun h' eb=>⟨rfl,I.turned (t':=s.toks) (fun b o hb e=>eb b o hb e) f0 f1 f3 f4 f5⟩
  self:=fun _ _ _ _ _ st h=>wpAny_pyIter_listiter st h
theorem turn_range {P:Program} {w:World} {K:PySem.W.Frag} {tg:Expr} (it:Addr) (lo:Int) (n:Nat):Turn P w K tg (Itr lo n) [it] it (fun i h=>IsRangeIter h it (lo + (i:Nat) * 1) ((n:Int) - (i:Nat)) 1) where
  mem:=by simp
  obj:=fun i h st b hb=>by
    have e:b=it:=by simpa using hb
    subst e
    exact ⟨_,st,fun v z=>by
      have z':Data.fields _=Data.cell v:=z
      cases z'⟩
  keep:=fun i h h' st k=>k it (by simp) _ st
  item:=by
    intro X hP hw hK hc i pins s σ H E I hf st hg
    subst hP hw hK
    obtain ⟨f0,f1,f2,f3,f4,f5⟩:=hf it (by simp)
    have W:=Walks.range (prog:=X.prog) (w:=X.w) (I.ok.hd hc) it lo 1 n
    refine W.item i s _ _ hg st fun v h' tk hv st' kk=>?_
    obtain ⟨t,rfl⟩:=hv
    have I1:Inv X pins σ H { s with heap:=h',toks:=tk }:=I.turned (fun b o hb e=>kk b o (by simpa using hb) e) f0 f1 f3 f4 f5
    refine ⟨_,rfl,go_of (s:={ s with heap:=h',toks:=tk }) (n:="range_iterator") st' rfl rfl (by decide) ⟨.int (lo + i),H,I1,⟨t,?_⟩,⟨rfl,rfl⟩,st',fun b hb=>(hf b hb).1⟩⟩
    rw [Int.mul_one]
  done:=by
    intro X hP hw hK hc i pins s σ H E I hf st hg
    subst hP hw hK
    obtain ⟨f0,f1,f2,f3,f4,f5⟩:=hf it (by simp)
    exact wpAny_pyNext_range_end (I.ok.hd hc) st (by have:n≤i:=hg;omega) fun h' eb=>⟨rfl,I.turned (t':=s.toks) (fun b o hb e=>eb b o hb e) f0 f1 f3 f4 f5⟩
  self:=fun _ _ _ _ _ st h=>wpAny_pyIter_rangeiter st h
end L2
namespace L2
open PySem PySem.Spec PyProof.Rows
section
variable {X:Cx} {tg:Expr}
noncomputable def iList (K:PySem.W.Frag) (tl:TE):TI:=fun σ H R=>tl σ H fun x H1=>∃ a,x = .ref a∧(∃ xs,SqL K H1 a xs)∧R (Itl K a) H1
theorem pi_list {l:Expr} {tl:TE} (hl:PE X l tl):PI X tg l (iList X.K tl):=by
  intro pins s σ H R I h
  refine thn (hl pins s σ H _ I h) fun v s1 hpq=>?_
  obtain ⟨x,H1,I1,r1,q1⟩:=hpq
  obtain ⟨a,e,⟨xs,hq⟩,q⟩:=q1
  subst e
  cases r1
  obtain ⟨its,rv,p,hz⟩:=I1.list hq
  refine wpAny_pyIter_list p.isList ?_
  refine ⟨s1.heap.objs.size,[s1.heap.objs.size],_,_,H1,rfl,I1.kept (t':=s1.toks) fun b o e=>Heap.get?_push_of_some _ e,turn_list a _,⟨_,Heap.get?_push_size _ rfl,rfl,rfl⟩,fun b hb=>?_,q⟩
  have e:b=s1.heap.objs.size:=by simpa using hb
  subst e
  exact I1.fpOk (Nat.le_refl _) (I1.hok.fresh (Nat.le_refl _))
theorem range_it {pins:List (Addr×Obj)} {σ:St} {H:Hp} {s:Shared} {R:It→Hp→Prop} {E:Value→Shared→Prop} {lo hi:Int} {t u v:Tok} {tk:Nat} (I:Inv X pins σ H s) (h1:-(2 ^ 62)≤lo) (h2:lo < 2 ^ 62) (h3:-(2 ^ 62)≤hi) (h4:hi < 2 ^ 62)
    (q:R (Itr lo (hi - lo).toNat) H):wpAny (model X.prog X.w) X.A (pyIter (.ref s.heap.objs.size)) (PIE X pins σ tg R) E { s with heap:=s.heap.push { cls:=.type "range",data:=.fields #[.int lo t,.int hi u,.int 1 v] },toks:=tk }:=by
  refine wpAny_pyIter_range (IsRange.new ..) (small_one h1 h2 h3 h4) ?_
  have I1:Inv X pins σ H { s with heap:=s.heap.push { cls:=.type "range",data:=.fields #[.int lo t,.int hi u,.int 1 v] },toks:=tk }:=I.kept fun b o e=>Heap.get?_push_of_some _ e
  refine ⟨(s.heap.push { cls:=.type "range",data:=.fields #[.int lo t,.int hi u,.int 1 v] }).objs.size,[(s.heap.push { cls:=.type "range",data:=.fields #[.int lo t,.int hi u,.int 1 v] }).objs.size],_,_,H,rfl,
    I1.kept (t':=tk) fun b o e=>Heap.get?_push_of_some _ e,turn_range _ lo (hi - lo).toNat,?_,fun b hb=>?_,q⟩
  · have e1:lo + ((0:Nat):Int) * 1=lo:=by simp
    have e2:(((hi - lo).toNat:Nat):Int) - ((0:Nat):Int)=Builtin.Range.rangeSize lo hi 1:=by rw [rangeSize_one];split <;> omega
    show IsRangeIter _ _ (lo + ((0:Nat):Int) * 1) ((((hi - lo).toNat:Nat):Int) - ((0:Nat):Int)) 1
    rw [e1,e2]
    exact Heap.get?_push_size _ rfl
  · have e:b=(s.heap.push { cls:=.type "range",data:=.fields #[.int lo t,.int hi u,.int 1 v] }).objs.size:=by simpa using hb
    subst e
    exact I1.fpOk (Nat.le_refl _) (I1.hok.fresh (Nat.le_refl _))
noncomputable def iRng1 (ta:TA):TI:=fun σ H R=>ta σ H fun vs H1=>∃ j:Int,vs=[.int j]∧-(2 ^ 62)≤j∧j < 2 ^ 62∧R (Itr 0 j.toNat) H1
noncomputable def iRng2 (ta:TA):TI:=fun σ H R=>ta σ H fun vs H1=>∃ i j:Int,vs=[.int i,.int j]∧(-(2 ^ 62)≤i∧i < 2 ^ 62∧-(2 ^ 62)≤j∧j < 2 ^ 62)∧R (Itr i (j - i).toNat) H1
theorem pi_range1 {a:Expr} {ta:TA} {p pos:Pos} (hg:Gl X "range") (hm:X.mg "range" = none) (ha:PA X [a] ta) (hs:starEach [a] X.env=[(false,eval a X.env)]:=by rfl):PI X tg (.Call (.Name "range" p) [a] [] pos) (iRng1 ta):=by
  intro pins s σ H R I h
  refine Call_ (ld_blt I hg hm boot_range (PyProof.Rows.callWith_type1 (thn (ha pos pins s σ H _ I h) fun us s1 hpq=>?_) hs rfl))
  obtain ⟨vs,H1,I1,r1,q1⟩:=hpq
  obtain ⟨j,e,q1,q2,q⟩:=q1
  subst e
  cases r1 with
  | cons r rr =>
    cases rr
    obtain ⟨t,rfl⟩:=r
    exact call_range_1 (range_it I1 (by omega) (by omega) q1 q2 (by simpa using q))
theorem pi_range2 {a b:Expr} {ta:TA} {p pos:Pos} (hg:Gl X "range") (hm:X.mg "range" = none) (ha:PA X [a,b] ta) (hs:starEach [a,b] X.env=[(false,eval a X.env),(false,eval b X.env)]:=by rfl) (hs2:starEach [b] X.env=[(false,eval b X.env)]:=by rfl) :
    PI X tg (.Call (.Name "range" p) [a,b] [] pos) (iRng2 ta):=by
  intro pins s σ H R I h
  refine Call_ (ld_blt I hg hm boot_range (PyProof.Rows.callWith_type1 (thn (ha pos pins s σ H _ I h) fun us s1 hpq=>?_) (by rw [hs,hs2]) (by rw [hs2];rfl)))
  obtain ⟨vs,H1,I1,r1,q1⟩:=hpq
  obtain ⟨i,j,e,⟨q1,q2,q3,q4⟩,q⟩:=q1
  subst e
  cases r1 with
  | cons r rr =>
    cases rr with
    | cons r' rr =>
      cases rr
      obtain ⟨t,rfl⟩:=r
      obtain ⟨t',rfl⟩:=r'
      exact call_range_2 (range_it I1 q1 q2 q3 q4 q)
noncomputable def tFor (wi:TI) (g:TG) (tb:TS):TS:=fun D σ H=>wi σ H fun J H1=>∃ W:Nat→Nat→St→Hp→Prop,(∃ m,W 0 m σ H1)∧∀ i m σ H,W i m σ H →
  (J.stop i H∧D.nx σ H)∨(J.go i H∧∃ N:St→Hp→Prop,(∀ σ' H',N σ' H'→∃ m',m' < m∧W (i + 1) m' σ' H')∧∀ x H',J.yld i H x H'→g x σ H' fun σ2 H2=>tb { D with nx:=N,ct:=N,bk:=D.nx } σ2 H2)
noncomputable def pinsAt (fp:List Addr) (h:Heap):List (Addr×Obj):=fp.filterMap fun b=>(h.get? b).map fun o=>(b,o)
theorem mem_pinsAt {fp:List Addr} {h:Heap} {b:Addr} {o:Obj} (hb:b∈fp) (e:h.get? b=some o):(b,o)∈pinsAt fp h:=List.mem_filterMap.mpr ⟨b,hb,by rw [e];rfl⟩
theorem of_pinsAt {fp:List Addr} {h:Heap} {p:Addr×Obj} (hp:p∈pinsAt fp h):p.1∈fp∧h.get? p.1=some p.2:=by
  obtain ⟨b,hb,e⟩:=List.mem_filterMap.mp hp
  cases q:h.get? b with
  | none=>rw [q] at e;cases e
  | some o =>
    rw [q] at e
    have e':(b,o)=p:=Option.some.inj e
    subst e'
    exact ⟨hb,q⟩
theorem Inv.pinned {pins:List (Addr×Obj)} {σ:St} {H:Hp} {s:Shared} {fp:List Addr} (I:Inv X pins σ H s) (hf:∀ b∈fp,FpOk X pins H b) (ho:∀ b∈fp,∃ o,s.heap.get? b=some o∧∀ v,o.data≠.cell v):Inv X (pins++pinsAt fp s.heap) σ H s :=
  I.pins_of fun p hp=>(List.mem_append.mp hp).elim (fun z=>I.pin p (List.mem_append_right _ z)) fun z=>by
    obtain ⟨hb,e⟩:=of_pinsAt z
    obtain ⟨f0,f1,f2,_⟩:=hf p.1 hb
    obtain ⟨o,e',d⟩:=ho p.1 hb
    rw [e] at e';cases e'
    exact ⟨e,f0,f1,f2,d⟩
theorem Inv.unpinned {pins pl:List (Addr×Obj)} {σ:St} {H:Hp} {s:Shared} (I:Inv X (pins++pl) σ H s):Inv X pins σ H s:=I.pins_of fun p hp=>I.pin p (List.mem_append_right _ (List.mem_append_left _ hp))
theorem ps_for {iter:Expr} {body:List Stmt} {wi:TI} {g:TG} {tb:TS} {pos:Pos} (hp:PassesOwn (model X.prog X.w) X.A X.env X.xe) (hc:X.calm=true) (hi:PI X tg iter wi) (hg:PG X tg g) (hb:PSs X body tb)
    (hs:∀ x,foldedSetIterable iter X.env x=pure x:=by intro _;rfl):PS X (.For tg iter body [] pos) (tFor wi g tb):=by
  intro pins s σ H D I h
  refine wpAny_For (thn (hi pins s σ H _ I h) fun v s1 h1=>thn h1 fun itv s2 h2=>?_) hs
  obtain ⟨it,fp,tn,J,H2,e,I2,T,st2,f2,W,⟨m0,w0⟩,turn⟩:=h2
  subst e
  have stat:∀ {H':Hp},(∀ b∈fp,H' b=none)→∀ b∈fp,FpOk X pins H' b:=fun hn b hb=>⟨hn b hb,(f2 b hb).2⟩
  refine codeAny_forLoop_any (fun n s'=>∃ i σ' H',Inv X pins σ' H' s'∧tn i s'.heap∧(∀ b∈fp,H' b=none)∧W i n σ' H') ?_ m0 ⟨0,σ,H2,I2,st2,fun b hb=>(f2 b hb).1,w0⟩
  rintro n s3 ⟨i,σ3,H3,I3,st3,fr3,w3⟩
  rcases turn i n σ3 H3 w3 with ⟨stop,qn⟩ | ⟨go,N,hN,step⟩
  · refine wpAny_passesOwn hp (thn (T.done X rfl rfl rfl hc i pins s3 σ3 H3 X.xe I3 (stat fr3) st3 stop) fun r s4 ⟨hr,I4⟩=>?_)
    subst hr
    exact wpAny_execs_nil ⟨σ3,H3,I4,qn⟩
  · refine wpAny_passesOwn hp (thn (T.item X rfl rfl rfl hc i pins s3 σ3 H3 X.xe I3 (stat fr3) st3 go) fun r s4 hpq=>?_)
    obtain ⟨u,hr,h4⟩:=hpq
    subst hr
    refine wpAny_passesOwn hp (thn h4 fun _ s5 hpq=>?_)
    obtain ⟨x,H5,I5,r5,y5,st5,fr5⟩:=hpq
    have I5':=I5.pinned (stat fr5) (T.obj _ _ st5)
    refine wpAny_passesOwn hp (thn (hg _ s5 σ3 H5 x u _ I5' r5 (step x H5 y5)) fun _ s6 hpq=>?_)
    obtain ⟨σ6,H6,I6,q6⟩:=hpq
    refine wpAny_passesOwn hp (thn (hb _ s6 σ6 H6 _ I6 q6) fun f s7 q7=>?_)
    have again:∀ {σ7:St} {H7:Hp},Inv X (pins++pinsAt fp s5.heap) σ7 H7 s7→N σ7 H7→∃ m,m < n∧∃ i σ' H',Inv X pins σ' H' s7∧tn i s7.heap∧(∀ b∈fp,H' b=none)∧W i m σ' H':=fun {σ7 H7} I7 n7=>by
      obtain ⟨m',hm,w7⟩:=hN σ7 H7 n7
      refine ⟨m',hm,i + 1,σ7,H7,I7.unpinned,T.keep _ _ _ st5 fun b hb o e=>(I7.pin (b,o) (List.mem_append_right _ (List.mem_append_right _ (mem_pinsAt hb e)))).1,fun b hb=>?_,w7⟩
      obtain ⟨o,e,d⟩:=T.obj _ _ st5 b hb
      exact (I7.pin (b,o) (List.mem_append_right _ (List.mem_append_right _ (mem_pinsAt hb e)))).2.1
    cases f with
    | next=>obtain ⟨σ7,H7,I7,n7⟩:=q7;exact again I7 n7
    | cont=>obtain ⟨σ7,H7,I7,n7⟩:=q7;exact again I7 n7
    | brk=>obtain ⟨σ7,H7,I7,q7⟩:=q7;exact ⟨σ7,H7,I7.unpinned,q7⟩
    | ret v=>obtain ⟨x7,σ7,H7,I7,r7,q7⟩:=q7;exact ⟨x7,σ7,H7,I7.unpinned,r7,q7⟩
end
theorem for_list {K:PySem.W.Frag} {a:Addr} {xs:List V} {g:TG} {tb:TS} {D:Ends} {σ:St} {H:Hp} (Pv:Nat→St→Hp→Prop) (h0:Pv 0 σ H) (hl:∀ i σ H,i≤xs.length→Pv i σ H→SqL K H a xs)
    (hs:∀ i x σ H,xs[i]? = some x→Pv i σ H→g x σ H fun σ2 H2=>tb { D with nx:=Pv (i + 1),ct:=Pv (i + 1),bk:=D.nx } σ2 H2) (hd:∀ σ H,Pv xs.length σ H→D.nx σ H) :
    ∃ W:Nat→Nat→St→Hp→Prop,(∃ m,W 0 m σ H)∧∀ i m σ H,W i m σ H →
      ((Itl K a).stop i H∧D.nx σ H)∨((Itl K a).go i H∧∃ N:St→Hp→Prop,(∀ σ' H',N σ' H'→∃ m',m' < m∧W (i + 1) m' σ' H')∧∀ x H',(Itl K a).yld i H x H'→g x σ H' fun σ2 H2=>tb { D with nx:=N,ct:=N,bk:=D.nx } σ2 H2):=by
  refine ⟨fun i m σ H=>m=xs.length - i∧i≤xs.length∧Pv i σ H,⟨xs.length,by simp,Nat.zero_le _,h0⟩,?_⟩
  rintro i m σ H ⟨rfl,hi,p⟩
  have q:=hl i σ H hi p
  by_cases hlt:i < xs.length
  · refine .inr ⟨⟨xs,xs[i],q,by simp [hlt]⟩,Pv (i + 1),fun σ' H' p'=>⟨xs.length - (i + 1),by omega,rfl,hlt,p'⟩,fun x H' y=>?_⟩
    obtain ⟨e,y⟩:=y
    subst e
    exact hs i x σ _ (y xs q) p
  · have e:i=xs.length:=by omega
    subst e
    exact .inl ⟨⟨xs,q,Nat.le_refl _⟩,hd σ H p⟩
theorem for_range {lo:Int} {n:Nat} {g:TG} {tb:TS} {D:Ends} {σ:St} {H:Hp} (Pv:Nat→St→Hp→Prop) (h0:Pv 0 σ H)
    (hs:∀ i σ H,i < n→Pv i σ H→g (.int (lo + i)) σ H fun σ2 H2=>tb { D with nx:=Pv (i + 1),ct:=Pv (i + 1),bk:=D.nx } σ2 H2) (hd:∀ σ H,Pv n σ H→D.nx σ H) :
    ∃ W:Nat→Nat→St→Hp→Prop,(∃ m,W 0 m σ H)∧∀ i m σ H,W i m σ H →
      ((Itr lo n).stop i H∧D.nx σ H)∨((Itr lo n).go i H∧∃ N:St→Hp→Prop,(∀ σ' H',N σ' H'→∃ m',m' < m∧W (i + 1) m' σ' H')∧∀ x H',(Itr lo n).yld i H x H'→g x σ H' fun σ2 H2=>tb { D with nx:=N,ct:=N,bk:=D.nx } σ2 H2):=by
  refine ⟨fun i m σ H=>m=n - i∧i≤n∧Pv i σ H,⟨n,by simp,Nat.zero_le _,h0⟩,?_⟩
  rintro i m σ H ⟨rfl,hi,p⟩
  by_cases hlt:i < n
  · refine .inr ⟨hlt,Pv (i + 1),fun σ' H' p'=>⟨n - (i + 1),by omega,rfl,hlt,p'⟩,fun x H' y=>?_⟩
    obtain ⟨e,y⟩:=y
    subst e y
    exact hs i σ _ hlt p
  · have e:i=n:=by omega
    subst e
    exact .inl ⟨Nat.le_refl _,hd σ H p⟩
end L2
namespace L2
open PySem PySem.Spec PyProof.Rows
noncomputable abbrev R2:=V→V→Hp→VK→Prop
noncomputable def OpR (X:Cx) (f:Value→Value→Sem Value) (r:R2):Prop :=
  ∀ (pins:List (Addr×Obj)) (s:Shared) (σ:St) (H:Hp) (x y:V) (v u:Value) (Q:VK),Inv X pins σ H s→RelV x v→RelV y u→r x y H Q →
    wpAny (model X.prog X.w) X.A (f v u) (EP X pins σ Q) X.xe s
noncomputable def UnR (X:Cx) (f:Value→Sem Value) (r:V→Hp→VK→Prop):Prop :=
  ∀ (pins:List (Addr×Obj)) (s:Shared) (σ:St) (H:Hp) (x:V) (v:Value) (Q:VK),Inv X pins σ H s→RelV x v→r x H Q →
    wpAny (model X.prog X.w) X.A (f v) (EP X pins σ Q) X.xe s
noncomputable def CallR (X:Cx) (f:Value) (r:List V→Hp→VK→Prop):Prop :=
  ∀ (pins:List (Addr×Obj)) (s:Shared) (σ:St) (H:Hp) (xs:List V) (us:List Value) (Q:VK),Inv X pins σ H s→Vals xs us→r xs H Q →
    wpAny (model X.prog X.w) X.A (call f us) (EP X pins σ Q) X.xe s
noncomputable def tOp (r:R2) (ta tb:TE):TE:=fun σ H Q=>ta σ H fun x H1=>tb σ H1 fun y H2=>r x y H2 Q
noncomputable def tUn (r:V→Hp→VK→Prop) (ta:TE):TE:=fun σ H Q=>ta σ H fun x H1=>r x H1 Q
noncomputable def rI (C:Int→Int→Prop) (g:Int→Int→V):R2:=fun x y H Q=>∃ i j,x = .int i∧y = .int j∧C i j∧Q (g i j) H
noncomputable def rI0 (g:Int→Int→V):R2:=fun x y H Q=>∃ i j,x = .int i∧y = .int j∧Q (g i j) H
noncomputable def rU (g:Int→V):V→Hp→VK→Prop:=fun x H Q=>∃ i,x = .int i∧Q (g i) H
section
variable {X:Cx} {a b c:Expr} {ta tb tc:TE} {pos:Pos}
theorem binT (ha:PE X a ta) (hb:PE X b tb) {pins:List (Addr×Obj)} {s:Shared} {σ:St} {H:Hp} {R:V→V→Hp→Prop} (I:Inv X pins σ H s)
    (h:ta σ H fun x H1=>tb σ H1 fun y H2=>R x y H2) {Q:Value→Shared→Prop} {f:Value→Value→Sem Value}
    (hf:∀ v u s2 x y H2,Inv X pins σ H2 s2→RelV x v→RelV y u→R x y H2→wpAny (model X.prog X.w) X.A (f v u) Q X.xe s2) :
    wpAny (model X.prog X.w) X.A (eval a X.env) (fun v s₁=>wpAny (model X.prog X.w) X.A (eval b X.env) (fun u s₂=>wpAny (model X.prog X.w) X.A (f v u) Q X.xe s₂) X.xe s₁) X.xe s:=by
  refine thn (ha pins s σ H _ I h) fun v s1 hpq=>?_
  obtain ⟨x,H1,I1,r1,q1⟩:=hpq
  refine thn (hb pins s1 σ H1 _ I1 q1) fun u s2 hpq=>?_
  obtain ⟨y,H2,I2,r2,q2⟩:=hpq
  exact hf v u s2 x y H2 I2 r1 r2 q2
theorem pe_op {op:Operator} {r:R2} (ho:OpR X (binaryOp op) r) (ha:PE X a ta) (hb:PE X b tb):PE X (.BinOp a op b pos) (tOp r ta tb):=by
  intro pins s σ H Q I h
  exact wpAny_BinOp (binT ha hb I h fun v u s2 x y H2 I2 rx ry q=>ho pins s2 σ H2 x y v u Q I2 rx ry q)
theorem pe_un {op:UnaryOp} {r:V→Hp→VK→Prop} (ho:UnR X (unaryOp op) r) (ha:PE X a ta):PE X (.UnaryOp op a pos) (tUn r ta):=by
  intro pins s σ H Q I h
  exact UnaryOp_ (thn (ha pins s σ H _ I h) fun v s1 ⟨x,H1,I1,r1,q1⟩=>ho pins s1 σ H1 x v Q I1 r1 q1)
theorem opI {f:Value→Value→Sem Value} {C:Int→Int→Prop} {g:Int→Int→Int}
    (rule:∀ (i j:Int) (t u:Tok) (s:Shared) (Q:Value→Shared→Prop) (E:Value→Shared→Prop),C i j→Q (.int (g i j) s.toks) { s with toks:=s.toks + 1 }→wpAny (model X.prog X.w) X.A (f (.int i t) (.int j u)) Q E s) :
    OpR X f (rI C fun i j=>.int (g i j)):=by
  intro pins s σ H x y v u Q I rx ry h
  obtain ⟨i,j,rfl,rfl,hc,q⟩:=h
  obtain ⟨t,rfl⟩:=rx
  obtain ⟨t',rfl⟩:=ry
  exact rule i j t t' s _ _ hc ⟨.int (g i j),H,I.tok _,⟨_,rfl⟩,q⟩
theorem opI0 {f:Value→Value→Sem Value} {g:Int→Int→Int}
    (rule:∀ (i j:Int) (t u:Tok) (s:Shared) (Q:Value→Shared→Prop) (E:Value→Shared→Prop),Q (.int (g i j) s.toks) { s with toks:=s.toks + 1 }→wpAny (model X.prog X.w) X.A (f (.int i t) (.int j u)) Q E s) :
    OpR X f (rI0 fun i j=>.int (g i j)):=by
  intro pins s σ H x y v u Q I rx ry h
  obtain ⟨i,j,rfl,rfl,q⟩:=h
  obtain ⟨t,rfl⟩:=rx
  obtain ⟨t',rfl⟩:=ry
  exact rule i j t t' s _ _ ⟨.int (g i j),H,I.tok _,⟨_,rfl⟩,q⟩
theorem opB0 {f:Value→Value→Sem Value} {g:Int→Int→Bool}
    (rule:∀ (i j:Int) (t u:Tok) (s:Shared) (Q:Value→Shared→Prop) (E:Value→Shared→Prop),Q (.bool (g i j)) s→wpAny (model X.prog X.w) X.A (f (.int i t) (.int j u)) Q E s) :
    OpR X f (rI0 fun i j=>.bl (g i j)):=by
  intro pins s σ H x y v u Q I rx ry h
  obtain ⟨i,j,rfl,rfl,q⟩:=h
  obtain ⟨t,rfl⟩:=rx
  obtain ⟨t',rfl⟩:=ry
  exact rule i j t t' s _ _ ⟨.bl (g i j),H,I,rfl,q⟩
noncomputable def CDiv (i j:Int):Prop:=0 < j∧j < 1073741824
noncomputable def CPow (i j:Int):Prop:=0≤j∧j≤1000000∧i.natAbs < 2 ^ 64
noncomputable def CMul (i j:Int):Prop:=(-(2 ^ 64) < i∧i < 2 ^ 64)∨(-(2 ^ 64) < j∧j < 2 ^ 64)
theorem CMul.ok {i j:Int} (h:CMul i j):IntMulOk i j:=by
  rcases h with ⟨h1,h2⟩ | ⟨h1,h2⟩
  · exact .of_left (intBits_le_64 h1 h2)
  · exact .of_right (intBits_le_64 h1 h2)
theorem op_add:OpR X (binaryOp .Add) (rI0 fun i j=>.int (i + j)):=opI0 fun _ _ _ _ _ _ _ q=>add_int q
theorem op_sub:OpR X (binaryOp .Sub) (rI0 fun i j=>.int (i - j)):=opI0 fun _ _ _ _ _ _ _ q=>sub_int q
theorem op_mul:OpR X (binaryOp .Mult) (rI CMul fun i j=>.int (i * j)):=opI fun _ _ _ _ _ _ _ hc q=>mul_int q hc.ok
theorem op_fdiv:OpR X (binaryOp .FloorDiv) (rI CDiv fun i j=>.int (i / j)):=opI fun i j _ _ _ _ _ hc q=>by
  have h1:(0:Int) < j:=hc.1
  have h2:j < 1073741824:=hc.2
  exact floordiv_int (by omega) (by rw [Int.fdiv_eq_ediv_of_nonneg i (by omega)];exact q) (.inl (PyProof.noPylong_small (by omega)))
theorem op_mod:OpR X (binaryOp .Mod) (rI (fun _ j=>0 < j) fun i j=>.int (i % j)):=opI fun i j _ _ _ _ _ hc q=>by
  have h1:(0:Int) < j:=hc
  exact mod_int' (by omega) (by rw [Int.fmod_eq_emod_of_nonneg i (by omega)];exact q)
theorem op_pow:OpR X (binaryOp .Pow) (rI CPow fun i j=>.int (i ^ j.toNat)):=opI fun _ _ _ _ _ _ _ hc q=>pow_int_small hc.1 hc.2.1 hc.2.2 q
theorem unI {f:Value→Sem Value} {g:Int→Int}
    (rule:∀ (i:Int) (t:Tok) (s:Shared) (Q:Value→Shared→Prop) (E:Value→Shared→Prop),Q (.int (g i) s.toks) { s with toks:=s.toks + 1 }→wpAny (model X.prog X.w) X.A (f (.int i t)) Q E s) :
    UnR X f (rU fun i=>.int (g i)):=by
  intro pins s σ H x v Q I rx h
  obtain ⟨i,rfl,q⟩:=h
  obtain ⟨t,rfl⟩:=rx
  exact rule i t s _ _ ⟨.int (g i),H,I.tok _,⟨_,rfl⟩,q⟩
theorem un_neg:UnR X (unaryOp .USub) (rU fun i=>.int (-i)):=unI fun _ _ _ _ _ q=>neg_int q
end
noncomputable def scal:V→V→Bool
  | .non,.non=>true | .non,.int _=>true | .int _,.non=>true | .non,.bl _=>true | .bl _,.non=>true | .non,.str _=>true | .str _,.non=>true
  | .int _,.int _=>true | .bl _,.bl _=>true | .str _,.str _=>true | .byt _,.byt _=>true
  | .int _,.str _=>true | .str _,.int _=>true | .bl _,.str _=>true | .str _,.bl _=>true
  | _,_=>false
noncomputable def rEq:R2:=fun x y H Q=>scal x y=true∧Q (.bl (decide (x=y))) H
noncomputable def rNe:R2:=fun x y H Q=>scal x y=true∧Q (.bl (!decide (x=y))) H
theorem dec_int {i j:Int}:decide (V.int i=V.int j)=(i == j):=by
  rw [Bool.eq_iff_iff]
  simp
theorem dec_bl {i j:Bool}:decide (V.bl i=V.bl j)=(i == j):=by
  rw [Bool.eq_iff_iff]
  simp
theorem dec_str {i j:Str}:decide (V.str i=V.str j)=(i == j):=by
  rw [Bool.eq_iff_iff]
  simp
theorem dec_byt {i j:Array UInt8}:decide (V.byt i=V.byt j)=(i.toList == j.toList):=by
  rw [Bool.eq_iff_iff]
  cases i
  cases j
  simp
section
variable {X:Cx} {a b c:Expr} {ta tb tc:TE} {pos:Pos}
theorem fin_bl {pins:List (Addr×Obj)} {σ:St} {H:Hp} {s:Shared} {Q:VK} {k k':Bool} (I:Inv X pins σ H s) (q:Q (.bl k) H) (e:k=k'):EP X pins σ Q (.bool k') s:=by
  subst e
  exact ⟨.bl k,H,I,rfl,q⟩
theorem op_eq:OpR X (compareOp .Eq) rEq:=by
  intro pins s σ H x y v u Q I rx ry h
  obtain ⟨hs,q⟩:=h
  cases x with
  | non =>
    cases rx
    cases y with
    | non=>cases ry;exact PySem.EqNone.eq_none_none (fin_bl I q (by simp))
    | bl j=>cases ry;exact PySem.EqNone.eq_none_bool (fin_bl I q (by simp))
    | int j=>obtain ⟨t',rfl⟩:=ry;exact PySem.EqNone.eq_none_int (fin_bl I q (by simp))
    | str j=>obtain ⟨t',rfl⟩:=ry;exact PySem.EqNone.eq_none_str (fin_bl I q (by simp))
    | _=>exact absurd (show false=true from hs) Bool.false_ne_true
  | bl i =>
    cases rx
    cases y with
    | non=>cases ry;exact PySem.EqNone.eq_bool_none (fin_bl I q (by simp))
    | bl j=>cases ry;exact eq_bool (fin_bl I q dec_bl)
    | str j=>obtain ⟨t',rfl⟩:=ry;exact PySem.EqMixed.eq_bool_str (fin_bl I q (by simp))
    | _=>exact absurd (show false=true from hs) Bool.false_ne_true
  | int i =>
    obtain ⟨t,rfl⟩:=rx
    cases y with
    | non=>cases ry;exact PySem.EqNone.eq_int_none (fin_bl I q (by simp))
    | int j=>obtain ⟨t',rfl⟩:=ry;exact eq_int (fin_bl I q dec_int)
    | str j=>obtain ⟨t',rfl⟩:=ry;exact PySem.EqMixed.eq_int_str (fin_bl I q (by simp))
    | _=>exact absurd (show false=true from hs) Bool.false_ne_true
  | str i =>
    obtain ⟨t,rfl⟩:=rx
    cases y with
    | non=>cases ry;exact PySem.EqNone.eq_str_none (fin_bl I q (by simp))
    | bl j=>cases ry;exact PySem.EqMixed.eq_str_bool (fin_bl I q (by simp))
    | int j=>obtain ⟨t',rfl⟩:=ry;exact PySem.EqMixed.eq_str_int (fin_bl I q (by simp))
    | str j=>obtain ⟨t',rfl⟩:=ry;exact eq_str (fin_bl I q dec_str)
    | _=>exact absurd (show false=true from hs) Bool.false_ne_true
  | byt i =>
    obtain ⟨t,rfl⟩:=rx
    cases y with
    | byt j=>obtain ⟨t',rfl⟩:=ry;exact PySem.W.eq_bytes (fin_bl I q dec_byt)
    | _=>exact absurd (show false=true from hs) Bool.false_ne_true
  | _=>cases y <;> exact absurd (show false=true from hs) Bool.false_ne_true
theorem op_ne:OpR X (compareOp .NotEq) rNe:=by
  intro pins s σ H x y v u Q I rx ry h
  obtain ⟨hs,q⟩:=h
  cases x with
  | non =>
    cases rx
    cases y with
    | non=>cases ry;exact PySem.EqNone.ne_none_none (fin_bl I q (by simp))
    | bl j=>cases ry;exact PySem.EqNone.ne_none_bool (fin_bl I q (by simp))
    | int j=>obtain ⟨t',rfl⟩:=ry;exact PySem.EqNone.ne_none_int (fin_bl I q (by simp))
    | str j=>obtain ⟨t',rfl⟩:=ry;exact PySem.EqNone.ne_none_str (fin_bl I q (by simp))
    | _=>exact absurd (show false=true from hs) Bool.false_ne_true
  | bl i =>
    cases rx
    cases y with
    | non=>cases ry;exact PySem.EqNone.ne_bool_none (fin_bl I q (by simp))
    | bl j=>cases ry;exact ne_bool (fin_bl I q (congrArg not dec_bl))
    | str j=>obtain ⟨t',rfl⟩:=ry;exact PySem.EqMixed.ne_bool_str (fin_bl I q (by simp))
    | _=>exact absurd (show false=true from hs) Bool.false_ne_true
  | int i =>
    obtain ⟨t,rfl⟩:=rx
    cases y with
    | non=>cases ry;exact PySem.EqNone.ne_int_none (fin_bl I q (by simp))
    | int j=>obtain ⟨t',rfl⟩:=ry;exact ne_int (fin_bl I q (congrArg not dec_int))
    | str j=>obtain ⟨t',rfl⟩:=ry;exact PySem.EqMixed.ne_int_str (fin_bl I q (by simp))
    | _=>exact absurd (show false=true from hs) Bool.false_ne_true
  | str i =>
    obtain ⟨t,rfl⟩:=rx
    cases y with
    | non=>cases ry;exact PySem.EqNone.ne_str_none (fin_bl I q (by simp))
    | bl j=>cases ry;exact PySem.EqMixed.ne_str_bool (fin_bl I q (by simp))
    | int j=>obtain ⟨t',rfl⟩:=ry;exact PySem.EqMixed.ne_str_int (fin_bl I q (by simp))
    | str j=>obtain ⟨t',rfl⟩:=ry;exact ne_str (fin_bl I q (congrArg not dec_str))
    | _=>exact absurd (show false=true from hs) Bool.false_ne_true
  | byt i =>
    obtain ⟨t,rfl⟩:=rx
    cases y with
    | byt j=>obtain ⟨t',rfl⟩:=ry;exact PySem.W.ne_bytes (fin_bl I q (congrArg not dec_byt))
    | _=>exact absurd (show false=true from hs) Bool.false_ne_true
  | _=>cases y <;> exact absurd (show false=true from hs) Bool.false_ne_true
theorem op_lt:OpR X (compareOp .Lt) (rI0 fun i j=>.bl (decide (i < j))):=opB0 fun _ _ _ _ _ _ _ q=>lt_int q
theorem op_gt:OpR X (compareOp .Gt) (rI0 fun i j=>.bl (decide (j < i))):=opB0 fun _ _ _ _ _ _ _ q=>gt_int q
theorem op_ge:OpR X (compareOp .GtE) (rI0 fun i j=>.bl (decide (j≤i))):=opB0 fun _ _ _ _ _ _ _ q=>ge_int q
theorem op_in_str:OpR X (compareOp .In) (fun x y H Q=>∃ i j,x = .str i∧y = .str j∧Q (.bl (!(Builtin.Str.occurrences j i 0 j.length 1).isEmpty)) H):=by
  intro pins s σ H x y v u Q I rx ry h
  obtain ⟨i,j,rfl,rfl,q⟩:=h
  obtain ⟨t,rfl⟩:=rx
  obtain ⟨t',rfl⟩:=ry
  exact in_str (fin_bl I q rfl)
theorem op_isN:OpR X (compareOp .Is) (fun x y H Q=>y = .non∧Q (.bl (decide (x = .non))) H):=by
  intro pins s σ H x y v u Q I rx ry h
  obtain ⟨rfl,q⟩:=h
  cases ry
  refine is_none_gen (fin_bl I q ?_)
  cases x <;> first
    | (cases rx;rfl)
    | (obtain ⟨t,rfl⟩:=rx;rfl)
theorem nomark (b:Expr) {op:CmpOp} (h:op≠.In:=by decide) (h2:op≠.NotIn:=by decide):behindInMarks op b=false:=by
  have e1:(op == CmpOp.In)=false:=by cases op <;> first | rfl | exact absurd rfl h
  have e2:(op == CmpOp.NotIn)=false:=by cases op <;> first | rfl | exact absurd rfl h2
  cases b <;> simp [behindInMarks,e1,e2]
theorem pe_cmpR {op:CmpOp} {r:R2} (ho:OpR X (compareOp op) r) (ha:PE X a ta) (hb:PE X b tb) (hm:behindInMarks op b=false):PE X (.Compare a [op] [b] pos) (tOp r ta tb):=by
  intro pins s σ H Q I h
  exact wpAny_Compare1 (binT ha hb I h fun v u s2 x y H2 I2 rx ry q=>ho pins s2 σ H2 x y v u Q I2 rx ry q) hm
noncomputable def tTest (t:TE):TT:=fun σ H Q=>t σ H fun x H'=>∃ k,x = .bl k∧Q k H'
theorem pt_cmpR {op:CmpOp} {r:R2} (ho:OpR X (compareOp op) r) (ha:PE X a ta) (hb:PE X b tb) (hm:behindInMarks op b=false):PT X (.Compare a [op] [b] pos) (tTest (tOp r ta tb)):=by
  intro pins s σ H Q I h
  refine wpAny_isTrue_Compare1 (thn (ha pins s σ H _ I h) fun v s1 ⟨x,H1,I1,r1,q1⟩=>thn (hb pins s1 σ H1 _ I1 q1) fun u s2 ⟨y,H2,I2,r2,q2⟩ =>
    thn (ho pins s2 σ H2 x y v u _ I2 r1 r2 q2) fun c s3 ⟨z,H3,I3,r3,k,e,q3⟩=>?_) hm
  subst e
  cases r3
  exact wpAny_truthy_bool ⟨H3,I3,q3⟩
theorem line63:(sizeLine:Nat) < 2 ^ 63:=by rw [sizeLine_eq];decide
theorem op_add_str:OpR X (binaryOp .Add) (fun x y H Q=>∃ i j,x = .str i∧y = .str j∧i.length + j.length≤sizeLine∧Q (.str (i++j)) H):=by
  intro pins s σ H x y v u Q I rx ry h
  obtain ⟨i,j,rfl,rfl,hz,q⟩:=h
  obtain ⟨t,rfl⟩:=rx
  obtain ⟨t',rfl⟩:=ry
  exact add_str (fun t' tk=>⟨.str (i++j),H,I.tok _,⟨_,rfl⟩,q⟩) hz
noncomputable def PlainIxT (b:Expr):Prop:=∀ o i,subscripted b false o i=operate [o,i] (getItem o i)
theorem pe_item_str (ha:PE X a ta) (hb:PE X b tb) (hs:PlainIxT b) :
    PE X (.Subscript a b pos) (tOp (fun x y H Q=>∃ z i c,x = .str z∧y = .int i∧0≤i∧i < 2 ^ 63∧i < z.length∧z.cps[i.toNat]? = some c∧Q (.str ⟨#[c]⟩) H) ta tb):=by
  intro pins s σ H Q I h
  refine Subscript_ (binT ha hb I h fun v u s2 x y H2 I2 rx ry q=>?_)
  obtain ⟨z,i,c,rfl,rfl,h0,h63,h1,hc,q⟩:=q
  obtain ⟨t,rfl⟩:=rx
  obtain ⟨t',rfl⟩:=ry
  have e:seqIndex? i z.length=some i.toNat:=PySem.StrLaws.seqIndex_nonneg h0 h1
  exact tail_any (typeIs_str s2 z t) slot_str_getitem.lookup (getItem_str (c:=c) (by
    have e1:decide (i < -(2 ^ 63:Int))=false:=decide_eq_false (by omega)
    have e2:decide (i ≥ 2 ^ 63)=false:=decide_eq_false (by omega)
    rw [e1,e2] <;> rfl) (by rw [e];exact hc) ⟨.str ⟨#[c]⟩,H2,I2.tok _,⟨_,rfl⟩,q⟩) (hs _ _)
theorem vals1 {x:V} {us:List Value} (r:Vals [x] us):∃ u,us=[u]∧RelV x u:=by
  cases r with
  | cons r1 r2=>cases r2;exact ⟨_,rfl,r1⟩
theorem vals2 {x y:V} {us:List Value} (r:Vals [x,y] us):∃ u w',us=[u,w']∧RelV x u∧RelV y w':=by
  cases r with
  | cons r1 r2 =>
    cases r2 with
    | cons r3 r4=>cases r4;exact ⟨_,_,rfl,r1,r3⟩
theorem call_abs:CallR X (.builtin "abs") (fun xs H Q=>∃ i,xs=[.int i]∧Q (.int (if i < 0 then -i else i)) H):=by
  intro pins s σ H xs us Q I r h
  obtain ⟨i,rfl,q⟩:=h
  obtain ⟨u,rfl,t,rfl⟩:=vals1 r
  exact call_abs_int fun u tk=>⟨.int (if i < 0 then -i else i),H,I.tok _,⟨_,rfl⟩,q⟩
theorem call_int1:CallR X (.type "int") (fun xs H Q=>(∃ i,xs=[.int i]∧Q (.int i) H)∨∃ k,xs=[.bl k]∧Q (.int (if k then 1 else 0)) H):=by
  intro pins s σ H xs us Q I r h
  rcases h with ⟨i,rfl,q⟩ | ⟨k,rfl,q⟩
  · obtain ⟨u,rfl,t,rfl⟩:=vals1 r
    exact call_int_int ⟨.int i,H,I,⟨_,rfl⟩,q⟩
  · obtain ⟨u,rfl,r1⟩:=vals1 r
    cases r1
    exact call_int_bool ⟨.int (if k then 1 else 0),H,I.tok _,⟨_,rfl⟩,q⟩
theorem call_str_int:CallR X (.type "str") (fun xs H Q=>∃ i,xs=[.int i]∧i.natAbs.log2 < 1920∧Q (.str (toString i)) H):=by
  intro pins s σ H xs us Q I r h
  obtain ⟨i,rfl,hz,q⟩:=h
  obtain ⟨u,rfl,t,rfl⟩:=vals1 r
  exact PySem.P.str_of_int hz ⟨.str _,H,I.tok _,⟨_,rfl⟩,q⟩
end
end L2
namespace L2
open PySem PySem.Spec PyProof.Rows
structure ObjM (h:Heap) (x dx C:Addr) (mA:Str→Option Value):Prop where
  obj:h.get? x=some (PySem.W.instObj C dx)
  ns:h.Ns1 dx mA
  ne:dx≠x
theorem lookIn_ns {h:Heap} {dx:Addr} {mA:Str→Option Value} (n:h.Ns1 dx mA):∃ od,h.get? dx=some od∧∀ name,PySem.W.lookIn name od=some (mA name):=by
  obtain ⟨o,es,ep,ho,hd,hk,_,hm⟩:=n
  refine ⟨o,ho,fun name=>?_⟩
  have e:=hm name
  unfold nsFind findBy at e
  rw [← Array.find?_toList] at e
  unfold PySem.W.lookIn
  rw [hd]
  dsimp only
  split
  · rename_i y q
    rw [q] at e
    exact congrArg some e
  · rename_i q
    rw [q] at e
    have a:es.toList.any (·.refKey)=false:=by
      rw [List.any_eq_false]
      intro y hy
      obtain ⟨z,t,hkey⟩:=hk y (Array.mem_toList_iff.mp hy)
      simp [DictEntry.refKey,hkey]
    have a':¬ es.toList.any (·.refKey)=true:=by rw [a];exact Bool.false_ne_true
    rw [if_neg a']
    exact congrArg some e
theorem ObjM.look {h:Heap} {x dx C:Addr} {mA:Str→Option Value} (I:ObjM h x dx C mA):∃ od,PySem.W.InstAt h x (PySem.W.instObj C dx) C (some od)∧∀ name,PySem.W.lookIn name od=some (mA name) :=
  let ⟨od,ho,hl⟩:=lookIn_ns I.ns
  ⟨od,⟨I.obj,rfl,rfl,ho⟩,hl⟩
section
variable {prog:Program} {w:World} {A:Around} {E:Value→Shared→Prop} {s:Shared} {K:PySem.W.Frag} {x dx C f:Addr} {mA:Str→Option Value} {name:Str} {v:Value}
theorem get_map {expr:Bool} {Q:Value→Shared→Prop} (X:K.In s.heap) (I:ObjM s.heap x dx C mA) (hg:PySem.W.plainGet K C name=true) (hh:PySem.W.hasDictIn K C=true)
    (ha:PySem.W.findIn K (.ref C) name=some none) (hv:mA name=some v) (hv':PySem.W.handedIn v=true) (h:Q v { s with toks:=s.toks + 1 }) :
    wpAny (model prog w) A (getAttr (.ref x) name expr) Q E s:=by
  obtain ⟨od,J,hl⟩:=I.look
  exact PySem.W.get_value X J (PySem.W.plainGet_of hg).1 (PySem.W.findObj_own hh ha rfl (by rw [hl,hv])) hv' h
theorem get_meth {pl:Sem Bool} {Q:Value×List Value→Shared→Prop} (X:K.In s.heap) (I:ObjM s.heap x dx C mA) (hg:PySem.W.plainGet K C name=true)
    (hf:PySem.W.findIn K (.ref C) name=some (some (.ref f))) (ht:PySem.W.isFn K (.ref f)=true) (hv:mA name=none) (h:Q (.ref f,[.ref x]) s) :
    wpAny (model prog w) A (getMethod (.ref x) name pl) Q E s:=by
  obtain ⟨od,J,hl⟩:=I.look
  exact PySem.W.method_fn X J (PySem.W.plainGet_of hg).1 (PySem.W.plainGet_of hg).2 hf (beq_iff_eq.mp ht) (by show (PySem.W.lookIn name od).map (·.isSome)=some false;rw [hl,hv];rfl) h
theorem set_map {ns:List Str} {Q:Unit→Shared→Prop} (X:K.In s.heap) (I:ObjM s.heap x dx C mA)
    (hs:PySem.W.findIn K (.ref C) "__setattr__" = some (some (.builtin "object.__setattr__"))) (hp:PySem.W.plainOver K C=true) (ht:PySem.W.takerIn K C name=some none) (hh:PySem.W.hasDictIn K C=true)
    (hw:PySem.Within mA ns) (hsz:ns.length≤sizeLine)
    (h:∀ h',ObjM h' x dx C (fun y=>if y=name then some v else mA y)→Heap.SameBut dx s.heap h'→Q () { s with heap:=h',toks:=s.toks + 2 }) :
    wpAny (model prog w) A (setAttr (.ref x) name v) Q E s:=by
  obtain ⟨od,J,hl⟩:=I.look
  refine PySem.W.set_plain X J hs (PySem.W.osa_open (s:={ s with toks:=s.toks + 1 }) (r:=none) X J hp ht fun b=>?_)
  obtain ⟨cd,hc,hd'⟩:=PySem.W.any_some hh
  have hx:s.heap.get? x=some ⟨.ref C,some dx,.plain,#[]⟩:=I.obj
  refine wpAny_bind (wpAny_pure (wpAny_bind (wpAny_bind (wpAny_loadPart hx (wpAny_bind (PySem.W.Looks.here (s:={ s with toks:=s.toks + 1 }) (PySem.W.looks_clsIn X hc) ?_))))))
  rw [hd']
  refine wpAny_pure (a:=some dx) (wpAny_bind (wpAny_pure (wpAny_bind ?_)))
  refine wpAny_nsSet1 (s:={ s with toks:=s.toks + 1 }) I.ns fun h' hn2 hs2=>?_
  obtain ⟨oD,esD,epD,hoD,hdD,hcD⟩:=hn2.count (PySem.Within.cons name v hw)
  refine wpAny_bind (wpAny_lookBehind hoD (by rw [hdD];exact pastItsLine_dict (Nat.le_trans hcD (by rw [List.length_cons];omega))) ?_)
  exact wpAny_pure (h _ ⟨(hs2.2 _ (Ne.symm I.ne)).trans I.obj,hn2,I.ne⟩ hs2)
theorem make_map {R:Result→Shared→Prop} {vs:List Value} {kw:List (Str×Value)} (X:K.In s.heap) (hm:PySem.W.makesIn K C=true)
    (hi:PySem.W.findIn K (.ref C) "__init__" = some (some (.ref f))) (hf:PySem.W.typeIn K (.ref f)=some (.type "function"))
    (h:codeAny (model prog w) (A.under (.builtin "type.__call__" ⟨.ref C :: vs,kw⟩)) (.call (.ref f) ⟨.ref (s.heap.objs.size + 1) :: vs,kw⟩) (PySem.W.InitBack (s.heap.objs.size + 1) R)
      { s with heap:=(s.heap.push PySem.W.emptyDict).push (PySem.W.instObj C s.heap.objs.size) }) :
    codeAny (model prog w) A (.call (.ref C) ⟨vs,kw⟩) R s:=by
  obtain ⟨hh,g,d,t,os⟩:=s
  exact PySem.W.make_core (PySem.W.makes_of X hm) (PySem.W.looks_findIn X hi) (fun self=>PySem.W.bind_fn X self hf) (.inl rfl) h
end
noncomputable def putF (f:Str) (v:V):List (Str×V)→List (Str×V)
  | []=>[(f,v)]
  | (g,x) :: r=>if g=f then (g,v) :: r else (g,x) :: putF f v r
theorem lookup_putF (f g:Str) (v:V):∀ fs:List (Str×V),(putF f v fs).lookup g=if g=f then some v else fs.lookup g
  | []=>by
    show List.lookup g [(f,v)]=_
    by_cases h:g=f
    · have hb:(g == f)=true:=beq_iff_eq.mpr h
      simp only [List.lookup,hb,if_pos h]
    · have hb:(g == f)=false:=beq_eq_false_iff_ne.mpr h
      simp only [List.lookup,hb,if_neg h]
  | (k,x) :: r=>by
    have ih:=lookup_putF f g v r
    rw [show putF f v ((k,x) :: r)=(if k=f then (k,v) :: r else (k,x) :: putF f v r) from rfl]
    by_cases hk:k=f
    · rw [if_pos hk]
      by_cases h:g=k
      · have hb:(g == k)=true:=beq_iff_eq.mpr h
        simp only [List.lookup,hb,if_pos (h.trans hk)]
      · have hb:(g == k)=false:=beq_eq_false_iff_ne.mpr h
        simp only [List.lookup,hb,if_neg (fun e:g=f=>h (e.trans hk.symm))]
    · rw [if_neg hk]
      by_cases h:g=k
      · have hb:(g == k)=true:=beq_iff_eq.mpr h
        simp only [List.lookup,hb,if_neg (fun e:g=f=>hk (h.symm.trans e))]
      · have hb:(g == k)=false:=beq_eq_false_iff_ne.mpr h
        simp only [List.lookup,hb]
        exact ih
theorem keys_putF (f:Str) (v:V):∀ fs:List (Str×V),f∈(putF f v fs).map (·.1)∧∀ g,g∈fs.map (·.1)→g∈(putF f v fs).map (·.1)
  | []=>⟨by simp [putF],fun g h=>by simp at h⟩
  | (k,x) :: r=>by
    obtain ⟨i1,i2⟩:=keys_putF f v r
    rw [show putF f v ((k,x) :: r)=(if k=f then (k,v) :: r else (k,x) :: putF f v r) from rfl]
    by_cases hk:k=f
    · rw [if_pos hk]
      subst hk
      exact ⟨by simp,fun g h=>by simpa using h⟩
    · rw [if_neg hk]
      refine ⟨?_,fun g h=>?_⟩
      · rw [List.map_cons]
        exact List.mem_cons_of_mem _ i1
      · rw [List.map_cons] at h ⊢
        rcases List.mem_cons.mp h with e | e
        · exact List.mem_cons.mpr (.inl e)
        · exact List.mem_cons_of_mem _ (i2 g e)
theorem length_putF (f:Str) (v:V):∀ fs:List (Str×V),(putF f v fs).length≤fs.length + 1
  | []=>by simp [putF]
  | (k,x) :: r=>by
    have ih:=length_putF f v r
    rw [show putF f v ((k,x) :: r)=(if k=f then (k,v) :: r else (k,x) :: putF f v r) from rfl]
    by_cases hk:k=f
    · rw [if_pos hk,List.length_cons,List.length_cons];omega
    · rw [if_neg hk,List.length_cons,List.length_cons];omega
theorem RelO.some_of {v:V} {o:Option Value} (r:RelO (some v) o):∃ u,o=some u∧RelV v u:=by
  cases o with
  | none=>exact (show False from r).elim
  | some u=>exact ⟨u,rfl,r⟩
theorem RelO.none_of {o:Option Value} (r:RelO none o):o=none:=by
  cases o with
  | none=>rfl
  | some u=>exact (show False from r).elim
theorem handed_of {v:V} {u:Value} (r:RelV v u):PySem.W.handedIn u=true:=by
  cases v with
  | non=>cases (show u=Value.none from r);rfl
  | bl b=>cases (show u=Value.bool b from r);rfl
  | int i=>obtain ⟨t,e⟩:=(show ∃ t,u=Value.int i t from r);cases e;rfl
  | str x=>obtain ⟨t,e⟩:=(show ∃ t,u=Value.str x t from r);cases e;rfl
  | byt b=>obtain ⟨t,e⟩:=(show ∃ t,u=Value.bytes b t from r);cases e;rfl
  | flt b=>obtain ⟨t,e⟩:=(show ∃ t,u=Value.float b t from r);cases e;rfl
  | ref a=>cases (show u=Value.ref a from r);rfl
  | ty n=>cases (show u=Value.type n from r);rfl
section
variable {P:Program} {w:World} {H H':Hp} {h h':Heap} {a C dx:Addr} {fs fs':List (Str×V)}
theorem ins_get (hok:HOk P w H h) (e:H a=some (.ins C dx fs)):∃ mA,ObjM h a dx C mA∧(∀ f,RelO (fs.lookup f) (mA f))∧PySem.Within mA (fs.map (·.1))∧fs.length≤1000∧H dx=some (.own a):=by
  obtain ⟨d,z,ne,ob,mA,n,r,q⟩:=(show ObjOk P w H h a (.ins C dx fs) from hok a _ e)
  exact ⟨mA,⟨ob,n,ne⟩,r,q,z,d⟩
end
structure Cls (K:PySem.W.Frag) (C:Addr):Prop where
  pg:PySem.W.plainGet K C Str.empty=true
  hd:PySem.W.hasDictIn K C=true
  po:PySem.W.plainOver K C=true
  sa:PySem.W.findIn K (.ref C) "__setattr__" = some (some (.builtin "object.__setattr__"))
theorem Cls.get {K:PySem.W.Frag} {C:Addr} (c:Cls K C) (f:Str):PySem.W.plainGet K C f=true:=c.pg
noncomputable def NoAttr (K:PySem.W.Frag) (C:Addr) (f:Str):Prop:=PySem.W.findIn K (.ref C) f=some none
theorem NoAttr.taker {K:PySem.W.Frag} {C:Addr} {f:Str} (n:NoAttr K C f):PySem.W.takerIn K C f=some none:=by
  unfold PySem.W.takerIn
  rw [show PySem.W.findIn K (.ref C) f=some none from n]
  rfl
structure Meth (K:PySem.W.Frag) (C:Addr) (m:Str) (f:Addr):Prop where
  at_:PySem.W.findIn K (.ref C) m=some (some (.ref f))
  fn:PySem.W.isFn K (.ref f)=true
  kp:PySem.W.keepIn K (.ref f)=true
section
variable {X:Cx} {pins:List (Addr×Obj)} {σ:St} {H:Hp} {s:Shared} {a C dx:Addr} {fs:List (Str×V)} {f:Str} {v:V} {A:Around} {E:Value→Shared→Prop}
theorem getattr_ok {b:Bool} {Q:Value→Shared→Prop} (I:Inv X pins σ H s) (e:H a=some (.ins C dx fs)) (c:Cls X.K C) (n:NoAttr X.K C f) (l:fs.lookup f=some v)
    (h:∀ u s',Inv X pins σ H s'→RelV v u→Q u s'):wpAny (model X.prog X.w) A (getAttr (.ref a) f b) Q E s:=by
  obtain ⟨mA,O,r,_,_,_⟩:=ins_get I.hok e
  obtain ⟨u,hu,ru⟩:=RelO.some_of (v:=v) (o:=mA f) (by rw [← l];exact r f)
  exact get_map I.kIn O (c.get f) c.hd n hu (handed_of ru) (h u _ (I.tok _) ru)
theorem getmeth_ok {m:Str} {g:Addr} {pl:Sem Bool} {Q:Value×List Value→Shared→Prop} (I:Inv X pins σ H s) (e:H a=some (.ins C dx fs)) (c:Cls X.K C) (k:Meth X.K C m g) (l:fs.lookup m=none)
    (h:Q (.ref g,[.ref a]) s):wpAny (model X.prog X.w) A (getMethod (.ref a) m pl) Q E s:=by
  obtain ⟨mA,O,r,_,_,_⟩:=ins_get I.hok e
  have hn:mA m=none:=RelO.none_of (by rw [← l];exact r m)
  exact get_meth I.kIn O (c.get m) k.at_ k.fn hn h
theorem setattr_ok {y:V} {u:Value} {Q:Unit→Shared→Prop} (I:Inv X pins σ H s) (e:H a=some (.ins C dx fs)) (c:Cls X.K C) (n:NoAttr X.K C f) (hl:fs.length < 1000) (ry:RelV y u)
    (h:∀ s',Inv X pins σ (upd H a (.ins C dx (putF f y fs))) s'→Q () s'):wpAny (model X.prog X.w) A (setAttr (.ref a) f u) Q E s:=by
  obtain ⟨mA,O,r,wi,_,ho⟩:=ins_get I.hok e
  have hz:(fs.map (·.1)).length≤sizeLine:=by rw [List.length_map,sizeLine_eq];omega
  refine set_map I.kIn O c.sa c.po n.taker c.hd wi hz fun h' O' sb=>h _ ?_
  have hd:∃ o,h'.get? dx=some o:=let ⟨o,_,_,e',_⟩:=O'.ns;⟨o,e'⟩
  refine I.write (x:=a) (e:=dx) (by rw [e];exact True.intro) (.inr ho) (fun b q hb z=>(sb.2 b hb).trans z) hd ?_
  refine ⟨by rw [upd_ne O.ne];exact ho,?_,O.ne,O'.obj,_,O'.ns,fun g=>?_,fun g hg=>?_⟩
  · have:=length_putF f y fs;omega
  · show RelO ((putF f y fs).lookup g) (if g=f then some u else mA g)
    rw [lookup_putF]
    by_cases q:g=f
    · rw [if_pos q,if_pos q];exact ry
    · rw [if_neg q,if_neg q];exact r g
  · by_cases q:g=f
    · rw [q];exact (keys_putF f y fs).1
    · refine (keys_putF f y fs).2 g (wi g fun z=>hg ?_)
      show (if g=f then some u else mA g)=none
      rw [if_neg q];exact z
theorem Inv.made (I:Inv X pins σ H s):Inv X pins σ (upd (upd H s.heap.objs.size (.own (s.heap.objs.size + 1))) (s.heap.objs.size + 1) (.ins C s.heap.objs.size []))
    { s with heap:=(s.heap.push PySem.W.emptyDict).push (PySem.W.instObj C s.heap.objs.size) }:=by
  have e1:(s.heap.push PySem.W.emptyDict).get? s.heap.objs.size=some PySem.W.emptyDict:=Heap.get?_push_size s.heap rfl
  have e2:((s.heap.push PySem.W.emptyDict).push (PySem.W.instObj C s.heap.objs.size)).get? (s.heap.objs.size + 1)=some (PySem.W.instObj C s.heap.objs.size):=by
    have:=Heap.get?_push_size (s.heap.push PySem.W.emptyDict) (o:=PySem.W.instObj C s.heap.objs.size) rfl
    rwa [Heap.size_push] at this
  have e3:(s.heap.push PySem.W.emptyDict).Ns s.heap.objs.size (fun _=>none):=⟨PySem.W.emptyDict,#[],_,e1,rfl,(fun e he=>absurd he (by simp)),fun _=>rfl⟩
  have I1:=I.laid (a:=s.heap.objs.size) (o:=.own (s.heap.objs.size + 1)) (h':=s.heap.push PySem.W.emptyDict) (t':=s.toks) (fun b u q=>Heap.get?_push_of_some _ q) (Nat.le_refl _) ⟨_,e1⟩
  refine I1.laid (a:=s.heap.objs.size + 1) (o:=.ins C s.heap.objs.size []) (t':=s.toks) (fun b u q=>Heap.get?_push_of_some _ q) (Nat.le_of_eq (Heap.size_push _ _)) ?_
  have ne:s.heap.objs.size≠s.heap.objs.size + 1:=Nat.ne_of_lt (Nat.lt_succ_self _)
  refine ⟨by rw [upd_ne ne,upd_same],Nat.zero_le _,ne,e2,fun _=>none,(Heap.Ns1.of_empty e3).at fun o q=>Heap.get?_push_of_some _ q,fun _=>True.intro,fun y hy=>absurd rfl hy⟩
theorem attr_of {prog:Program} {w:World} {env:Env} {e:Expr} {f:Str} {pos:Pos} {s:Shared} {Q:Value→Shared→Prop} (hb:attributeBase e f env (eval e env)=eval e env)
    (h:wpAny (model prog w) A (eval e env) (fun o s₁=>wpAny (model prog w) A (getAttr o f true) Q E s₁) E s):wpAny (model prog w) A (eval (.Attribute e f pos) env) Q E s :=
  Attribute_any_ h (by rw [arm_eval_Attribute,hb])
end
noncomputable def tFld (K:PySem.W.Frag) (ta:TE) (f:Str):TE:=fun σ H Q=>ta σ H fun x H1=>∃ a C dx fs v,x = .ref a∧H1 a=some (.ins C dx fs)∧Cls K C∧NoAttr K C f∧fs.lookup f=some v∧Q v H1
noncomputable def sFld (K:PySem.W.Frag) (ta tv:TE) (f:Str):TS:=fun D σ H=>tv σ H fun y H1=>ta σ H1 fun x H2=>∃ a C dx fs,x = .ref a∧H2 a=some (.ins C dx fs)∧Cls K C∧NoAttr K C f∧fs.length < 1000 ∧
  D.nx σ (upd H2 a (.ins C dx (putF f y fs)))
section
variable {X:Cx} {o e value:Expr} {f:Str} {pos pos' tpos:Pos} {ta tv:TE}
theorem pe_fld (he:PE X e ta) (hb:attributeBase e f X.env (eval e X.env)=eval e X.env):PE X (.Attribute e f pos) (tFld X.K ta f):=by
  intro pins s σ H Q I h
  refine attr_of hb (thn (he pins s σ H _ I h) fun u s1 hpq=>?_)
  obtain ⟨x,H1,I1,rx,a,C,dx,fs,v,ex,ea,c,n,l,q⟩:=hpq
  subst ex
  obtain rfl:u=Value.ref a:=rx
  exact getattr_ok I1 ea c n l fun u' s2 I2 ru=>⟨v,H1,I2,ru,q⟩
theorem ps_fld (ha:PE X o ta) (hv:PE X value tv) (hs:swapsWith value (some (.Attribute o f pos')) pos.line X.env=pure false):PS X (.Assign [.Attribute o f pos'] value pos) (sFld X.K ta tv f):=by
  intro pins s σ H D I h
  refine plainObj_wpAny_Assign_Attribute (thn (hv pins s σ H _ I h) fun u s1 ⟨y,H1,I1,ry,q⟩=>thn (ha pins s1 σ H1 _ I1 q) fun ov s2 hpq=>?_) hs
  obtain ⟨x,H2,I2,rx,a,C,dx,fs,ex,ea,c,n,l,q2⟩:=hpq
  subst ex
  obtain rfl:ov=Value.ref a:=rx
  exact setattr_ok I2 ea c n l ry fun s3 I3=>⟨σ,_,I3,q2⟩
end
section
variable {X:Cx} {pins:List (Addr×Obj)} {σ:St} {H:Hp} {s:Shared} {A:Around} {E:Value→Shared→Prop} {Q:Value→Shared→Prop} {c:Value} {b:Bool}
end
end L2
namespace L2
open PySem PySem.Spec PyProof.Rows
structure Room (k:Nat) (A:Around):Prop where
  hd:A.handled=none
  dp:A.depth + 3 * k + 5 < recursionLimit
  un:A.units + 16 * k + 200 < cLine
theorem Room.mono {j k:Nat} {A:Around} (r:Room k A) (h:j≤k):Room j A:=⟨r.hd,by have:=r.dp;omega,by have:=r.un;omega⟩
theorem Room.deeper {k:Nat} {A:Around} (r:Room (k + 1) A) (env:Env):Room k (A.deeper env) :=
  ⟨r.hd,by have:=r.dp;show A.depth + 1 + 3 * k + 5 < _;omega,by have:=r.un;show A.units + 3 + 16 * k + 200 < _;omega⟩
theorem make_depth {A:Around} {C:Addr} {us:List Value} {kw:List (Str×Value)}:(A.under (.builtin "type.__call__" ⟨.ref C :: us,kw⟩)).depth=A.depth + 1:=by
  first | rfl | simp [Around.under,Code.weight,Code.isCreation,Code.isGuard,Code.isCaller,Code.frames,Code.isFrame,guardIds]
theorem make_units {A:Around} {C:Addr} {us:List Value} {kw:List (Str×Value)}:(A.under (.builtin "type.__call__" ⟨.ref C :: us,kw⟩)).units=A.units + 1:=by
  first | rfl | simp [Around.under,Code.cUnits,Code.frames,Code.isFrame]
theorem Room.make {k:Nat} {A:Around} (r:Room (k + 1) A) (C:Addr) (us:List Value) (kw:List (Str×Value)):Room k (A.under (.builtin "type.__call__" ⟨.ref C :: us,kw⟩)) :=
  ⟨r.hd,by have:=r.dp;rw [make_depth];omega,by have:=r.un;rw [make_units];omega⟩
theorem Room.depth {k:Nat} {A:Around} (r:Room k A):A.depth < recursionLimit:=by have:=r.dp;omega
theorem Room.units {k:Nat} {A:Around} (r:Room k A):A.units + 64 < cLine:=by have:=r.un;omega
noncomputable def tNil:TA:=fun _ H Q=>Q [] H
noncomputable def tCons (ta:TE) (tr:TA):TA:=fun σ H Q=>ta σ H fun x H1=>tr σ H1 fun xs H2=>Q (x :: xs) H2
section
variable {X:Cx} {e:Expr} {es:List Expr} {te:TE} {t:TA} {pos:Pos}
theorem pa_nil:PA X [] tNil:=fun _ _ _ _ H Q I h=>Calls.spliced_nil ⟨[],H,I,.nil,h⟩
theorem pa_cons (ha:PE X e te) (hr:PA X es t) (hs:starEach (e :: es) X.env=(false,eval e X.env) :: starEach es X.env:=by rfl):PA X (e :: es) (tCons te t):=by
  intro pos pins s σ H Q I h
  rw [hs]
  show wpAny _ _ (spliced ((false,eval e X.env) :: backTo pos (starEach es X.env))) _ _ s
  refine Calls.spliced_cons (thn (ha pins s σ H _ I h) fun u s1 hpq=>?_)
  obtain ⟨x,H1,I1,r1,q1⟩:=hpq
  exact thn (hr pos pins s1 σ H1 _ I1 q1) fun us s2 ⟨xs,H2,I2,r2,q2⟩=>⟨x :: xs,H2,I2,.cons r1 r2,q2⟩
noncomputable def tTup (t:TA):TE:=fun σ H Q=>t σ H fun xs H1=>xs.length≤sizeLine∧∀ p,H1 p=none→Q (.ref p) (upd H1 p (.tup xs))
noncomputable def tLst (t:TA):TE:=fun σ H Q=>t σ H fun xs H1=>xs.length≤sizeLine∧∀ p,H1 p=none→Q (.ref p) (upd H1 p (.lst xs))
theorem pe_tup {x1} (h:PA X es t):PE X (.Tuple es x1 pos) (tTup t):=by
  intro pins s σ H Q I hq
  refine wpAny_Tuple_spliced (thn (h pos pins s σ H _ I hq) fun us s1 ⟨xs,H1,I1,r,z,q⟩=>⟨by rw [← r.length];exact z,?_⟩)
  have hf:H1 s1.heap.objs.size=none:=I1.hok.fresh (Nat.le_refl _)
  refine ⟨.ref s1.heap.objs.size,upd H1 s1.heap.objs.size (.tup xs),I1.laid (t':=s1.toks) (fun b u e=>Heap.get?_push_of_some _ e) (Nat.le_refl _) ?_,rfl,q _ hf⟩
  exact ⟨z,us,r,⟨_,Heap.get?_push_size _ rfl,rfl,_,rfl⟩⟩
theorem pe_lst (h:PA X es t):PE X (.List es pos) (tLst t):=by
  intro pins s σ H Q I hq
  refine wpAny_List_spliced (thn (h pos pins s σ H _ I hq) fun us s1 ⟨xs,H1,I1,r,z,q⟩=>⟨by rw [← r.length];exact z,?_⟩)
  have hf:H1 s1.heap.objs.size=none:=I1.hok.fresh (Nat.le_refl _)
  refine ⟨.ref s1.heap.objs.size,upd H1 s1.heap.objs.size (.lst xs),I1.laid (t':=s1.toks) (fun b u e=>Heap.get?_push_of_some _ e) (Nat.le_refl _) ?_,rfl,q _ hf⟩
  exact ⟨z,us,0,r,Heap.get?_push_size _ rfl⟩
end
noncomputable abbrev Sp:=List V→Hp→VK→XK→Prop
noncomputable abbrev CXT:=List Env→Hp→Shared→XK→Value→Shared→Prop
structure Env0 (P:Program) (w:World) (K:PySem.W.Frag) (mg:Str→Option Value) (base:Heap) (A:Around) (outer:List Env) (s:Shared) (H:Hp):Prop where
  frames:A.frames=some outer
  mod:Mod K mg base
  bs:∀ b o,base.get? b=some o→s.heap.get? b=some o∧H b=none
  bsz:base.objs.size≤s.heap.objs.size
  funs:s.heap.FunFrames base outer
  frf:∀ b∈frs outer,H b=none
  hok:HOk P w H s.heap
  bare:AllBare s.gens
noncomputable def CE (outer:List Env) (P:Program) (w:World) (H:Hp) (s:Shared) (Q:VK) (u:Value) (s':Shared):Prop :=
  ∃ v H',s'.os=s.os∧AllBare s'.gens∧Un (frs outer) [] H H' s.heap s'.heap∧HOk P w H' s'.heap∧RelV v u∧Q v H'
noncomputable def CR (CX:CXT) (outer:List Env) (P:Program) (w:World) (H:Hp) (s:Shared) (Q:VK) (E:XK) (r:Result) (s':Shared):Prop :=
  match r with
  | .ok (.ret u)=>CE outer P w H s Q u s'
  | .ok _=>False
  | .error e=>CX outer H s E e s'
structure FnOk (P:Program) (w:World) (K:PySem.W.Frag) (mg:Str→Option Value) (base:Heap) (CX:CXT) (k:Nat) (f:Addr) (fd:FuncData) (ps:List Str) (sp:Sp):Prop where
  len:∀ vs H Q E,sp vs H Q E→vs.length=ps.length
  run:∀ (A:Around) (outer:List Env) (s:Shared) (H:Hp) (args:Args) (us:List Value) (vs:List V) (Q:VK) (E:XK),Room k A→Env0 P w K mg base A outer s H→BindsTo s fd args (ps.zip us)→Vals vs us→sp vs H Q E →
    codeAny (model P w) A (.call (.ref f) args) (CR CX outer P w H s Q E) s
theorem Env0.make {P:Program} {w:World} {K:PySem.W.Frag} {mg:Str→Option Value} {base:Heap} {A:Around} {outer:List Env} {s:Shared} {H:Hp} (e:Env0 P w K mg base A outer s H) (C:Addr) (us:List Value) (kw:List (Str×Value)) :
    Env0 P w K mg base (A.under (.builtin "type.__call__" ⟨.ref C :: us,kw⟩)) outer s H:=⟨by first | exact e.frames | (simpa [Around.under,Code.envs,Code.isFrame,pushEnvs] using e.frames),e.mod,e.bs,e.bsz,e.funs,e.frf,e.hok,e.bare⟩
section
variable {X:Cx} {pins:List (Addr×Obj)} {σ:St} {H:Hp} {s s':Shared}
theorem Inv.env0 (I:Inv X pins σ H s):Env0 X.prog X.w X.K X.mg X.base X.A X.stack s H :=
  ⟨I.ok.frames,I.ok.mod,I.bs,Nat.le_trans I.ok.bsz I.sz,I.stack,I.stkFree,I.hok,I.bare⟩
theorem Inv.after {Q:VK} {u:Value} (I:Inv X pins σ H s) (h:CE X.stack X.prog X.w H s Q u s'):EP X pins σ Q u s':=by
  obtain ⟨v,H',os,bare,un,hok,r,q⟩:=h
  obtain ⟨hh,g,d,t,os'⟩:=s'
  obtain rfl:os'=s.os:=os
  exact ⟨v,H',I.call (h':=hh) (g':=g) (d':=d) (t':=t) (ch:=[]) un hok bare (fun b z=>absurd z (by simp)),r,q⟩
end
noncomputable def tCall (sp:Sp) (dvs:List V) (E:XK) (t:TA):TE:=fun σ H Q=>t σ H fun vs H1=>sp (vs++dvs) H1 Q E
noncomputable def tMeth (C:Addr) (m:Str) (sp:Sp) (dvs:List V) (E:XK) (ta:TE) (t:TA):TE:=fun σ H Q=>ta σ H fun x H1=>∃ a dx fs,x = .ref a∧H1 a=some (.ins C dx fs)∧fs.lookup m=none ∧
  t σ H1 fun vs H2=>sp (x :: (vs++dvs)) H2 Q E
noncomputable def tMake (C:Addr) (sp:Sp) (dvs:List V) (E:XK) (t:TA):TE:=fun σ H Q=>t σ H fun vs H1=>∀ x dx,H1 x=none→H1 dx=none→dx≠x →
  sp (.ref x :: (vs++dvs)) (upd (upd H1 dx (.own x)) x (.ins C dx [])) (fun v H2=>v = .non∧Q (.ref x) H2) E
noncomputable def Binds (K:PySem.W.Frag) (fd:FuncData) (ps:List Str) (ds:List Value):Prop :=
  ∀ (s:Shared) (us:List Value),K.In s.heap→(us++ds).length=ps.length→BindsTo s fd ⟨us,[]⟩ (ps.zip (us++ds))
theorem Binds.all {K:PySem.W.Frag} {fd:FuncData} {ps:List Str} (h:∀ us:List Value,us.length=ps.length→bindArgs fd ⟨us,[]⟩=pure (ps.zip us)):Binds K fd ps []:=fun s us _ hl=>by
  rw [List.append_nil] at hl ⊢
  exact .of_eq (h us hl)
noncomputable def Passes (CX:CXT) (X:Cx) (E:XK):Prop:=∀ (pins:List (Addr×Obj)) (σ:St) (H:Hp) (s:Shared) (e:Value) (s':Shared),Inv X pins σ H s→CX X.stack H s E e s'→X.xe e s'
section
variable {X:Cx} {CX:CXT} {k:Nat} {f C:Addr} {fd:FuncData} {ps:List Str} {sp:Sp} {dvs:List V} {ds:List Value} {E:XK} {x m:Str} {p pos apos:Pos} {e o:Expr} {es:List Expr} {ta:TE} {t:TA}
theorem run_fn {pins:List (Addr×Obj)} {σ:St} {H:Hp} {s:Shared} {Q:VK} {us:List Value} {vs:List V} (F:FnOk X.prog X.w X.K X.mg X.base CX k f fd ps sp) (hr:Room k X.A) (hb:Binds X.K fd ps ds) (hd:Vals dvs ds) (hx:Passes CX X E)
    (I:Inv X pins σ H s) (r:Vals vs us) (h:sp (vs++dvs) H Q E):wpAny (model X.prog X.w) X.A (call (.ref f) us) (EP X pins σ Q) X.xe s:=by
  have r2:Vals (vs++dvs) (us++ds):=r.append hd
  have hl:(us++ds).length=ps.length:=by rw [← r2.length];exact F.len _ _ _ _ h
  refine wpAny_call (codeAny_mono (F.run X.A X.stack s H ⟨us,[]⟩ (us++ds) (vs++dvs) Q E hr I.env0 (hb s us I.kIn hl) r2 h) fun r s' hq=>?_)
  cases r with
  | error e=>exact hx pins σ H s e s' I hq
  | ok fl =>
    cases fl with
    | ret u=>exact I.after hq
    | next=>exact False.elim hq
    | brk=>exact False.elim hq
    | cont=>exact False.elim hq
theorem pe_call (F:FnOk X.prog X.w X.K X.mg X.base CX k f fd ps sp) (hr:Room k X.A) (hg:Gl X x) (hm:X.mg x=some (.ref f)) (hk:PySem.W.keepIn X.K (.ref f)=true) (hb:Binds X.K fd ps ds) (hd:Vals dvs ds) (hx:Passes CX X E)
    (ha:PA X (e :: es) t) (hdb:(x == ("__debug__":Str))=false:=by decide) (he:starEach (e :: es) X.env=(false,eval e X.env) :: starEach es X.env:=by rfl) (hpl:(backTo pos (starEach es X.env)).any (·.1)=false:=by rfl) :
    PE X (.Call (.Name x p) (e :: es) [] pos) (tCall sp dvs E t):=by
  intro pins s σ H Q I h
  refine wpAny_Call_Name_kw (ld_glob I hg hm ?_ hdb)
  refine PySem.W.callWith_K (h₀:=X.base) I.ok.mod.kin hk (thn (ha pos pins s σ H _ I h) fun us s1 ⟨vs,H1,I1,r,q⟩=>⟨I1.kIn,?_⟩) he hpl
  exact run_fn F hr hb hd hx I1 r q
theorem pe_meth {pl:Sem Bool} (he:PE X o ta) (c:Cls X.K C) (hm:Meth X.K C m f) (F:FnOk X.prog X.w X.K X.mg X.base CX k f fd ps sp) (hr:Room k X.A) (hb:Binds X.K fd ps ds) (hd:Vals dvs ds) (hx:Passes CX X E) (ha:PA X (e :: es) t)
    (hst:starEach (e :: es) X.env=(false,eval e X.env) :: starEach es X.env:=by rfl) (hpl:(backTo pos (starEach es X.env)).any (·.1)=false:=by rfl)
    (ht:eval (.Call (.Attribute o m apos) (e :: es) [] pos) X.env=(do
      let ov ← eval o X.env
      standAt apos.atName
      let (f,first) ← holding [ov] (getMethod ov m pl)
      callWith pos f first (backTo pos (starEach (e :: es) X.env)) (backToKw pos (keywordEach [] X.env))):=by rfl) :
    PE X (.Call (.Attribute o m apos) (e :: es) [] pos) (tMeth C m sp dvs E ta t):=by
  intro pins s σ H Q I h
  refine PySem.W.methodCall_KW (pl:=pl) (thn (he pins s σ H _ I h) fun u s1 hpq=>?_) ht
  obtain ⟨x,H1,I1,rx,a,dx,fs,ex,ea,l,q⟩:=hpq
  subst ex
  obtain rfl:u=Value.ref a:=rx
  refine getmeth_ok I1 ea c hm l ?_
  refine PySem.W.callWith_K (first:=[.ref a]) (h₀:=X.base) I.ok.mod.kin hm.kp (thn (ha pos pins s1 σ H1 _ I1 q) fun us s2 ⟨vs,H2,I2,r,q2⟩=>⟨I2.kIn,?_⟩) hst hpl
  exact run_fn (us:=.ref a :: us) (vs:=.ref a :: vs) F hr hb hd hx I2 (.cons rfl r) q2
theorem pe_meth0 {pl:Sem Bool} (he:PE X o ta) (c:Cls X.K C) (hm:Meth X.K C m f) (F:FnOk X.prog X.w X.K X.mg X.base CX k f fd ps sp) (hr:Room k X.A) (hb:Binds X.K fd ps ds) (hd:Vals dvs ds) (hx:Passes CX X E)
    (ht:eval (.Call (.Attribute o m apos) [] [] pos) X.env=(do
      let ov ← eval o X.env
      standAt apos.atName
      let (f,first) ← holding [ov] (getMethod ov m pl)
      callWith pos f first (backTo pos (starEach [] X.env)) (backToKw pos (keywordEach [] X.env))):=by rfl) :
    PE X (.Call (.Attribute o m apos) [] [] pos) (tMeth C m sp dvs E ta tNil):=by
  intro pins s σ H Q I h
  refine PySem.W.methodCall_KW (pl:=pl) (thn (he pins s σ H _ I h) fun u s1 hpq=>?_) ht
  obtain ⟨x,H1,I1,rx,a,dx,fs,ex,ea,l,q⟩:=hpq
  subst ex
  obtain rfl:u=Value.ref a:=rx
  refine getmeth_ok I1 ea c hm l ?_
  exact PySem.W.callWith_K0 (first:=[.ref a]) I1.kIn hm.kp (run_fn (us:=[.ref a]) (vs:=[.ref a]) F hr hb hd hx I1 (.cons rfl .nil) q)
structure Mk (K:PySem.W.Frag) (C f:Addr):Prop where
  makes:PySem.W.makesIn K C=true
  init:PySem.W.findIn K (.ref C) "__init__" = some (some (.ref f))
  fn:PySem.W.isFn K (.ref f)=true
  kp:PySem.W.keepIn K (.ref C)=true
theorem run_make {pins:List (Addr×Obj)} {σ:St} {H:Hp} {s:Shared} {Q:VK} {us:List Value} {vs:List V} (M:Mk X.K C f) (F:FnOk X.prog X.w X.K X.mg X.base CX k f fd ps sp) (hr:Room (k + 1) X.A) (hb:Binds X.K fd ps ds) (hd:Vals dvs ds)
    (hx:Passes CX X E) (I:Inv X pins σ H s) (r:Vals vs us)
    (h:∀ x dx,H x=none→H dx=none→dx≠x→sp (.ref x :: (vs++dvs)) (upd (upd H dx (.own x)) x (.ins C dx [])) (fun v H2=>v = .non∧Q (.ref x) H2) E) :
    wpAny (model X.prog X.w) X.A (call (.ref C) us) (EP X pins σ Q) X.xe s:=by
  have hq:=h (s.heap.objs.size + 1) s.heap.objs.size (I.hok.fresh (Nat.le_succ _)) (I.hok.fresh (Nat.le_refl _)) (Nat.ne_of_lt (Nat.lt_succ_self _))
  have I2:=Inv.made (C:=C) I
  have r2:Vals (V.ref (s.heap.objs.size + 1) :: (vs++dvs)) (Value.ref (s.heap.objs.size + 1) :: (us++ds)):=.cons rfl (r.append hd)
  have hl:(Value.ref (s.heap.objs.size + 1) :: us++ds).length=ps.length:=by
    have e:=r2.length
    rw [F.len _ _ _ _ hq] at e
    exact e.symm
  refine wpAny_call (make_map (f:=f) I.kIn M.makes M.init (beq_iff_eq.mp M.fn) (codeAny_mono (F.run _ X.stack _ _ ⟨Value.ref (s.heap.objs.size + 1) :: us,[]⟩ (Value.ref (s.heap.objs.size + 1) :: (us++ds)) _ _ E (hr.make C us [])
    (I2.env0.make C us []) (hb _ (Value.ref (s.heap.objs.size + 1) :: us) I2.kIn hl) r2 hq) fun r s' hq'=>?_))
  cases r with
  | error e=>exact hx pins σ _ _ e s' I2 hq'
  | ok fl =>
    cases fl with
    | ret u =>
      obtain ⟨v,H',I3,rv,ev,q3⟩:=I2.after hq'
      subst ev
      exact ⟨rv,⟨V.ref (s.heap.objs.size + 1),H',I3,rfl,q3⟩⟩
    | next=>exact False.elim hq'
    | brk=>exact False.elim hq'
    | cont=>exact False.elim hq'
theorem pe_make (M:Mk X.K C f) (F:FnOk X.prog X.w X.K X.mg X.base CX k f fd ps sp) (hr:Room (k + 1) X.A) (hg:Gl X x) (hm:X.mg x=some (.ref C)) (hb:Binds X.K fd ps ds) (hd:Vals dvs ds) (hx:Passes CX X E)
    (ha:PA X (e :: es) t) (hdb:(x == ("__debug__":Str))=false:=by decide) (he:starEach (e :: es) X.env=(false,eval e X.env) :: starEach es X.env:=by rfl) (hpl:(backTo pos (starEach es X.env)).any (·.1)=false:=by rfl) :
    PE X (.Call (.Name x p) (e :: es) [] pos) (tMake C sp dvs E t):=by
  intro pins s σ H Q I h
  refine wpAny_Call_Name_kw (ld_glob I hg hm ?_ hdb)
  refine PySem.W.callWith_K (h₀:=X.base) I.ok.mod.kin M.kp (thn (ha pos pins s σ H _ I h) fun us s1 ⟨vs,H1,I1,r,q⟩=>⟨I1.kIn,?_⟩) he hpl
  exact run_make M F hr hb hd hx I1 r q
end
section
variable {X:Cx} {CX:CXT} {k:Nat} {f C:Addr} {fd:FuncData} {ps ks:List Str} {sp:Sp} {E:XK} {x m:Str} {p pos apos kpos:Pos} {e o:Expr} {es:List Expr} {kws:List Keyword} {te ta:TE} {t tk:TA} {nm:Option Str}
variable {g:List Value→List Value→List Value} {gV:List V→List V→List V}
end
structure FnScope (N P:List Str) (sc:Scope):Prop where
  kind:sc.kind = .function
  co:sc.isCoroutine=false
  gen:sc.isGenerator=false
  nd:N.Nodup
  pre:N.take P.length=P
  par:∀ x∈P,sc.names.lookup x=some .local∨sc.names.lookup x=some .cell
  nofree:∀ y∈sc.names,y.2≠.free
theorem bindL_out {kindOf:Str→Option NameKind} {x:Str}:∀ {binds:List (Str×Value)} {m:Str→Option Value},(∀ v,(x,v) ∉ binds)→bindL kindOf binds m x=m x
  | [],_,_=>rfl
  | (n,v) :: r,m,h=>by
    unfold bindL
    rw [bindL_out fun w hw=>h w (List.mem_cons_of_mem _ hw)]
    split
    · have:x≠n:=by rintro rfl;exact h v List.mem_cons_self
      simp [this]
    · rfl
theorem bindC_out {kindOf:Str→Option NameKind} {x:Str}:∀ {binds:List (Str×Value)} {m:Str→Option Value},(∀ v,(x,v) ∉ binds)→bindC kindOf binds m x=m x
  | [],_,_=>rfl
  | (n,v) :: r,m,h=>by
    unfold bindC
    rw [bindC_out fun w hw=>h w (List.mem_cons_of_mem _ hw)]
    split
    · rfl
    · have:x≠n:=by rintro rfl;exact h v List.mem_cons_self
      simp [this]
theorem bindL_get {kindOf:Str→Option NameKind} {x:Str} {v:Value}:∀ {P:List Str} {vs:List Value} {i:Nat} {m:Str→Option Value},P.Nodup→P[i]? = some x→vs[i]? = some v→kindOf x=some .local →
    bindL kindOf (P.zip vs) m x=some v
  | [],_,_,_,_,h,_,_=>by simp at h
  | _ :: _,[],_,_,_,_,h,_=>by simp at h
  | p :: P,w :: vs,0,m,nd,h1,h2,hk=>by
    simp at h1 h2;subst h1;subst h2
    show bindL kindOf ((p,w) :: P.zip vs) m p=_
    unfold bindL
    rw [bindL_out fun v hv=>(List.nodup_cons.mp nd).1 (List.of_mem_zip hv).1,if_pos hk]
    simp
  | p :: P,w :: vs,i + 1,m,nd,h1,h2,hk=>by
    show bindL kindOf ((p,w) :: P.zip vs) m x=_
    unfold bindL
    exact bindL_get (i:=i) (List.nodup_cons.mp nd).2 (by simpa using h1) (by simpa using h2) hk
theorem bindC_get {kindOf:Str→Option NameKind} {x:Str} {v:Value}:∀ {P:List Str} {vs:List Value} {i:Nat} {m:Str→Option Value},P.Nodup→P[i]? = some x→vs[i]? = some v→kindOf x≠some .local →
    bindC kindOf (P.zip vs) m x=some v
  | [],_,_,_,_,h,_,_=>by simp at h
  | _ :: _,[],_,_,_,_,h,_=>by simp at h
  | p :: P,w :: vs,0,m,nd,h1,h2,hk=>by
    simp at h1 h2;subst h1;subst h2
    show bindC kindOf ((p,w) :: P.zip vs) m p=_
    unfold bindC
    rw [bindC_out fun v hv=>(List.nodup_cons.mp nd).1 (List.of_mem_zip hv).1,if_neg hk]
    simp
  | p :: P,w :: vs,i + 1,m,nd,h1,h2,hk=>by
    show bindC kindOf ((p,w) :: P.zip vs) m x=_
    unfold bindC
    exact bindC_get (i:=i) (List.nodup_cons.mp nd).2 (by simpa using h1) (by simpa using h2) hk
noncomputable def start (N:List Str) (vs:List V):St:=vs.map some++List.replicate (N.length - vs.length) none
noncomputable def cxOf (CX:CXT) (P:Program) (w:World) (K:PySem.W.Frag) (mg:Str→Option Value) (base:Heap) (N:List Str) (qual:Str) (scope:Scope) (f:Addr) (cd:Value) (A:Around) (outer:List Env) (s:Shared) (H:Hp) (E:XK):Cx where
  prog:=P
  w:=w
  K:=K
  mg:=mg
  base:=base
  A:=A.deeper (envOfC qual scope s.heap.objs.size f cd)
  N:=N
  s₀:=s
  H₀:=H
  env:=envOfC qual scope s.heap.objs.size f cd
  outer:=outer
  stack:=envOfC qual scope s.heap.objs.size f cd :: outer
  ex:=[]
  calm:=true
  fn:=fun _=>true
  pn:=[]
  xe:=fun e s'=>wpAny (model P w) (A.deeper (envOfC qual scope s.heap.objs.size f cd)) (leaving (envOfC qual scope s.heap.objs.size f cd) e) (fun _ s''=>CX outer H s E e s'') (fun e' s''=>CX outer H s E e' s'') s'
theorem cell_has {sc:Scope} {n:Nat} {x:Str} (h:sc.names.lookup x=some .cell):∃ c,(cellsFrom n sc.names []).lookup x=some c:=by
  have q:=PySem.W.cellsFrom_some sc.names n [] (.inl h)
  exact Option.isSome_iff_exists.mp q
theorem inv_start {CX:CXT} {P:Program} {w:World} {K:PySem.W.Frag} {mg:Str→Option Value} {base:Heap} {N ps:List Str} {qual:Str} {scope:Scope} {f:Addr} {cd:Value} {A:Around} {outer:List Env} {s s1:Shared} {H:Hp} {E:XK} {us:List Value} {vs:List V}
    (S:FnScope N ps scope) (hd:A.handled=none) (e0:Env0 P w K mg base A outer s H) (hl:vs.length=ps.length) (r:Vals vs us)
    (x:InCallC s s.heap.objs.size (bindL (envOfC qual scope s.heap.objs.size f cd).kindOf (ps.zip us) fun _=>none) (cellsFrom (s.heap.objs.size + 1) scope.names []) (bindC (envOfC qual scope s.heap.objs.size f cd).kindOf (ps.zip us) fun _=>none) s1) :
    Inv (cxOf CX P w K mg base N qual scope f cd A outer s H E) [] (start N vs) H s1:=by
  have hpl:ps.length≤N.length:=by have:=congrArg List.length S.pre;rw [List.length_take] at this;omega
  obtain ⟨h1,tk,rfl,hk⟩:=x.done
  have noA:∀ b:Addr,b ∉ (cxOf CX P w K mg base N qual scope f cd A outer s H E).ex:=fun b z=>absurd (show b∈([]:List Addr) from z) (by simp)
  refine ⟨⟨e0.mod,S.kind,rfl,rfl,Nat.le_refl _,fun y z c h1 h2=>?_,fun y hy=>?_,fun y c _ h=>?_,fun _=>hd,Around.frames_deeper e0.frames,.inr ⟨rfl,rfl⟩,fun b z=>absurd z (noA b),e0.bs,e0.bsz,fun b _ _=>noA b,fun b z=>absurd z (noA b),e0.funs,e0.frf⟩,
    rfl,e0.bare,Un.kept hk,⟨_,x.toInCall.ns,fun i y v h1 h2 h3=>?_⟩,fun y c h=>⟨_,x.cell y c h⟩,e0.hok.fresh (Nat.le_refl _),fun y c h=>?_,fun p hp=>absurd (show p∈([]:List (Addr×Obj)) from hp) (by simp),e0.hok.kept hk,?_⟩
  · exact name_of_addr x.apart (PySem.mem_of_lookup h1) (PySem.mem_of_lookup h2)
  · have hy:scope.names.lookup y=some .cell∨scope.names.lookup y=some .free:=hy
    rcases hy with hy | hy
    · exact cell_has hy
    · exact absurd rfl (S.nofree _ (PySem.mem_of_lookup hy))
  · exact Nat.le_of_lt (x.above y c (PySem.mem_of_lookup h))
  · have hi:i < vs.length:=by
      unfold start at h2
      by_cases hi:i < vs.length
      · exact hi
      · rw [List.getElem?_append_right (by simpa using hi)] at h2
        rw [List.getElem?_replicate] at h2
        split at h2 <;> cases h2
    have ha:vs[i]? = some v:=by
      unfold start at h2
      rw [List.getElem?_append_left (by simpa using hi),List.getElem?_map] at h2
      cases e:vs[i]? with
      | none=>rw [e] at h2;cases h2
      | some a=>rw [e] at h2;cases h2;rfl
    obtain ⟨u,hu,rv⟩:=r.get ha
    have hp:ps[i]? = some y:=by
      rw [← S.pre,List.getElem?_take_of_lt (by omega)];exact h1
    have ndP:ps.Nodup:=by rw [← S.pre];exact S.nd.sublist (List.take_sublist _ _)
    refine ⟨u,rv,?_⟩
    rcases S.par y (List.mem_of_getElem? hp) with k | k
    · exact .inl ⟨k,bindL_get ndP hp hu k⟩
    · obtain ⟨c,e⟩:=cell_has (n:=s.heap.objs.size + 1) k
      refine .inr ⟨.inl k,c,e,?_⟩
      have q:=x.cell y c e
      rw [bindC_get ndP hp hu (by show scope.names.lookup y≠_;rw [k];decide)] at q
      exact q
  · exact e0.hok.fresh (Nat.le_of_lt (x.above y c (PySem.mem_of_lookup h)))
  · unfold start
    show _=N.length
    rw [List.length_append,List.length_map,List.length_replicate]
    omega
theorem fn_of {CX:CXT} {P:Program} {w:World} {K:PySem.W.Frag} {mg:Str→Option Value} {base:Heap} {k:Nat} {f:Addr} {name qual:Str} {params:Arguments} {body:List Stmt} {scope:Scope} {dV kV doc pm cdv ct oc:Value} {an od:Option Addr}
    {osl:Array (Option Value)} {N ps:List Str} {sp:Sp} (lk:K.lookup f=some ⟨oc,od,.func (PySem.W.fnOf name qual params body scope dV kV doc pm an cdv ct),osl⟩) (hcd:PySem.W.codeIn K cdv qual=true) (S:FnScope N ps scope)
    (len:∀ vs H Q E,sp vs H Q E→vs.length=ps.length)
    (hbody:∀ (A:Around) (outer:List Env) (s:Shared) (H:Hp) (vs:List V) (Q:VK) (E:XK),Room k (A.deeper (envOfC qual scope s.heap.objs.size f cdv))→sp vs H Q E →
      ∃ t,PSs (cxOf CX P w K mg base N qual scope f cdv A outer s H E) body t∧t { nx:=fun _ H'=>Q .non H',rt:=Q } (start N vs) H) :
    FnOk P w K mg base CX (k + 1) f (PySem.W.fnOf name qual params body scope dV kV doc pm an cdv ct) ps sp:=by
  refine ⟨len,fun A outer s H args us vs Q E hr e0 hb r hsp=>?_⟩
  have hl:=len _ _ _ _ hsp
  have KX:K.In s.heap:=e0.mod.kin.keeps fun b o e=>(e0.bs b o e).1
  have lim:s.heap.NoLimit:=e0.mod.nolimit.keeps fun b o e=>(e0.bs b o e).1
  have hkind:∀ y∈ps.zip us,scope.names.lookup y.1=some .local∨(scope.names.lookup y.1=some .cell∧((cellsFrom (s.heap.objs.size + 1) scope.names []).lookup y.1).isSome=true):=fun ⟨n,v⟩ hy=>by
    rcases S.par n (List.of_mem_zip hy).1 with q | q
    · exact .inl q
    · exact .inr ⟨q,PySem.W.cellsFrom_some _ _ _ (.inl q)⟩
  refine codeAny_call_function hr.depth (KX _ _ lk) rfl S.co S.gen rfl (PySem.W.codeRec_of KX hcd) (hb _ _ _ _ ?_)
  refine wpAny_newFunctionEnv_cells S.kind hkind fun env he s1 x=>?_
  subst he
  refine ⟨lim.keeps x.toInCall.keep,codeAny_func ?_⟩
  obtain ⟨t,ht,hq⟩:=hbody A outer s H vs Q E (hr.deeper _) hsp
  have I:Inv (cxOf CX P w K mg base N qual scope f cdv A outer s H E) [] (start N vs) H s1:=inv_start S hr.hd e0 hl r x
  refine wpAny_mono (ht [] s1 (start N vs) H _ I hq) (fun fl s' hs=>?_) fun e s' hs=>hs
  have fin:∀ {σ':St} {H':Hp} {v:V} {u:Value},Inv (cxOf CX P w K mg base N qual scope f cdv A outer s H E) [] σ' H' s'→RelV v u→Q v H'→CE outer P w H s Q u s' :=
    fun {σ' H' v u} J rv q=>⟨v,H',J.os,J.bare,J.base,J.hok,rv,q⟩
  cases fl with
  | ret u =>
    obtain ⟨v,σ',H',J,rv,q⟩:=hs
    exact fin J rv q
  | next =>
    obtain ⟨σ',H',J,q⟩:=hs
    exact fin (v:=V.non) (u:=Value.none) J rfl q
  | brk =>
    obtain ⟨_,_,_,q⟩:=hs
    exact False.elim q
  | cont =>
    obtain ⟨_,_,_,q⟩:=hs
    exact False.elim q
end L2
namespace L2
open PySem PySem.Spec PyProof.Rows
section
variable {X:Cx} {x:Str} {p pos:Pos} {e:Expr} {es:List Expr} {t:TA} {id T:String} {r:List V→Hp→VK→Prop}
noncomputable def tCB (r:List V→Hp→VK→Prop) (t:TA):TE:=fun σ H Q=>t σ H fun vs H1=>r vs H1 Q
theorem pe_callB (hc:CallR X (.builtin id) r) (hg:Gl X x) (hm:X.mg x=none) (hv:bootBuiltins x=some (.builtin id)) (ha:PA X (e :: es) t) (hn:x≠"__name__":=by decide) (hdb:(x == ("__debug__":Str))=false:=by decide)
    (he:starEach (e :: es) X.env=(false,eval e X.env) :: starEach es X.env:=by rfl) (hpl:(backTo pos (starEach es X.env)).any (·.1)=false:=by rfl):PE X (.Call (.Name x p) (e :: es) [] pos) (tCB r t):=by
  intro pins s σ H Q I h
  refine wpAny_Call_Name_kw (ld_blt I hg hm hv ?_ hn hdb)
  exact PyProof.Rows.callWith_builtin1 (thn (ha pos pins s σ H _ I h) fun us s1 ⟨vs,H1,I1,r1,q1⟩=>hc pins s1 σ H1 vs us Q I1 r1 q1) he hpl
theorem pe_callTy (hc:CallR X (.type T) r) (hg:Gl X x) (hm:X.mg x=none) (hv:bootBuiltins x=some (.type T)) (ha:PA X (e :: es) t) (hn:x≠"__name__":=by decide) (hdb:(x == ("__debug__":Str))=false:=by decide)
    (he:starEach (e :: es) X.env=(false,eval e X.env) :: starEach es X.env:=by rfl) (hpl:(backTo pos (starEach es X.env)).any (·.1)=false:=by rfl):PE X (.Call (.Name x p) (e :: es) [] pos) (tCB r t):=by
  intro pins s σ H Q I h
  refine wpAny_Call_Name_kw (ld_blt I hg hm hv ?_ hn hdb)
  exact PyProof.Rows.callWith_type1 (thn (ha pos pins s σ H _ I h) fun us s1 ⟨vs,H1,I1,r1,q1⟩=>hc pins s1 σ H1 vs us Q I1 r1 q1) he hpl
end
end L2
namespace HT
open PySem PyProof.Rows
section
open PySem.SeqAt
open PySem.AutoSeq1 (wpAny_loadPart')
open PySem.MeetsSeq PySem.MeetsSeq2 PySem.MeetsSeq3
end
section
variable {prog:Program} {w:World} {A:Around} {E:Value→Shared→Prop} {s:Shared}
end
end HT
namespace L2
open PySem PySem.Spec PyProof.Rows
noncomputable abbrev TO:=St→Hp→(Option Int→Hp→Prop)→Prop
noncomputable def PO (X:Cx) (e:Option Expr) (t:TO):Prop :=
  ∀ (pins:List (Addr×Obj)) (s:Shared) (σ:St) (H:Hp) (Q:Option Int→Hp→Prop),Inv X pins σ H s→t σ H Q →
    wpAny (model X.prog X.w) X.A (evalPart e X.env) (fun u s'=>∃ o H',Inv X pins σ H' s'∧IsPart u o∧Q o H') X.xe s
noncomputable def tNoPart:TO:=fun _ H Q=>Q none H
noncomputable def tPart (t:TE):TO:=fun σ H Q=>t σ H fun x H1=>∃ i,x = .int i∧Q (some i) H1
section
variable {X:Cx} {e:Expr} {te:TE} {lo hi:Option Expr} {tl th:TO} {pos p2:Pos}
theorem po_none:PO X none tNoPart:=by
  intro pins s σ H Q I h
  rw [evalPart_none]
  exact wpAny_pure ⟨none,H,I,.none,h⟩
theorem po_some (h:PE X e te):PO X (some e) (tPart te):=by
  intro pins s σ H Q I hw
  rw [evalPart_some]
  refine thn (h pins s σ H _ I hw) fun u s1 hpq=>?_
  obtain ⟨x,H1,I1,r1,q1⟩:=hpq
  obtain ⟨i,rfl,q⟩:=q1
  obtain ⟨t,rfl⟩:=r1
  exact ⟨some i,H1,I1,.int i t,q⟩
noncomputable def SlR (X:Cx) (r:V→Option Int→Option Int→Hp→VK→Prop):Prop :=
  ∀ (pins:List (Addr×Obj)) (s:Shared) (σ:St) (H:Hp) (x:V) (v vl vu:Value) (lo hi:Option Int) (sl:Addr) (Q:VK),Inv X pins σ H s→RelV x v→s.heap.IsSliceOf sl vl vu .none→IsPart vl lo→IsPart vu hi→r x lo hi H Q →
    ∃ T id,typeLookup (.type T) "__getitem__" = pure (some (.builtin id))∧s.TypeIs v T∧wpAny (model X.prog X.w) X.A (getItem v (.ref sl)) (EP X pins σ Q) X.xe s
noncomputable def tSl (r:V→Option Int→Option Int→Hp→VK→Prop) (te:TE) (tl th:TO):TE:=fun σ H Q=>te σ H fun x H1=>tl σ H1 fun l H2=>th σ H2 fun u H3=>r x l u H3 Q
theorem pe_slice {r:V→Option Int→Option Int→Hp→VK→Prop} (hr:SlR X r) (he:PE X e te) (hl:PO X lo tl) (hu:PO X hi th):PE X (.Subscript e (.Slice lo hi none p2) pos) (tSl r te tl th):=by
  intro pins s σ H Q I h
  refine Subscript_ (thn (he pins s σ H _ I h) fun v s1 hpq=>?_)
  obtain ⟨x,H1,I1,r1,q1⟩:=hpq
  refine wpAny_Slice (thn (hl pins s1 σ H1 _ I1 q1) fun vl s2 ⟨l,H2,I2,pl,q2⟩=>thn (hu pins s2 σ H2 _ I2 q2) fun vu s3 hpq=>?_)
  obtain ⟨u,H3,I3,pu,q3⟩:=hpq
  rw [evalPart_none]
  refine wpAny_pure ?_
  have I4:Inv X pins σ H3 { s3 with heap:=s3.heap.push { cls:=.type "slice",data:=.fields #[vl,vu,.none] } }:=I3.kept (t':=s3.toks) fun b ob q=>Heap.get?_push_of_some _ q
  obtain ⟨T,id,hT,ht,hg⟩:=hr pins { s3 with heap:=s3.heap.push { cls:=.type "slice",data:=.fields #[vl,vu,.none] } } σ H3 x v vl vu l u s3.heap.objs.size Q I4 r1 (Heap.IsSliceOf.new ..) pl pu q3
  show wpAny (model X.prog X.w) X.A (subscriptTail e (.Slice lo hi none p2) v (.ref s3.heap.objs.size)) (EP X pins σ Q) X.xe { s3 with heap:=s3.heap.push { cls:=.type "slice",data:=.fields #[vl,vu,.none] } }
  exact tail_any (ops:=[.ref s3.heap.objs.size,v]) ht hT hg (by with_unfolding_all rfl)
end
end L2
namespace L2
open PySem PySem.Spec PyProof.Rows
noncomputable def ixN (n:Nat) (i:Int):Option Nat:=if 0≤i then (if i < n then some i.toNat else none) else if -(n:Int)≤i then some (i + n).toNat else none
noncomputable def atI {α:Type} (xs:List α) (i:Int):Option α:=(ixN xs.length i).bind fun j=>xs[j]?
theorem ixN_seq {n:Nat} {i:Int} {j:Nat} (h:ixN n i=some j):seqIndex? i n=some j∧j < n∧-(n:Int)≤i∧i < n:=by
  unfold ixN at h
  by_cases h0:0≤i
  · rw [if_pos h0] at h
    by_cases h1:i < n
    · rw [if_pos h1] at h
      have e:i.toNat=j:=Option.some.inj h
      exact ⟨by rw [seqIndex_of h0 h1,e],by omega,by omega,h1⟩
    · rw [if_neg h1] at h;cases h
  · rw [if_neg h0] at h
    by_cases h1:-(n:Int)≤i
    · rw [if_pos h1] at h
      have e:(i + n).toNat=j:=Option.some.inj h
      exact ⟨by rw [seqIndex_neg (by omega) h1,e],by omega,h1,by omega⟩
    · rw [if_neg h1] at h;cases h
theorem atI_get {α:Type} {xs:List α} {i:Int} {v:α} (h:atI xs i=some v):∃ j,seqIndex? i xs.length=some j∧xs[j]? = some v∧j < xs.length∧-(xs.length:Int)≤i∧i < xs.length:=by
  unfold atI at h
  cases e:ixN xs.length i with
  | none=>rw [e] at h;cases h
  | some j =>
    rw [e] at h
    obtain ⟨h1,h2,h3,h4⟩:=ixN_seq e
    exact ⟨j,h1,h,h2,h3,h4⟩
theorem atI_nat {α:Type} {xs:List α} {j:Nat} {v:α} (h:xs[j]? = some v):atI xs (j:Int)=some v:=by
  have hj:j < xs.length:=(List.getElem?_eq_some_iff.mp h).1
  have e:ixN xs.length (j:Int)=some j:=by
    unfold ixN
    rw [if_pos (by omega),if_pos (by omega)];simp
  unfold atI;rw [e];exact h
noncomputable def PlainIx (b:Expr):Prop:=∀ o i,subscripted b false o i=operate [o,i] (getItem o i)
noncomputable def IxR (X:Cx) (r:R2):Prop :=
  ∀ (value slice:Expr) (pins:List (Addr×Obj)) (s:Shared) (σ:St) (H:Hp) (x y:V) (v u:Value) (Q:VK),Inv X pins σ H s→RelV x v→RelV y u→r x y H Q →
    subscripted slice false v u=operate [v,u] (getItem v u)→wpAny (model X.prog X.w) X.A (subscriptTail value slice v u) (EP X pins σ Q) X.xe s
noncomputable def MtR (X:Cx) (id:String) (r:V→List V→Hp→VK→Prop):Prop :=
  ∀ (pins:List (Addr×Obj)) (s:Shared) (σ:St) (H:Hp) (x:V) (xs:List V) (v:Value) (us:List Value) (Q:VK),Inv X pins σ H s→RelV x v→Vals xs us→r x xs H Q →
    wpAny (model X.prog X.w) X.A (call (.builtin id) (v :: us)) (EP X pins σ Q) X.xe s
section
variable {X:Cx} {a b:Expr} {ta tb:TE} {pos:Pos}
theorem pe_ix {r:R2} (hr:IxR X r) (ha:PE X a ta) (hb:PE X b tb) (hs:PlainIx b):PE X (.Subscript a b pos) (tOp r ta tb):=by
  intro pins s σ H Q I h
  exact Subscript_ (binT ha hb I h fun v u s2 x y H2 I2 rx ry q=>hr a b pins s2 σ H2 x y v u Q I2 rx ry q (hs _ _))
noncomputable def rIxL (K:PySem.W.Frag):R2:=fun x y H Q=>∃ p xs i v,x = .ref p∧y = .int i∧SqL K H p xs∧atI xs i=some v∧Q v H
noncomputable def rIxT (K:PySem.W.Frag):R2:=fun x y H Q=>∃ p xs i v,x = .ref p∧y = .int i∧SqT K H p xs∧atI xs i=some v∧Q v H
theorem ix_list:IxR X (rIxL X.K):=by
  intro value slice pins s σ H x y v u Q I rx ry h hs
  obtain ⟨p,xs,i,z,rfl,rfl,hq,he,q⟩:=h
  cases rx
  obtain ⟨t,rfl⟩:=ry
  obtain ⟨its,r,pl,hz⟩:=I.list hq
  obtain ⟨j,h1,h2,h3,h4,h5⟩:=atI_get he
  obtain ⟨w,ew,rw'⟩:=r.get h2
  have hl:=r.length
  have hn:=line63
  have fin:EP X pins σ Q w s:=⟨z,H,I,rw',q⟩
  by_cases h0:0≤i
  · have hj:i.toNat=j:=by
      rw [seqIndex_of h0 h5] at h1
      exact Option.some.inj h1
    exact item_listR pl.isList h0 (by omega) (by rw [hj];simpa using ew) fin hs
  · have hj:(i + (its.toArray.size:Int)).toNat=j:=by
      rw [seqIndex_neg (by omega) h4] at h1
      rw [List.size_toArray,← hl]
      exact Option.some.inj h1
    exact subscriptTail_builtinR (x:=w) pl.isList.typeIs slot_list_getitem.lookup
      (wpAny_getItem_list_neg (Q:=fun r s'=>r=w∧EP X pins σ Q r s') pl.isList (by omega) (by rw [List.size_toArray] <;> omega) (by omega) (by rw [hj];simpa using ew) ⟨rfl,fin⟩) hs
theorem ix_tup:IxR X (rIxT X.K):=by
  intro value slice pins s σ H x y v u Q I rx ry h hs
  obtain ⟨p,xs,i,z,rfl,rfl,hq,he,q⟩:=h
  cases rx
  obtain ⟨t,rfl⟩:=ry
  obtain ⟨its,r,pl,hz⟩:=I.tuple hq
  obtain ⟨j,h1,h2,h3,h4,h5⟩:=atI_get he
  obtain ⟨w,ew,rw'⟩:=r.get h2
  have hl:=r.length
  have hn:=line63
  have fin:EP X pins σ Q w s:=⟨z,H,I,rw',q⟩
  exact subscriptTail_builtinR (x:=w) pl.typeIs slot_tuple_getitem.lookup
    (getItem_tuple (j:=j) (Q:=fun r s'=>r=w∧EP X pins σ Q r s') pl (by omega) (by omega) (by rw [List.size_toArray,← hl];exact h1) (by simpa using ew) ⟨rfl,fin⟩) hs
noncomputable def flatV:V→Bool
  | .non=>true
  | .bl _=>true
  | .int _=>true
  | .str _=>true
  | _=>false
noncomputable def eqV:V→V→Bool
  | .non,.non=>true
  | .bl a,.bl b=>a == b
  | .bl a,.int b=>(if a then 1 else 0) == b
  | .int a,.bl b=>a == (if b then 1 else 0)
  | .int a,.int b=>a == b
  | .str a,.str b=>a == b
  | _,_=>false
theorem eqAt_V {A:Around} {s:Shared} {y x:V} {u v:Value} (ry:RelV y u) (rx:RelV x v) (fy:flatV y=true) (fx:flatV x=true):SeqAt.EqAt A s u v (eqV y x):=by
  cases y with
  | non =>
    cases ry
    cases x with
    | non=>cases rx;exact SeqAt.EqAt.same _
    | bl b=>cases rx;exact SeqAt.EqAt.none_bool b
    | int b=>obtain ⟨t,rfl⟩:=rx;exact SeqAt.EqAt.none_int b t
    | str b=>obtain ⟨t,rfl⟩:=rx;exact SeqAt.EqAt.none_str b t
    | _=>exact absurd (show false=true from fx) Bool.false_ne_true
  | bl a =>
    cases ry
    cases x with
    | non=>cases rx;exact SeqAt.EqAt.bool_none a
    | bl b=>cases rx;exact SeqAt.EqAt.bool_bool a b
    | int b=>obtain ⟨t,rfl⟩:=rx;exact SeqAt.EqAt.bool_int a b t
    | str b=>obtain ⟨t,rfl⟩:=rx;exact SeqAt.EqAt.bool_str a b t
    | _=>exact absurd (show false=true from fx) Bool.false_ne_true
  | int a =>
    obtain ⟨t',rfl⟩:=ry
    cases x with
    | non=>cases rx;exact SeqAt.EqAt.int_none a t'
    | bl b=>cases rx;exact SeqAt.EqAt.int_bool a t' b
    | int b=>obtain ⟨t,rfl⟩:=rx;exact SeqAt.EqAt.int_int a t' b t
    | str b=>obtain ⟨t,rfl⟩:=rx;exact SeqAt.EqAt.int_str a t' b t
    | _=>exact absurd (show false=true from fx) Bool.false_ne_true
  | str a =>
    obtain ⟨t',rfl⟩:=ry
    cases x with
    | non=>cases rx;exact SeqAt.EqAt.str_none a t'
    | bl b=>cases rx;exact SeqAt.EqAt.str_bool a t' b
    | int b=>obtain ⟨t,rfl⟩:=rx;exact SeqAt.EqAt.str_int a t' b t
    | str b=>obtain ⟨t,rfl⟩:=rx;exact SeqAt.EqAt.str_str a t' b t
    | _=>exact absurd (show false=true from fx) Bool.false_ne_true
  | _=>exact absurd (show false=true from fy) Bool.false_ne_true
noncomputable def eqU (x:V) (u:Value):Bool:=match u with
  | .none=>eqV .non x
  | .bool b=>eqV (.bl b) x
  | .int i _=>eqV (.int i) x
  | .str z _=>eqV (.str z) x
  | _=>false
theorem eqU_of {x y:V} {u:Value} (r:RelV y u) (f:flatV y=true):eqU x u=eqV y x:=by
  cases y with
  | non=>cases r;rfl
  | bl b=>cases r;rfl
  | int i=>obtain ⟨t,rfl⟩:=r;rfl
  | str z=>obtain ⟨t,rfl⟩:=r;rfl
  | _=>exact absurd (show false=true from f) Bool.false_ne_true
theorem any_eqU {x:V}:∀ {xs:List V} {us:List Value},Vals xs us→xs.all flatV=true→us.any (eqU x)=xs.any fun y=>eqV y x
  | _,_,.nil,_=>rfl
  | y :: xs,u :: us,.cons r t,f=>by
    rw [List.all_cons,Bool.and_eq_true] at f
    rw [List.any_cons,List.any_cons,eqU_of r f.1,any_eqU t f.2]
theorem mem_eqAt {A:Around} {s:Shared} {x:V} {v:Value} (rx:RelV x v) (fx:flatV x=true):∀ {xs:List V} {us:List Value},Vals xs us→xs.all flatV=true→∀ u∈us,SeqAt.EqAt A s u v (eqU x u)
  | _,_,.nil,_=>fun u hu=>by cases hu
  | y :: xs,u :: us,.cons r t,f=>fun u' hu=>by
    rw [List.all_cons,Bool.and_eq_true] at f
    rcases List.mem_cons.mp hu with rfl | hu
    · rw [eqU_of r f.1];exact eqAt_V r rx f.1 fx
    · exact mem_eqAt rx fx t f.2 u' hu
noncomputable def inV (x:V) (xs:List V):Bool:=xs.any fun y=>eqV y x
noncomputable def rIn (K:PySem.W.Frag) (neg:Bool):R2:=fun x y H Q=>∃ p xs,y = .ref p∧(SqL K H p xs∨SqT K H p xs)∧flatV x=true∧xs.all flatV=true∧Q (.bl (if neg then !inV x xs else inV x xs)) H
theorem op_in_seq:OpR X (compareOp .In) (rIn X.K false):=by
  intro pins s σ H x y v u Q I rx ry h
  obtain ⟨p,xs,rfl,hq,fx,fs,q⟩:=h
  cases ry
  rcases hq with hq | hq
  · obtain ⟨its,r,pl,hz⟩:=I.list hq
    refine SeqAt.in_listAt (eqU x) pl.isList (fun w hw=>mem_eqAt rx fx r fs w (by simpa using hw)) ⟨.bl _,H,I,rfl,?_⟩
    rw [show its.toArray.any (eqU x)=its.any (eqU x) by simp,any_eqU r fs]
    exact q
  · obtain ⟨its,r,pl,hz⟩:=I.tuple hq
    refine SeqAt.in_tupleAt (eqU x) pl (fun w hw=>mem_eqAt rx fx r fs w (by simpa using hw)) ⟨.bl _,H,I,rfl,?_⟩
    rw [show its.toArray.any (eqU x)=its.any (eqU x) by simp,any_eqU r fs]
    exact q
theorem op_notIn_seq:OpR X (compareOp .NotIn) (rIn X.K true):=by
  intro pins s σ H x y v u Q I rx ry h
  obtain ⟨p,xs,rfl,hq,fx,fs,q⟩:=h
  cases ry
  rcases hq with hq | hq
  · obtain ⟨its,r,pl,hz⟩:=I.list hq
    refine SeqAt.notIn_listAt (eqU x) pl.isList (fun w hw=>mem_eqAt rx fx r fs w (by simpa using hw)) ⟨.bl _,H,I,rfl,?_⟩
    rw [show its.toArray.any (eqU x)=its.any (eqU x) by simp,any_eqU r fs]
    exact q
  · obtain ⟨its,r,pl,hz⟩:=I.tuple hq
    refine SeqAt.notIn_tupleAt (eqU x) pl (fun w hw=>mem_eqAt rx fx r fs w (by simpa using hw)) ⟨.bl _,H,I,rfl,?_⟩
    rw [show its.toArray.any (eqU x)=its.any (eqU x) by simp,any_eqU r fs]
    exact q
theorem call_len_seq:CallR X (.builtin "len") (fun xs H Q=>∃ p ys,xs=[.ref p]∧(SqL X.K H p ys∨SqT X.K H p ys)∧Q (.int ys.length) H):=by
  intro pins s σ H xs us Q I r h
  obtain ⟨p,ys,rfl,hq,q⟩:=h
  obtain ⟨u,rfl,rx⟩:=vals1 r
  cases rx
  have hn:=line63
  rcases hq with hq | hq
  · obtain ⟨its,r',pl,hz⟩:=I.list hq
    have hlen:=r'.length
    exact Calls.call_len_list pl.isList (by simp only [List.size_toArray] <;> omega) ⟨.int ys.length,H,I.tok _,⟨s.toks + 1,by rw [List.size_toArray,hlen]⟩,q⟩
  · obtain ⟨its,r',pl,hz⟩:=I.tuple hq
    have hlen:=r'.length
    exact len_tuple pl (by simp only [List.size_toArray] <;> omega) ⟨.int ys.length,H,I.tok _,⟨s.toks + 1,by rw [List.size_toArray,hlen]⟩,q⟩
theorem call_len_str:CallR X (.builtin "len") (fun xs H Q=>∃ z,xs=[.str z]∧z.length≤sizeLine∧Q (.int z.length) H):=by
  intro pins s σ H xs us Q I r h
  obtain ⟨z,rfl,hz,q⟩:=h
  obtain ⟨u,rfl,t,rfl⟩:=vals1 r
  have hn:=line63
  exact len_str (by omega) ⟨.int z.length,H,I.tok _,⟨_,rfl⟩,q⟩
noncomputable def tyV (K:PySem.W.Frag) (T:String) (x:V) (H:Hp):Prop:=match x with
  | .str _=>T = "str"
  | .int _=>T = "int"
  | .ref p=>(T = "list"∧∃ xs,SqL K H p xs)∨(T = "tuple"∧∃ o,K.lookup p=some o∧o.cls = .type "tuple"∧o.dict=none) ∨
      (T = "dict"∧((∃ kvs,H p=some (.dK kvs))∨∃ kvs,H p=some (.dT kvs)))∨(T = "set"∧∃ S n,H p=some (.set S n))
  | _=>False
theorem tyV_is {pins:List (Addr×Obj)} {σ:St} {H:Hp} {s:Shared} {T:String} {x:V} {v:Value} (I:Inv X pins σ H s) (r:RelV x v) (ty:tyV X.K T x H) :
    s.TypeIs v T∧∀ a,v = .ref a→∃ ob,s.heap.get? a=some ob∧ob.dict=none:=by
  cases x with
  | str z =>
    obtain ⟨t,rfl⟩:=r
    cases (show T = "str" from ty)
    exact ⟨typeIs_str s z t,fun _ e=>nomatch e⟩
  | int i =>
    obtain ⟨t,rfl⟩:=r
    cases (show T = "int" from ty)
    exact ⟨typeIs_int s i t,fun _ e=>nomatch e⟩
  | ref p =>
    cases r
    rcases ty with ⟨rfl,xs,hq⟩ | ⟨rfl,o,hk,hc,hd⟩ | ⟨rfl,hk⟩ | ⟨rfl,S,n,hk⟩
    · obtain ⟨its,_,pl,_⟩:=I.list hq
      refine ⟨pl.isList.typeIs,fun a e=>?_⟩
      cases e
      obtain ⟨o,n,e,c,hd,_⟩:=pl
      exact ⟨o,e,hd⟩
    · refine ⟨⟨o,I.kIn p o hk,hc⟩,fun a e=>?_⟩
      cases e
      exact ⟨o,I.kIn _ o hk,hd⟩
    · have z:∃ o,s.heap.get? p=some o∧o.ExactDict:=by
        rcases hk with ⟨kvs,hk⟩ | ⟨kvs,hk⟩
        · obtain ⟨_,_,_,_,o,_,_,e,ex,_⟩:=I.hok p _ hk
          exact ⟨o,e,ex⟩
        · obtain ⟨_,_,_,_,o,_,_,e,ex,_⟩:=I.hok p _ hk
          exact ⟨o,e,ex⟩
      obtain ⟨o,e,ex⟩:=z
      refine ⟨⟨o,e,ex.1⟩,fun a e2=>?_⟩
      cases e2
      exact ⟨o,e,ex.2.1⟩
    · obtain ⟨o,_,_,_,e,ex,_⟩:=I.hok p _ hk
      refine ⟨⟨o,e,ex.1⟩,fun a e2=>?_⟩
      cases e2
      exact ⟨o,e,ex.2.1⟩
  | _=>exact False.elim ty
noncomputable def tBM (K:PySem.W.Frag) (T:String) (r:V→List V→Hp→VK→Prop) (to:TE) (t:TA):TE:=fun σ H Q=>to σ H fun x H1=>tyV K T x H1∧t σ H1 fun xs H2=>r x xs H2 Q
variable {o e:Expr} {es:List Expr} {to:TE} {t:TA} {name:Str} {apos cpos:Pos} {T id:String} {r:V→List V→Hp→VK→Prop}
theorem pe_bm (pa:PlainAttrs T) (slot:Slot T name id) (hty:typeOf (.builtin id)=pure (.type "method_descriptor")) (hm:MtR X id r) (ho:PE X o to) (ha:PA X (e :: es) t)
    (hbase:attributeBase o name X.env (eval o X.env)=eval o X.env:=by rfl)
    (hfew:((backTo cpos (starEach (e :: es) X.env)).all (fun x=>!x.1) && (backToKw cpos (keywordEach [] X.env)).all (fun x=>x.1.isSome)
      && decide ((e :: es).length + ([]:List Keyword).length + (if ([]:List Keyword).isEmpty then 0 else 1) < 30))=true:=by rfl)
    (hline:(apos.endLine == cpos.line)=true:=by rfl) (hs:starEach (e :: es) X.env=(false,eval e X.env) :: starEach es X.env:=by rfl) (hplain:(backTo cpos (starEach es X.env)).any (·.1)=false:=by rfl) :
    PE X (.Call (.Attribute o name apos) (e :: es) [] cpos) (tBM X.K T r to t):=by
  intro pins s σ H Q I h
  refine wpAny_Call_method_late hbase hfew hline rfl (thn (ho pins s σ H _ I h) fun v s1 hpq=>?_)
  obtain ⟨x,H1,I1,r1,ty,q1⟩:=hpq
  obtain ⟨h1,h2⟩:=tyV_is I1 r1 ty
  refine ⟨T,id,pa,slot,hty,h1,h2,?_⟩
  have hA:=ha cpos pins s1 σ H1 _ I1 q1
  rw [hs] at hA ⊢
  refine Calls.callWith_builtin (by show (false || (backTo cpos (starEach es X.env)).any (·.1))=false;rw [hplain] <;> rfl) (Calls.evalArgs_plain ?_)
  exact thn hA fun us s2 ⟨vs,H2,I2,r2,q2⟩=>hm pins s2 σ H2 x vs v us Q I2 r1 r2 q2
end
end L2
namespace L2
open PySem PySem.Spec PyProof.Rows
noncomputable def MtM (X:Cx) (id:String) (r:V→List V→Hp→VK→Prop):Prop :=
  ∀ (pins:List (Addr×Obj)) (s:Shared) (σ:St) (H:Hp) (x:V) (xs:List V) (v:Value) (us:List Value) (Q:VK),Inv X pins σ H s→RelV x v→Vals xs us→r x xs H Q →
    wpAny (model X.prog X.w) X.A (call (.builtin id) (v :: us)) (EP X pins σ Q) X.xe s
theorem Vals.one:∀ {x:V} {us:List Value},Vals [x] us→∃ u,us=[u]∧RelV x u
  | _,_,.cons r .nil=>⟨_,rfl,r⟩
section
variable {X:Cx} {pins:List (Addr×Obj)} {σ:St} {H:Hp} {s:Shared} {l b:Addr} {xs ys zs:List V}
theorem Inv.lset {its its':List Value} {n:Nat} {f:Array Value→Array Value} {t':Nat} (I:Inv X pins σ H s) (hH:H l=some (.lst xs))
    (e:s.heap.get? l=some { cls:=.type "list",data:=.seq its.toArray n }) (hf:f its.toArray=its'.toArray) (hv:Vals ys its') (hz:ys.length≤sizeLine) :
    Inv X pins σ (upd H l (.lst ys)) { s with heap:=s.heap.update l (Obj.mapSeq f),toks:=t' }:=by
  have q:=PySem.IsL.update e f
  rw [hf] at q
  refine I.write (x:=l) (e:=l) (by rw [hH];exact trivial) (.inl rfl) (fun b' u hb hu=>(Heap.get?_update_other s.heap (Obj.mapSeq f) (Ne.symm hb)).trans hu) ⟨_,q⟩ ?_
  exact ⟨hz,its',_,hv,q⟩
theorem Inv.lnew {its:List Value} {t':Nat} (I:Inv X pins σ H s) (hv:Vals ys its) (hz:ys.length≤sizeLine) :
    Inv X pins σ (upd H s.heap.objs.size (.lst ys)) { s with heap:=s.heap.push { cls:=.type "list",data:=.seq its.toArray },toks:=t' } :=
  I.laid (fun _ _ q=>Heap.get?_push_of_some _ q) (Nat.le_refl _) ⟨hz,its,0,hv,Heap.get?_push_size _ rfl⟩
theorem Inv.fresh (I:Inv X pins σ H s):H s.heap.objs.size=none:=I.hok.fresh (Nat.le_refl _)
theorem Inv.lstM (I:Inv X pins σ H s) (hH:H l=some (.lst xs)):xs.length≤sizeLine∧∃ (its:List Value) (n:Nat),Vals xs its∧xs.length=its.length∧s.heap.get? l=some { cls:=.type "list",data:=.seq its.toArray n }:=by
  obtain ⟨z,its,n,r,e⟩:=I.hok l _ hH
  exact ⟨z,its,n,r,r.length,e⟩
end
section
variable {X:Cx}
noncomputable def rAppend:V→List V→Hp→VK→Prop:=fun x vs H Q=>∃ l xs y,x = .ref l∧vs=[y]∧H l=some (.lst xs)∧xs.length < sizeLine∧Q .non (upd H l (.lst (xs++[y])))
theorem mt_append:MtM X "list.append" rAppend:=by
  intro pins s σ H x vs v us Q I rx rv h
  obtain ⟨l,xs,y,rfl,rfl,hH,hz,q⟩:=h
  cases rx
  obtain ⟨u,rfl,ru⟩:=rv.one
  obtain ⟨z,its,n,r,hl,e⟩:=I.lstM hH
  refine call_meets F.slot_list_append ⟨_,e,rfl⟩ F.entry_list_append (F.args_list_append_2 _ _) (PySem.list_append l its.toArray n u (by rw [List.size_toArray];omega)) ⟨e,?_⟩
  refine ⟨.non,_,I.lset (its':=its++[u]) hH e (by simp) (r.append (.cons ru .nil)) ?_,rfl,q⟩
  rw [List.length_append,List.length_singleton]
  omega
noncomputable def rCat:R2:=fun x y H Q=>∃ l b xs zs,x = .ref l∧y = .ref b∧H l=some (.lst xs)∧H b=some (.lst zs)∧xs.length + zs.length≤sizeLine∧∀ p,H p=none→Q (.ref p) (upd H p (.lst (xs++zs)))
theorem op_cat:OpR X (binaryOp .Add) rCat:=by
  intro pins s σ H x y v u Q I rx ry h
  obtain ⟨l,b,xs,zs,rfl,rfl,hH,hB,hz,q⟩:=h
  cases rx
  cases ry
  obtain ⟨z,its,n,r,hl,e⟩:=I.lstM hH
  obtain ⟨z2,its2,n2,r2,hl2,e2⟩:=I.lstM hB
  refine PySem.P.add_list e e2 ?_ (by rw [List.size_toArray,List.size_toArray];omega)
  have ea:its.toArray++its2.toArray=(its++its2).toArray:=by simp
  rw [ea]
  exact ⟨.ref _,_,I.lnew (t':=s.toks) (r.append r2) (by rw [List.length_append];omega),rfl,q _ I.fresh⟩
end
section
variable {prog:Program} {w:World} {A:Around} {E:Value→Shared→Prop} {s:Shared}
set_option maxRecDepth 100000 in
end
section
variable {X:Cx}
end
end L2
namespace L2
open PySem PySem.Spec PyProof.Rows
section
variable {κ:Type} [DecidableEq κ]
noncomputable def valV (kvs:List (κ×V)) (k:κ):Option V:=(kvs.find? fun kv=>decide (kv.1=k)).map (·.2)
noncomputable def putK (kvs:List (κ×V)) (k:κ) (v:V):List (κ×V) :=
  if (kvs.any fun kv=>decide (kv.1=k))=true then kvs.map (fun kv=>if kv.1=k then (kv.1,v) else kv) else kvs++[(k,v)]
theorem KV.length {kvs:List (κ×V)} {vs:List (κ×Value)} (r:KV kvs vs):kvs.length=vs.length:=Paired.length r
end
section
variable {P:Program} {w:World} {H:Hp} {h:Heap} {a:Addr}
end
noncomputable def DGet (H:Hp) (a:Addr) (y:V) (r:Option V):Prop :=
  (∃ kvs k,Rd H a (.dK kvs)∧y=kV k∧r=valV kvs k)∨∃ kvs k b,Rd H a (.dT kvs)∧y = .ref b∧H b=some (.tup (k.map kV))∧r=valV kvs k
noncomputable def DPut (H:Hp) (a:Addr) (y v:V) (H':Hp):Prop :=
  (∃ kvs k,H a=some (.dK kvs)∧y=kV k∧kvs.length < sizeLine∧H'=upd H a (.dK (putK kvs k v))) ∨
  ∃ kvs k b,H a=some (.dT kvs)∧y = .ref b∧H b=some (.tup (k.map kV))∧kvs.length < sizeLine∧H'=upd H a (.dT (putK kvs k v))
theorem DGet.k {H:Hp} {a:Addr} {kvs:List (Key×V)} {k:Key} (e:H a=some (.dK kvs)):DGet H a (kV k) (valV kvs k):=.inl ⟨kvs,k,.inl e,rfl,rfl⟩
theorem DGet.t {H:Hp} {a b:Addr} {kvs:List (List Key×V)} {k:List Key} (e:H a=some (.dT kvs)) (eb:H b=some (.tup (k.map kV))):DGet H a (.ref b) (valV kvs k):=.inr ⟨kvs,k,b,.inl e,rfl,eb,rfl⟩
theorem DPut.k {H:Hp} {a:Addr} {kvs:List (Key×V)} {k:Key} {v:V} (e:H a=some (.dK kvs)) (hl:kvs.length < sizeLine):DPut H a (kV k) v (upd H a (.dK (putK kvs k v))):=.inl ⟨kvs,k,e,rfl,hl,rfl⟩
theorem DPut.t {H:Hp} {a b:Addr} {kvs:List (List Key×V)} {k:List Key} {v:V} (e:H a=some (.dT kvs)) (eb:H b=some (.tup (k.map kV))) (hl:kvs.length < sizeLine) :
    DPut H a (.ref b) v (upd H a (.dT (putK kvs k v))):=.inr ⟨kvs,k,b,e,rfl,eb,hl,rfl⟩
section
variable {X:Cx} {pins:List (Addr×Obj)} {σ:St} {H:Hp} {s:Shared} {a:Addr} {y v:V} {u r:Value} {o:Option V} {A:Around} {E:Value→Shared→Prop}
end
section
variable {X:Cx} {pins:List (Addr×Obj)} {σ:St} {H:Hp} {s:Shared} {a:Addr} {kvs:List (Key×V)} {k:Key} {u:Value} {A:Around} {E:Value→Shared→Prop}
end
section
variable {X:Cx} {o i e value:Expr} {pos pos' tpos:Pos} {td ty tv:TE}
end
section
variable {X:Cx} {pos:Pos}
end
section
variable {X:Cx} {pins:List (Addr×Obj)} {σ:St} {H:Hp} {s:Shared} {a:Addr} {y d:V} {u r:Value} {o:Option V} {A:Around} {E:Value→Shared→Prop}
end
section
variable {X:Cx} {o e f:Expr} {apos cpos:Pos} {td ty tx:TE}
end
section
variable {X:Cx} {pins:List (Addr×Obj)} {σ:St} {H:Hp} {s:Shared} {a:Addr} {kvs:List (Key×V)} {A:Around} {E:Value→Shared→Prop}
end
section
variable {X:Cx} {pins:List (Addr×Obj)} {σ:St} {H:Hp} {s:Shared} {a:Addr} {y:V} {u:Value} {A:Around} {E:Value→Shared→Prop}
end
end L2
namespace Att
open PySem PySem.W PySem.Calls PyProof.Rows
theorem ints_of_wellAll {P:Params} {h:Heap}:∀ (ns:List Int) (vs:List Value),WellAll P h vs (ns.map WData.int)→IntsAre vs ns:=by
  intro ns
  induction ns with
  | nil =>
    intro vs w
    rw [List.map_nil] at w
    cases w
    exact .nil
  | cons n ns ih =>
    intro vs w
    rw [List.map_cons] at w
    cases w with
    | cons a b =>
      cases a
      exact .cons _ _ (ih _ b)
theorem script_of {l:OpenLaw} {n:Nat} (hn:l.most=some n) {P:Params} {h:Heap} {args:List WData} {vals:List Value}
    (hpre:l.row.toRowW.claim.pre args=true) (hwl:WellAll P h vals args) :
    ∃ a vs ns,vals=[Value.ref a]∧args=[WData.list (ns.map WData.int)]∧h.get? a=some { cls:=.type "list",data:=.seq vs.toArray }∧IntsAre vs ns∧ns.length≤n:=by
  have hsh:WShape.hasAll [] args [.list .int]=true:=(pre_splitW hpre).1
  have hc:l.pre.holds [] { args:=args }=true:=(pre_splitW hpre).2
  obtain ⟨d,r,rfl,h1,h2⟩:=hasAllW_cons hsh
  obtain rfl:=hasAllW_nil h2
  obtain ⟨xs,rfl,h3⟩:=hasW_list h1
  obtain ⟨ns,rfl⟩:=items_int h3
  have hlen:ns.length≤n:=by
    unfold OpenLaw.pre at hc
    have h4:(WTm.not (.lt (.lit (.int (n:Int))) (.len (.arg 0)))).holds [] { args:=[.list (ns.map .int)] }=true:=by
      have h4:=(holds_andW hc).1
      rw [hn] at h4
      exact h4
    have h5:=condW_of h4 (w_not (w_lt w_lit (w_len_list (w_arg rfl))))
    rw [List.length_map] at h5
    refine Nat.le_of_not_lt fun q=>?_
    have q':(n:Int) < ((ns.length:Nat):Int):=by omega
    first
      | (rw [decide_eq_true q'] at h5;exact absurd h5 (by decide))
      | (simp at h5;omega)
  cases hwl with
  | cons w1 w2 =>
    cases w2
    cases w1 with
    | list ho hall=>exact ⟨_,_,ns,rfl,rfl,ho,ints_of_wellAll ns _ hall,hlen⟩
theorem post_true (l:OpenLaw) (args:List WData):l.row.toRowW.claim.post args (.bool true) args=true :=
  postW_of (r:=l.row.toRowW) (X:=(true == true))
    (show WShape.has [] (.bool true) .bool=true by first | rfl | decide | simp [WShape.has,WShape.arms,WShape.armsAll])
    (show (WTm.eq .res (.lit (.bool true))).value [] { args:=args,res:=some (.bool true),after:=args }=some (.bool (true == true)) from w_eq_bool (w_res rfl) w_lit) rfl
theorem attach_call {l:OpenLaw} {n:Nat} {q:Program} {loose:List Str} {XP:(Str→Option Value)→Heap→Prop} {YP:World→Heap→Prop} {d:DefRec}
    (hn:l.most=some n) (hdf:d.params.defaults=[])
    (call:∀ (w:World) (s₀ s₁:Shared) (mg mb:Str→Option Value) (fa:Addr) (o:Obj) (pm cd doc:Value) (a:Addr) (vs:List Value) (ns:List Int),
      Ground q loose [] XP w s₀ mg mb s₁.heap→YP w s₁.heap →
      s₁.heap.get? fa=some o→o.data = .func (docDef d.name d.params d.body d.scope pm cd doc)→s₁.heap.CodeRec cd d.name→mg d.name=some (.ref fa) →
      s₁.heap.get? a=some { cls:=.type "list",data:=.seq vs.toArray }→IntsAre vs ns→ns.length≤n→s₁.gens = #[] →
      codeAny (model l.prog w) callerA (.call (.ref fa) ⟨[.ref a],[]⟩) (fun r s'=>r = .ok (.ret (.bool true))∧OldK s₁.heap s'.heap∧s'.os=s₁.os∧AllBare s'.gens) s₁) :
    WalkO q loose XP YP l.row.toRowW d [] (fun f vs=>PySem.call f vs):=by
  intro w s₀ s₁ mg mb G Y fa o pm cd doc dV kV ho hd hcd hD hmg hg args vals as hpre hlay hrd hwl hlo
  obtain rfl:dV = .none:=Dflts.none hD hdf
  obtain rfl:kV = .none:=Dflts.noKw hD
  obtain ⟨a,vs,ns,rfl,rfl,hobj,hints,hlen⟩:=script_of hn hpre hwl
  refine enter_call (codeAny_mono (call w s₀ s₁ mg mb fa o pm cd doc a vs ns G Y ho (fd_plain hd) hcd hmg hobj hints hlen hg) fun r s' hq=>?_)
  obtain ⟨rfl,h2,h3,h4⟩:=hq
  exact ⟨.inl ⟨.bool true,.bool true,[],rfl,fun _=>rfl,.bool true,post_true l _,fun _=>⟨List.Pairwise.nil,fun _ hm=>(nomatch hm)⟩⟩,h2,h3,h4⟩
section
variable {prog:Program} {w:World} {A:Around} {E:Value→Shared→Prop} {s:Shared} {K:Frag}
end
end Att
namespace L2
open PySem PySem.Spec PyProof.Rows
theorem vals_ints:∀ {vs:List Value} {ns:List Int},IntsAre vs ns→Vals (ns.map V.int) vs
  | _,_,.nil=>.nil
  | _,_,.cons n t h=>.cons ⟨t,rfl⟩ (vals_ints h)
noncomputable def Only (H:Hp):Prop:=∀ b,H b=none∨∃ o xs,H b=some (.frz o (.lst xs))
theorem law_call {P:Program} {w:World} {K:PySem.W.Frag} {mg mb:Str→Option Value} {CX:CXT} {k:Nat} {fa a:Addr} {fd:FuncData} {x:Str} {sp:Sp} {s₁:Shared} {vs:List Value} {ns:List Int}
    (KX:K.In s₁.heap) (hns:s₁.heap.Ns mainGlobals mg) (hb:s₁.heap.Ns builtinsNs mb) (hbb:∀ x:Str,x≠"__name__"→mb x=bootBuiltins x) (hlim:s₁.heap.NoLimit) (hg:s₁.gens = #[])
    (ha:s₁.heap.get? a=some { cls:=.type "list",data:=.seq vs.toArray }) (hi:IntsAre vs ns) (hl:ns.length≤sizeLine) (hr:Room k callerA)
    (F:∀ base:Heap,K.In base→base.Ns mainGlobals mg→FnOk P w K mg base CX k fa fd [x] sp) (hbind:∀ (s:Shared) (u:Value),BindsTo s fd ⟨[u],[]⟩ [(x,u)])
    (hsp:∀ H:Hp,Only H→SqL K H a (ns.map V.int)→sp [.ref a] H (fun v _=>v = .bl true) fun _ _ _=>False)
    (hCX:∀ H e s',CX [] H s₁ (fun _ _ _=>False) e s'→False) :
    codeAny (model P w) callerA (.call (.ref fa) ⟨[.ref a],[]⟩) (fun r s'=>r = .ok (.ret (.bool true))∧OldK s₁.heap s'.heap∧s'.os=s₁.os∧AllBare s'.gens) s₁:=by
  have rv:=vals_ints hi
  have lenV:=hi.length
  have core:∀ H:Hp,Only H→SqL K H a (ns.map V.int)→HOk P w H s₁.heap→(∀ b,H b≠none→b=a)→(H a≠none→K.lookup a=none) →
      codeAny (model P w) callerA (.call (.ref fa) ⟨[.ref a],[]⟩) (fun r s'=>r = .ok (.ret (.bool true))∧OldK s₁.heap s'.heap∧s'.os=s₁.os∧AllBare s'.gens) s₁:=by
    intro H hO hS hok hA hK
    have base_of:∀ {b:Addr} {o:Obj},s₁.heap.get? b=some o→H b=none→(hidT s₁.heap H).get? b=some o:=fun e n=>hidT_get e n
    have noA:∀ {b:Addr} {o:Obj} {es:Array DictEntry} {ep:Nat},s₁.heap.get? b=some o→o.data = .dict es ep→H b=none:=fun {b o es ep} e d=>by
      cases q:H b with
      | none=>rfl
      | some u =>
        have e':b=a:=hA b (by rw [q];simp)
        subst e'
        rw [ha] at e;cases e
        have d':Data.seq vs.toArray _=Data.dict es ep:=d
        cases d'
    have nsK:∀ {b:Addr} {m:Str→Option Value},s₁.heap.Ns b m→(hidT s₁.heap H).Ns b m:=fun {b m} ⟨o,es,ep,e,d,r⟩=>⟨o,es,ep,base_of e (noA e d),d,r⟩
    have hKb:K.In (hidT s₁.heap H):=fun b o e=>base_of (KX b o e) (by
      cases q:H b with
      | none=>rfl
      | some u =>
        have e':b=a:=hA b (by rw [q];simp)
        subst e'
        rw [hK (by rw [q];simp)] at e;cases e)
    have hM:Mod K mg (hidT s₁.heap H):=⟨hKb,nsK hns,⟨mb,nsK hb,hbb⟩,let ⟨mc,h1,h2⟩:=hlim;⟨mc,nsK h1,h2⟩⟩
    have e0:Env0 P w K mg (hidT s₁.heap H) callerA [] s₁ H:=⟨rfl,hM,fun b o e=>of_hidT e,Nat.le_of_eq (hidT_size _ _),trivial,fun b hb=>absurd (show b∈([]:List Addr) from hb) (by simp),hok,.of_eq hg⟩
    refine codeAny_mono ((F _ hKb (nsK hns)).run callerA [] s₁ H ⟨[.ref a],[]⟩ [.ref a] [.ref a] _ _ hr e0 (hbind s₁ (.ref a)) (.cons rfl .nil) (hsp H hO hS)) fun r s' h=>?_
    cases r with
    | error e=>exact (hCX H e s' h).elim
    | ok fl =>
      cases fl with
      | next=>exact False.elim h
      | brk=>exact False.elim h
      | cont=>exact False.elim h
      | ret u =>
        obtain ⟨v,H',os,bare,un,hok',r',q⟩:=h
        have q':v = .bl true:=q
        subst q'
        obtain rfl:u=Value.bool true:=r'
        refine ⟨rfl,OldK.of_keep fun b o e=>?_,os,bare⟩
        cases q:H b with
        | none=>exact un.keep b o e q (by intro z;exact absurd (show b∈([]:List Addr) from z) (by simp)) (by simp)
        | some u =>
          rcases hO b with z | ⟨ob,xs,z⟩
          · rw [q] at z;cases z
          · have z2:=un.frzs b ob _ z
            obtain ⟨e1,_⟩:=hok b _ z
            obtain ⟨e2,_⟩:=hok' b _ z2
            rw [e] at e1;cases e1
            exact e2
  cases hk:K.lookup a with
  | some o =>
    have e:=KX a o hk
    rw [ha] at e
    cases e
    refine core (fun _=>none) (fun _=>.inl rfl) (.inr ⟨_,vs.toArray,_,hk,rfl,rfl,rfl,by rw [List.size_toArray,lenV];exact hl,by simpa using rv⟩) (fun b u z=>by have z':(none:Option HO)=some u:=z;cases z') (fun b z=>absurd rfl z) fun z=>absurd rfl z
  | none =>
    refine core (fun b=>if b=a then some (.frz { cls:=.type "list",data:=.seq vs.toArray } (.lst (ns.map V.int))) else none) (fun b=>?_) (.inl (.inr ⟨{ cls:=.type "list",data:=.seq vs.toArray },if_pos rfl⟩)) (fun b u z=>?_) (fun b z=>?_) fun _=>hk
    · by_cases hb:b=a
      · exact .inr ⟨_,_,if_pos hb⟩
      · exact .inl (if_neg hb)
    · by_cases hb:b=a
      · have z':=(if_pos hb).symm.trans z
        cases z'
        subst hb
        exact ⟨ha,by rw [List.length_map];exact hl,vs,_,rv,ha⟩
      · have z':=(if_neg hb).symm.trans z
        cases z'
    · by_cases hb:b=a
      · exact hb
      · exact absurd (if_neg hb) z
end L2
namespace L2
open PySem PySem.Spec PyProof.Rows
theorem walk_of {l:PySem.W.OpenLaw} {n k:Nat} {q:Program} {loose:List Str} {XP:(Str→Option Value)→Heap→Prop} {YP:World→Heap→Prop} {d:DefRec} {K:Params→PySem.W.Frag} {CX:World→CXT} {sp:World→Sp} {x:Str}
    (hn:l.most=some n) (hn2:n≤sizeLine) (hdf:d.params.defaults=[]) (hr:Room k callerA)
    (hY:∀ (w:World) (h:Heap),YP w h→(K w.params).In h)
    (F:∀ (w:World) (mg:Str→Option Value) (fa:Addr) (h:Heap),(K w.params).In h→h.Ns mainGlobals mg→mg d.name=some (.ref fa) →
      ∃ fd:FuncData,(∀ (s:Shared) (u:Value),BindsTo s fd ⟨[u],[]⟩ [(x,u)]) ∧
        ∀ base:Heap,(K w.params).In base→base.Ns mainGlobals mg→FnOk l.prog w (K w.params) mg base (CX w) k fa fd [x] (sp w))
    (hsp:∀ (w:World) (H:Hp) (a:Addr) (ns:List Int),ns.length≤n→Only H→SqL (K w.params) H a (ns.map V.int)→sp w [.ref a] H (fun v _=>v = .bl true) fun _ _ _=>False)
    (hCX:∀ (w:World) (H:Hp) (s:Shared) (e:Value) (s':Shared),CX w [] H s (fun _ _ _=>False) e s'→False) :
    PySem.W.WalkO q loose XP YP l.row.toRowW d [] (fun f vs=>PySem.call f vs):=by
  refine Att.attach_call hn hdf fun w s₀ s₁ mg mb fa o pm cd doc a vs ns G Y ho hd hcd hmg hobj hints hlen hg=>?_
  have KX:=hY w _ Y
  obtain ⟨fd,hb,hF⟩:=F w mg fa _ KX G.T.g hmg
  exact law_call KX G.T.g G.T.b G.T.builtins G.T.nolimit hg hobj hints (Nat.le_trans hlen hn2) hr hF hb (fun H hO hS=>hsp w H a ns hlen hO hS) fun H e s'=>hCX w H s₁ e s'
end L2
namespace L2
open PySem PySem.Spec PyProof.Rows
noncomputable def inClass (s:Stmt) (j:Nat):Stmt:=match s with
  | .ClassDef _ _ _ body _ _ _ _ _ _ _=>body.getD j (.Pass ⟨0,0,0,0⟩)
  | _=>.Pass ⟨0,0,0,0⟩
noncomputable def defArgs (s:Stmt):Arguments:=match s with
  | .FunctionDef _ a _ _ _ _ _ _ _ _=>a
  | _=>{ posonlyargs:=[],args:=[],vararg:=none,kwonlyargs:=[],kw_defaults:=[],kwarg:=none,defaults:=[] }
noncomputable def defBody (s:Stmt):List Stmt:=match s with
  | .FunctionDef _ _ b _ _ _ _ _ _ _=>b
  | _=>[]
noncomputable def defScope (s:Stmt):Scope:=match s with
  | .FunctionDef _ _ _ _ _ _ sc _ _ _=>sc
  | _=>{ kind:=.function,names:=[],isGenerator:=false,isCoroutine:=false }
noncomputable abbrev CX0:CXT:=fun _ _ _ _ _ _=>False
noncomputable abbrev E0:XK:=fun _ _ _=>False
theorem pass0 {X:Cx}:Passes CX0 X E0:=fun _ _ _ _ _ _ _ h=>h.elim
structure Fun (K:PySem.W.Frag) (x qual:Str) (st:Stmt) (f:Addr) (fd:FuncData):Prop where
  ex:∃ (oc:Value) (od:Option Addr) (kV doc pm:Value) (an:Option Addr) (cdv ct:Value) (osl:Array (Option Value)),
    fd=PySem.W.fnOf x qual (defArgs st) (defBody st) (defScope st) .none kV doc pm an cdv ct∧K.lookup f=some ⟨oc,od,.func fd,osl⟩∧PySem.W.codeIn K cdv qual=true
  kp:PySem.W.keepIn K (.ref f)=true
section
variable {P:Program} {w:World} {K:PySem.W.Frag} {mg:Str→Option Value} {base:Heap}
theorem Fun.ok {x qual:Str} {st:Stmt} {f:Addr} {fd:FuncData} {N ps:List Str} {k:Nat} {sp:Sp} (F:Fun K x qual st f fd) (S:FnScope N ps (defScope st)) (len:∀ vs H Q E,sp vs H Q E→vs.length=ps.length)
    (hbody:∀ (cdv:Value) (A:Around) (outer:List Env) (s:Shared) (H:Hp) (vs:List V) (Q:VK) (E:XK),Room k (A.deeper (envOfC qual (defScope st) s.heap.objs.size f cdv))→sp vs H Q E →
      ∃ t,PSs (cxOf CX0 P w K mg base N qual (defScope st) f cdv A outer s H E).nox (defBody st) t∧t { nx:=fun _ H'=>Q .non H',rt:=Q } (start N vs) H):FnOk P w K mg base CX0 (k + 1) f fd ps sp:=by
  obtain ⟨oc,od,kV,doc,pm,an,cdv,ct,osl,rfl,lk,hcd⟩:=F.ex
  refine fn_of lk hcd S len fun A outer s H vs Q E hr hsp=>?_
  obtain ⟨t,h,q⟩:=hbody cdv A outer s H vs Q E hr hsp
  exact ⟨t,h.nox,q⟩
theorem Fun.binds {x qual:Str} {st:Stmt} {f:Addr} {fd:FuncData} {ps:List Str} (F:Fun K x qual st f fd)
    (h:∀ (kV doc pm:Value) (an:Option Addr) (cdv ct:Value) (us:List Value),us.length=ps.length→bindArgs (PySem.W.fnOf x qual (defArgs st) (defBody st) (defScope st) .none kV doc pm an cdv ct) ⟨us,[]⟩=pure (ps.zip us)):Binds K fd ps []:=by
  obtain ⟨oc,od,kV,doc,pm,an,cdv,ct,osl,rfl,lk,hcd⟩:=F.ex
  exact .all (h kV doc pm an cdv ct)
theorem fun_mk {x qual:Str} {st:Stmt} {f:Addr} {oc:Value} {od an:Option Addr} {osl:Array (Option Value)} {kV doc pm cdv ct:Value} (l:K.lookup f=some ⟨oc,od,.func (PySem.W.fnOf x qual (defArgs st) (defBody st) (defScope st) .none kV doc pm an cdv ct),osl⟩)
    (c:PySem.W.codeIn K cdv qual=true) (k:PySem.W.keepIn K (.ref f)=true):Fun K x qual st f (PySem.W.fnOf x qual (defArgs st) (defBody st) (defScope st) .none kV doc pm an cdv ct):=⟨⟨oc,od,kV,doc,pm,an,cdv,ct,osl,rfl,l,c⟩,k⟩
end
section
variable {X:Cx}
theorem pv (i:Nat) {x:Str} {pos:Pos} (hN:X.N[i]? = some x:=by rfl) (hv:Vis X.env.scope x:=by first | exact Or.inl rfl | exact Or.inr (Or.inl rfl) | exact Or.inr (Or.inr rfl)) (hd:(x == ("__debug__":Str))=false:=by decide)
    (hcd:(x == ("__classdict__":Str))=false:=by decide):PE X (.Name x pos) (tVar i):=pe_var hN hv hd hcd
end
theorem iteF {A B:Prop} (h:B):if false=true then A else B:=by
  rw [if_neg Bool.false_ne_true]
  exact h
theorem iteT {A B:Prop} (h:A):if true=true then A else B:=by
  rw [if_pos rfl]
  exact h
theorem ite2 {c A B:Prop} [Decidable c] (h1:c→A) (h2:¬ c→B):if c then A else B:=by
  by_cases h:c
  · rw [if_pos h]
    exact h1 h
  · rw [if_neg h]
    exact h2 h
noncomputable def Same (H H':Hp):Prop:=∀ b o,H b=some o→H' b=some o
theorem Same.refl (H:Hp):Same H H:=fun _ _ h=>h
theorem Same.trans {H H1 H2:Hp} (a:Same H H1) (b:Same H1 H2):Same H H2:=fun c o h=>b c o (a c o h)
theorem Same.free {H H':Hp} (e:Same H H') {l:Addr} (h:H' l=Option.none):H l=Option.none:=by
  cases q:H l with
  | none=>rfl
  | some o =>
    rw [e l o q] at h
    cases h
theorem Same.seq {K:PySem.W.Frag} {H H':Hp} {a:Addr} {xs:List V} (e:Same H H') (h:SqL K H a xs):SqL K H' a xs:=by
  rcases h with (h | ⟨o,h⟩) | h
  · exact .inl (.inl (e _ _ h))
  · exact .inl (.inr ⟨o,e _ _ h⟩)
  · exact .inr h
section
variable {κ:Type} [DecidableEq κ]
end
end L2
end
section
namespace L2
open PySem PySem.Spec PyProof.Rows
section
variable {X:Cx} {pins:List (Addr×Obj)} {σ:St} {H:Hp} {s:Shared}
theorem Inv.turnLaid {fp:List Addr} {a:Addr} {o:HO} {h':Heap} {t':Nat} (I:Inv X pins σ H s) (f:∀ b∈fp,FpOk X pins H b) (ha:s.heap.objs.size≤a)
    (k:∀ b u,b ∉ fp→s.heap.get? b=some u→h'.get? b=some u) (new:ObjOk X.prog X.w (upd H a o) h' a o):Inv X pins σ (upd H a o) { s with heap:=h',toks:=t' }:=by
  have hn:H a=none:=I.hok.fresh ha
  have lt:∀ b u,s.heap.get? b=some u→b≠a:=fun b u e=>Nat.ne_of_lt (Nat.lt_of_lt_of_le (Heap.lt_size e) ha)
  have nf:∀ b u,H b=some u→b ∉ fp:=fun b u e hb=>by rw [(f b hb).1] at e;cases e
  refine I.call (g':=s.gens) (d':=s.drawn) (ch:=fp) ⟨fun b u e n _ hx=>k b u hx e,fun b u e n _ hx=>⟨u.slots,k b u hx e⟩,fun b u e n hx=>by rw [upd_ne (lt b u e)];exact n,fun b u e hx=>⟨u,k b u hx e⟩,
    fun b xs e=>by rw [upd_ne (ne_of_none e hn)];exact e,fun b u xs e=>by rw [upd_ne (ne_of_none e hn)];exact e,fun b ps e=>⟨#[],by rw [upd_ne (ne_of_none e hn),e];simp⟩⟩ ?_ I.bare (fun b hb=>?_)
  · intro b u e
    by_cases hb:b=a
    · subst hb;rw [upd_same] at e;cases e;exact new
    · rw [upd_ne hb] at e
      refine (I.hok b u e).stay (fun c v hc q=>k c v ?_ q) (fun c q=>by rw [upd_ne (ne_of_none q hn)];exact q) fun c xs q=>by rw [upd_ne (ne_of_none q hn)];exact q
      rcases hc with z | z
      · rw [z];exact nf b u e
      · exact nf c _ z
  · obtain ⟨f0,f1,f2,f3,f4,f5⟩:=f b hb
    exact ⟨f3,f1,f4,f5⟩
theorem Inv.turnedAll {fp:List Addr} {h':Heap} {t':Nat} (I:Inv X pins σ H s) (f:∀ b∈fp,FpOk X pins H b) (k:∀ b u,b ∉ fp→s.heap.get? b=some u→h'.get? b=some u):Inv X pins σ H { s with heap:=h',toks:=t' }:=by
  have nf:∀ b u,H b=some u→b ∉ fp:=fun b u e hb=>by rw [(f b hb).1] at e;cases e
  refine I.call (g':=s.gens) (d':=s.drawn) (ch:=fp) ⟨fun b u e n _ hx=>k b u hx e,fun b u e n _ hx=>⟨u.slots,k b u hx e⟩,fun b u e n hx=>n,fun b u e hx=>⟨u,k b u hx e⟩,
    fun b xs e=>e,fun b u xs e=>e,fun b ps e=>⟨#[],by rw [e];simp⟩⟩ ?_ I.bare (fun b hb=>?_)
  · intro b u e
    refine (I.hok b u e).stay (fun c v hc q=>k c v ?_ q) (fun c q=>q) fun c xs q=>q
    rcases hc with z | z
    · rw [z];exact nf b u e
    · exact nf c _ z
  · obtain ⟨f0,f1,f2,f3,f4,f5⟩:=f b hb
    exact ⟨f3,f1,f4,f5⟩
end
theorem KV.at {kvs:List (Key×V)} {vs:List (Key×Value)} (r:KV kvs vs) {i:Nat} {k:Key} {v:V} (e:kvs[i]? = some (k,v)):∃ u,vs[i]? = some (k,u)∧RelV v u:=by
  unfold KV at r
  induction r generalizing i with
  | nil=>simp at e
  | @cons p q ps qs h t ih =>
    cases i with
    | zero =>
      simp only [List.getElem?_cons_zero,Option.some.injEq] at e
      subst e
      obtain ⟨q1,q2⟩:=q
      obtain ⟨h1,h2⟩:=h
      dsimp only at h1 h2
      subst h1
      exact ⟨q2,by simp,h2⟩
    | succ i =>
      rw [List.getElem?_cons_succ] at e ⊢
      exact ih e
section
variable {X:Cx} {tg:Expr}
end
section
variable {X:Cx}
end
section
variable {X:Cx}
end
section
variable {X:Cx}
end
end L2
end
section
namespace L2
open PySem PySem.Spec PyProof.Rows
noncomputable def compCx (X:Cx) (N':List Str) (scope:Scope) (cl:List (Str×Addr)) (C:Addr) (s₀:Shared) (H₀:Hp) (ex:List Addr) (pn:List (Addr×Obj)) (xe:Value→Shared→Prop):Cx :=
  { prog:=X.prog,w:=X.w,K:=X.K,mg:=X.mg,base:=X.base,A:=X.A,N:=N',s₀:=s₀,H₀:=H₀,env:=compEnvC scope cl C X.env,outer:=X.stack,stack:=X.stack,ex:=ex,fn:=fun _=>false,calm:=X.calm,pn:=pn,xe:=xe }
structure CompOk (X:Cx) (N':List Str) (scope:Scope) (cl:List (Str×Addr)):Prop where
  clos:closureFor scope X.env=pure cl
  nocell:∀ y∈scope.names,y.2≠.cell
  kind:scope.kind = .function
  names:∀ y∈scope.names,y.2 = .local→scope.names.lookup y.1=some .local
  sub:∀ x c,cl.lookup x=some c→X.env.cells.lookup x=some c
  has:∀ x,((relabel scope X.env).names.lookup x=some .cell∨(relabel scope X.env).names.lookup x=some .free)→∃ c,cl.lookup x=some c
noncomputable def Capt (X:Cx) (N':List Str) (scope:Scope) (cl:List (Str×Addr)) (σ σb:St):Prop :=
  σb.length=N'.length∧∀ (i:Nat) (x:Str) (v:V),N'[i]? = some x→σb[i]? = some (some v)→∃ j:Nat,X.N[j]? = some x∧σ[j]? = some (some v)∧X.env.scope.names.lookup x=some .cell ∧
    (relabel scope X.env).names.lookup x=some .cell
section
variable {X:Cx} {elt iter:Expr} {x:Str} {px pos:Pos} {scope:Scope} {N':List Str} {cl:List (Str×Addr)} {wi:TI} {te:TE} {iw:Nat}
theorem comp_ok {pins:List (Addr×Obj)} {σ:St} {H:Hp} {s:Shared} {fp:List Addr} {C:Addr} {xe:Value→Shared→Prop} (I:Inv X pins σ H s) (hc:X.calm=true) (O:CompOk X N' scope cl) (f:∀ b∈fp,FpOk X pins H b) (hC:s.heap.objs.size≤C)
    (hfp:∀ b∈fp,b < s.heap.objs.size):(compCx X N' scope cl C s H fp (X.pn++pins) xe).Ok where
  mod:=I.ok.mod
  kind:=O.kind
  glob:=I.ok.glob
  blt:=I.ok.blt
  above:=hC
  inj:=fun x y c e1 e2=>I.ok.inj x y c (O.sub x c e1) (O.sub y c e2)
  has:=fun x h=>O.has x h
  cab:=fun x c h=>by cases h
  hd:=fun _=>I.ok.hd hc
  frames:=I.ok.frames
  stk:=.inl rfl
  exf:=fun b hb=>⟨Nat.ne_of_lt (Nat.lt_of_lt_of_le (hfp b hb) hC),fun x c e=>(f b hb).2.2.2.2.1 x c (O.sub x c e)⟩
  bs:=I.bs
  bsz:=Nat.le_trans I.ok.bsz I.sz
  noex:=fun b o e hb=>by
    rcases (f b hb).2.2.2.1 with q | q
    · exact I.ok.noex b o e q
    · exact absurd (Nat.lt_of_lt_of_le (Heap.lt_size e) (Nat.le_trans I.ok.bsz q)) (Nat.lt_irrefl _)
  exfs:=fun b hb z=>by
    rcases List.mem_cons.mp (I.stkSub b z) with q | q
    · exact (f b hb).2.1 q
    · exact (f b hb).2.2.1 q
  funs:=I.stack
  frf:=I.stkFree
theorem comp_start {pins:List (Addr×Obj)} {σ σb:St} {H:Hp} {s:Shared} {fp:List Addr} {C D:Addr} {xe:Value→Shared→Prop} {h1:Heap} {tk:Nat} {m:Str→Option Value} (I:Inv X pins σ H s) (hc:X.calm=true) (O:CompOk X N' scope cl)
    (cap:Capt X N' scope cl σ σb) (f:∀ b∈fp,FpOk X pins H b) (hfp:∀ b∈fp,b < s.heap.objs.size) (hC:s.heap.objs.size≤C) (hD:s.heap.objs.size≤D) (hDC:D≠C)
    (k:∀ b u,s.heap.get? b=some u→h1.get? b=some u) (hns:h1.Ns C m) (hDo:h1.get? D=some { cls:=.type "list",data:=.seq #[] }) :
    Inv (compCx X N' scope cl C s H fp (X.pn++pins) xe) [] σb (upd H D (.lst [])) { s with heap:=h1,toks:=tk }:=by
  have hn:H D=none:=I.hok.fresh hD
  have ltD:∀ b u,s.heap.get? b=some u→b≠D:=fun b u e=>Nat.ne_of_lt (Nat.lt_of_lt_of_le (Heap.lt_size e) hD)
  have ltC:∀ b u,s.heap.get? b=some u→b≠C:=fun b u e=>Nat.ne_of_lt (Nat.lt_of_lt_of_le (Heap.lt_size e) hC)
  refine ⟨comp_ok I hc O f hC hfp,rfl,I.bare,Un.laid k hD hn,⟨m,hns,fun i x v e1 e2 e3=>?_⟩,fun x c e=>?_,?_,fun x c e=>?_,fun p hp=>?_,I.hok.laid k hD ?_,cap.1⟩
  · obtain ⟨j,q1,q2,q3,q4⟩:=cap.2 i x v e1 e2
    obtain ⟨m0,hn0,l0⟩:=I.loc
    obtain ⟨u,ru,lk⟩:=l0 j x v q1 q2 (.inr (.inl q3))
    refine ⟨u,ru,.inr ⟨.inl q4,?_⟩⟩
    rcases lk with ⟨z,_⟩ | ⟨_,c,hc2,cell⟩
    · have z:X.env.scope.names.lookup x=some .local:=z
      rw [q3] at z;cases z
    · obtain ⟨c',hc'⟩:=O.has x (.inl q4)
      have e:=O.sub x c' hc'
      rw [hc2] at e
      cases e
      obtain ⟨o,ho,hd⟩:=cell
      exact ⟨c,hc',o,k c o ho,hd⟩
  · obtain ⟨v,o,ho,hd⟩:=I.cell x c (O.sub x c e)
    exact ⟨v,o,k c o ho,hd⟩
  · show upd H D (.lst []) C=none
    rw [upd_ne (Ne.symm hDC)];exact I.hok.fresh hC
  · obtain ⟨v,o,ho,hd⟩:=I.cell x c (O.sub x c e)
    show upd H D (.lst []) c=none
    rw [upd_ne (ltD c o ho)];exact I.freeC x c (O.sub x c e)
  · have hp:p∈X.pn++pins:=by
      have hp:p∈(X.pn++pins)++[]:=hp
      simpa using hp
    obtain ⟨e,n,ne,nf,d⟩:=I.pin p hp
    refine ⟨k _ _ e,by rw [upd_ne (ltD _ _ e)];exact n,ltC _ _ e,fun z=>?_,d⟩
    rcases List.mem_cons.mp (I.stkSub _ z) with q | q
    · exact ne q
    · exact nf q
  · exact ⟨Nat.zero_le _,[],0,.nil,hDo⟩
theorem comp_end {pins pins':List (Addr×Obj)} {σ σ':St} {H H':Hp} {s s':Shared} {fp:List Addr} {C:Addr} {xe:Value→Shared→Prop} {h':Heap} (I:Inv X pins σ H s) (f:∀ b∈fp,FpOk X pins H b) (hC:s.heap.objs.size≤C)
    (I':Inv (compCx X N' scope cl C s H fp (X.pn++pins) xe) pins' σ' H' s') (sb:Heap.SameBut C s'.heap h'):Inv X pins σ H' { s' with heap:=h' }:=by
  have ltC:∀ b u,s.heap.get? b=some u→b≠C:=fun b u e=>Nat.ne_of_lt (Nat.lt_of_lt_of_le (Heap.lt_size e) hC)
  have u:Un (frs X.stack) fp H H' s.heap s'.heap:=I'.base
  have hC':H' C=none:=I'.free
  refine I.call' (s':={ s' with heap:=h' }) (ch:=fp) I'.os ⟨fun b o e n hb hx=>(sb.2 b (ltC b o e)).trans (u.keep b o e n hb hx),fun b o e n hb hx=>?_,u.free,fun b o e hx=>?_,u.tups,u.frzs,u.tbls⟩ ?_ I'.bare (fun b hb=>?_)
  · obtain ⟨sl,q⟩:=u.slot b o e n hb hx
    exact ⟨sl,(sb.2 b (ltC b o e)).trans q⟩
  · obtain ⟨o',q⟩:=u.there b o e hx
    exact ⟨o',(sb.2 b (ltC b o e)).trans q⟩
  · intro b o e
    refine (I'.hok b o e).stay (fun c v hc q=>(sb.2 c ?_).trans q) (fun c q=>q) fun c xs q=>q
    rcases hc with z | z
    · rw [z];intro z2;rw [z2,hC'] at e;cases e
    · intro z2;rw [z2,hC'] at z;cases z
  · obtain ⟨f0,f1,f2,f3,f4,f5⟩:=f b hb
    exact ⟨f3,f1,f4,f5⟩
end
end L2
end
section
namespace L2
open PySem PySem.Spec PyProof.Rows Tim
section
variable {X:Cx} {pins:List (Addr×Obj)} {σ:St} {H:Hp} {s:Shared}
end
section
variable {X:Cx}
end
section
variable {X:Cx} {pins:List (Addr×Obj)} {σ:St} {H:Hp} {s:Shared}
end
end L2
end
section
namespace L2
open PySem PySem.Spec PyProof.Rows Tim
section
variable {X:Cx} {pins:List (Addr×Obj)} {σ:St} {H:Hp} {s:Shared}
end
section
variable {X:Cx}
end
end L2
namespace L2
open PySem PySem.Spec PyProof.Rows Tim
section
variable {X:Cx}
end
end L2
end
section
namespace L2
open PySem PySem.Spec PyProof.Rows Tim
inductive Isi (H:Hp):V→String→Bool→Prop where
  | ss (x:Str):Isi H (.str x) "str" true
  | ii (i:Int):Isi H (.int i) "int" true
  | ib (i:Int):Isi H (.int i) "bool" false
  | ts {a:Addr} {xs:List V} (e:H a=some (.tup xs)):Isi H (.ref a) "str" false
  | tt {a:Addr} {xs:List V} (e:H a=some (.tup xs)):Isi H (.ref a) "tuple" true
  | ll {a:Addr} {xs:List V} (e:H a=some (.lst xs)):Isi H (.ref a) "list" true
  | st (x:Str):Isi H (.str x) "tuple" false
  | bb (b:Bool):Isi H (.bl b) "bool" true
section
variable {X:Cx}
theorem call_isi:CallR X (.builtin "isinstance") (fun xs H Q=>∃ x n b,xs=[x,.ty n]∧Isi H x n b∧Q (.bl b) H):=by
  intro pins s σ H xs us Q I r h
  obtain ⟨x,n,b,rfl,hi,q⟩:=h
  obtain ⟨u,v,rfl,rx,ry⟩:=vals2 r
  cases ry
  cases hi with
  | ss x=>obtain ⟨t,rfl⟩:=rx;exact PySem.IsiPair.str_str ⟨.bl true,H,I,rfl,q⟩
  | ii i=>obtain ⟨t,rfl⟩:=rx;exact PySem.IsiPair.int_int ⟨.bl true,H,I,rfl,q⟩
  | ib i=>obtain ⟨t,rfl⟩:=rx;exact PySem.IsiPair.int_bool ⟨.bl false,H,I.tok _,rfl,q⟩
  | st x=>obtain ⟨t,rfl⟩:=rx;exact PySem.IsiPair.str_tuple ⟨.bl false,H,I.tok _,rfl,q⟩
  | bb b=>cases rx;exact PySem.IsiPair.bool_bool ⟨.bl true,H,I,rfl,q⟩
  | @ts a xs e =>
    cases rx
    obtain ⟨_,us,ru,o,e7,e8,n,e9⟩:=(show ObjOk X.prog X.w H s.heap a (.tup xs) from I.hok a _ e)
    exact PySem.IsiPair.tuple_str e7 e8 ⟨.bl false,H,I.tok _,rfl,q⟩
  | @tt a xs e =>
    cases rx
    obtain ⟨_,us,ru,o,e7,e8,n,e9⟩:=(show ObjOk X.prog X.w H s.heap a (.tup xs) from I.hok a _ e)
    exact PySem.IsiPair.tuple_tuple e7 e8 ⟨.bl true,H,I,rfl,q⟩
  | @ll a xs e =>
    cases rx
    obtain ⟨_,us,n,ru,e7⟩:=(show ObjOk X.prog X.w H s.heap a (.lst xs) from I.hok a _ e)
    exact PySem.IsiPair.list_list e7 rfl ⟨.bl true,H,I,rfl,q⟩
theorem pe_ty {x:Str} {n:String} {pos:Pos} (hg:Gl X x) (hm:X.mg x=none) (hv:bootBuiltins x=some (.type n)) (hn:x≠"__name__":=by decide) (hd:(x == ("__debug__":Str))=false:=by decide):PE X (.Name x pos) (tC (.ty n)) :=
  pe_bltn hg hm hv rfl hn hd
theorem boot_isi:bootBuiltins "isinstance" = some (.builtin "isinstance"):=by decide +kernel
theorem boot_tup:bootBuiltins "tuple" = some (.type "tuple"):=by decide +kernel
end
end L2
end
section
namespace L2
open PySem PySem.Spec PyProof.Rows
section
variable {X:Cx} {elt iter tst:Expr} {x:Str} {px pos:Pos} {scope:Scope} {N':List Str} {cl:List (Str×Addr)} {wi:TI} {te:TE} {tc:TT} {iw:Nat}
end
end L2
end
section
namespace L2
open PySem PySem.Spec PyProof.Rows
noncomputable def rSlS:V→Option Int→Option Int→Hp→VK→Prop:=fun x lo hi H Q=>∃ z,x = .str z∧z.length≤sizeLine∧Q (.str (Txt.slice z lo hi)) H
section
variable {X:Cx}
theorem part_ex {v:Value} {o:Option Int} (h:IsPart v o):∃ p:Option (Int×Tok),v=partValue p∧o=p.map (·.1):=by
  cases h with
  | none=>exact ⟨none,rfl,rfl⟩
  | int i t=>exact ⟨some (i,t),rfl,rfl⟩
theorem sl_str:SlR X rSlS:=by
  intro pins s σ H x v vl vu lo hi sl Q I rx hs pl pu h
  obtain ⟨z,rfl,hz,q⟩:=h
  obtain ⟨t,rfl⟩:=rx
  obtain ⟨p1,rfl,rfl⟩:=part_ex pl
  obtain ⟨p2,rfl,rfl⟩:=part_ex pu
  refine ⟨"str",_,PySem.F.slot_str_getitem.lookup,typeIs_str _ _ _,?_⟩
  refine wpAny_getItem_str_slice (l:=p1) (u:=p2) (st:=none) hs rfl (post_val_or_str ⟨Nat.le_trans (Txt.slice_le z _ _) hz,fun t' k=>⟨.str (Txt.slice z (p1.map (·.1)) (p2.map (·.1))),H,I.kept (t':=k) (fun b o e=>e),⟨t',rfl⟩,q⟩⟩)
theorem sl_mid {x:Str} {i j:Int} (h:0≤i∧i≤j∧j≤x.length):(Txt.slice x (some i) (some j)).cps.toList=(x.cps.toList.drop i.toNat).take (j - i).toNat:=by
  have h':0≤i∧i≤j∧j≤(x.cps.toList.length:Int):=by
    have e:(x.cps.toList.length:Int)=x.length:=by rw [Array.length_toList];rfl
    omega
  have:=eq_of_beq (slice_closes h')
  rw [this]
theorem sl_to {x:Str} {j:Int} (h:0≤j∧j≤x.length):(Txt.slice x none (some j)).cps.toList=x.cps.toList.take j.toNat:=by
  have h':0≤j∧j≤(x.cps.toList.length:Int):=by
    have e:(x.cps.toList.length:Int)=x.length:=by rw [Array.length_toList];rfl
    omega
  have:=eq_of_beq (slice_closes_to h')
  rw [this]
  simp
theorem sl_from {x:Str} {i:Int} (h:0≤i∧i≤x.length):(Txt.slice x (some i) none).cps.toList=x.cps.toList.drop i.toNat:=by
  have e:(x.length:Nat)=x.cps.toList.length:=by rw [Array.length_toList];rfl
  rw [slice_from_eq (b:=x.length) h.1 h.2 rfl]
  show (x.cps.toList.drop i.toNat).take ((x.length:Int) - i).toNat=_
  refine List.take_of_length_le ?_
  rw [List.length_drop]
  omega
end
end L2
end
section
namespace L2
open PySem PySem.Spec PyProof.Rows Tim
section
variable {X:Cx} {pins:List (Addr×Obj)} {σ:St} {H:Hp} {s:Shared}
end
section
variable {X:Cx}
end
end L2
end
section
namespace L2
open PySem PySem.Spec PyProof.Rows Tim
theorem boot_all:bootBuiltins "all" = some (.builtin "all"):=by decide +kernel
section
variable {X:Cx}
theorem call_all (hc:X.calm=true):CallR X (.builtin "all") (fun xs H Q=>∃ (l:Addr) (bs:List Bool),xs=[.ref l]∧SqL X.K H l (bs.map V.bl)∧Q (.bl (bs.all id)) H):=by
  intro pins s σ H xs us Q I r h
  obtain ⟨l,bs,rfl,hl,q⟩:=h
  obtain ⟨u,rfl,rx⟩:=vals1 r
  cases rx
  obtain ⟨its,r,p,hz⟩:=I.list hl
  have hlt:l < s.heap.objs.size:=by obtain ⟨o,n,e,_⟩:=p;exact Heap.lt_size e
  have hlen:its.length=bs.length:=by rw [← r.length,List.length_map]
  have hsz:its.toArray.size=bs.length:=by simp [hlen]
  refine call_all_walk (wpAny_pyIter_list p.isList ?_)
  refine ⟨_,_,_,_,_,_,fun i=>bs.getD i true,rfl,Walks.list (A:=X.A.in1) (I.ok.hd hc) s.heap.objs.size l (Nat.ne_of_lt hlt) its.toArray,⟨⟨_,Heap.get?_push_size _ rfl,rfl,rfl⟩,p.isList.push _⟩,?_,fun h' tk hk=>?_⟩
  · intro i v s' Q' E' hv h'
    have hv:its[i]? = some v:=by simpa using hv
    have hi:i < bs.length:=by rw [← hlen];exact (List.getElem?_eq_some_iff.mp hv).1
    obtain ⟨u,hu,ru⟩:=r.get (i:=i) (x:=V.bl bs[i]) (by rw [List.getElem?_map,List.getElem?_eq_getElem hi];rfl)
    rw [hu] at hv
    have e0:u=v:=Option.some.inj hv
    have ru:u=Value.bool bs[i]:=ru
    rw [← e0,ru]
    have e:bs.getD i true=bs[i]:=by simp [List.getD,List.getElem?_eq_getElem hi]
    have h':Q' (bs.getD i true) s':=h'
    rw [e] at h'
    exact wpAny_pure h'
  · rw [hsz]
    have e:(List.range bs.length).all (fun i=>bs.getD i true)=bs.all id:=by
      rw [Bool.eq_iff_iff,List.all_eq_true,List.all_eq_true]
      constructor
      · intro h b hb
        obtain ⟨i,hi,rfl⟩:=List.mem_iff_getElem.mp hb
        have:=h i (List.mem_range.mpr hi)
        simpa [List.getD,List.getElem?_eq_getElem hi] using this
      · intro h i hi
        have hi:=List.mem_range.mp hi
        have:=h bs[i] (List.getElem_mem hi)
        simpa [List.getD,List.getElem?_eq_getElem hi] using this
    rw [e]
    refine ⟨.bl (bs.all id),H,?_,rfl,q⟩
    refine I.kept (t':=tk) fun b o e=>hk b o (fun hm=>?_) (Heap.get?_push_of_some _ e)
    simp only [List.mem_cons,List.not_mem_nil,or_false] at hm
    subst hm
    exact absurd (Heap.lt_size e) (Nat.lt_irrefl _)
end
theorem upd_same2' {H:Hp} {D:Addr} {o:HO} (h:H D=none):Same H (upd H D o):=fun b u e=>by rw [upd_ne (ne_of_none e h)];exact e
end L2
end
section
namespace L2
open PySem PySem.Spec PyProof.Rows Tim
noncomputable def lstEq (xs ys:List V) (e:Nat→Bool):Bool:=decide (xs.length=ys.length) && (List.range xs.length).all e
inductive EqV (K:PySem.W.Frag) (H:Hp):Nat→V→V→Bool→Prop where
  | int (n:Nat) (i j:Int):EqV K H n (.int i) (.int j) (i == j)
  | str (n:Nat) (x y:Str):EqV K H n (.str x) (.str y) (x == y)
  | bl (n:Nat) (x y:Bool):EqV K H n (.bl x) (.bl y) (x == y)
  | same (n:Nat) (a:Addr):EqV K H n (.ref a) (.ref a) true
  | tup {n:Nat} {a b:Addr} {xs ys:List V} {e:Nat→Bool} (ne:a≠b) (ha:SqT K H a xs) (hb:SqT K H b ys) (h:∀ (j:Nat) u v,xs[j]? = some u→ys[j]? = some v→EqV K H n u v (e j)) :
      EqV K H (n + 1) (.ref a) (.ref b) ((List.range (min xs.length ys.length)).all e && xs.length == ys.length)
  | lst {n:Nat} {a b:Addr} {xs ys:List V} {e:Nat→Bool} (ne:a≠b) (ha:SqL K H a xs) (hb:SqL K H b ys) (h:xs.length=ys.length→∀ (j:Nat) u v,xs[j]? = some u→ys[j]? = some v→EqV K H n u v (e j)) :
      EqV K H (n + 1) (.ref a) (.ref b) (lstEq xs ys e)
section
variable {X:Cx}
theorem isTup_tuple {h:Heap} {a:Addr} {its:Array Value} (p:IsTup h a its):h.IsTuple a its:=p
theorem eqv_at {pins:List (Addr×Obj)} {σ:St} {H:Hp} {s:Shared} (I:Inv X pins σ H s) {n:Nat} {x y:V} {b:Bool} (h:EqV X.K H n x y b):∀ {A:Around} {u v:Value},RelV x u→RelV y v→A.units + n < cLine→SeqAt.EqAt A s u v b:=by
  induction h with
  | int n i j=>intro A u v r r' _;obtain ⟨t,rfl⟩:=r;obtain ⟨t',rfl⟩:=r';exact SeqAt.EqAt.int_int _ _ _ _
  | str n i j=>intro A u v r r' _;obtain ⟨t,rfl⟩:=r;obtain ⟨t',rfl⟩:=r';exact SeqAt.EqAt.str_str _ _ _ _
  | bl n i j=>intro A u v r r' _;cases r;cases r';exact SeqAt.EqAt.bool_bool _ _
  | same n a=>intro A u v r r' _;cases r;cases r';exact SeqAt.EqAt.same _
  | @tup n a b xs ys e ne ha hb h ih =>
    intro A u v r r' hu
    cases r
    cases r'
    obtain ⟨us1,r1,p1,_⟩:=I.tuple ha
    obtain ⟨us2,r2,p2,_⟩:=I.tuple hb
    have l1:=r1.length
    have l2:=r2.length
    have key:=SeqAt.RcAt.tuples (A:=A) (s:=s) (e:=e) (isTup_tuple p1) (isTup_tuple p2) (by omega) fun j j1 j2=>by
      have j1:j < us1.length:=by simpa using j1
      have j2:j < us2.length:=by simpa using j2
      have jx:j < xs.length:=by omega
      have jy:j < ys.length:=by omega
      obtain ⟨w1,e1,q1⟩:=r1.get (List.getElem?_eq_getElem jx)
      obtain ⟨w2,e2,q2⟩:=r2.get (List.getElem?_eq_getElem jy)
      rw [List.getElem?_eq_getElem j1] at e1
      rw [List.getElem?_eq_getElem j2] at e2
      have:=ih j _ _ (List.getElem?_eq_getElem jx) (List.getElem?_eq_getElem jy) (A:=A.in1) q1 q2 (by show A.units + 1 + n < cLine;omega)
      simp only [List.getElem_toArray]
      rw [Option.some.inj e1,Option.some.inj e2]
      exact this
    refine SeqAt.EqAt.of_refs ne ?_
    have e3:us1.toArray.size=xs.length:=by simp [l1]
    have e4:us2.toArray.size=ys.length:=by simp [l2]
    rw [e3,e4] at key
    exact key
  | @lst n a b xs ys e ne ha hb h ih =>
    intro A u v r r' hu
    cases r
    cases r'
    obtain ⟨us1,r1,p1,_⟩:=I.list ha
    obtain ⟨us2,r2,p2,_⟩:=I.list hb
    have l1:=r1.length
    have l2:=r2.length
    have e3:us1.toArray.size=xs.length:=by simp [l1]
    have e4:us2.toArray.size=ys.length:=by simp [l2]
    refine SeqAt.EqAt.of_refs ne ?_
    unfold lstEq
    by_cases hl:xs.length=ys.length
    · have key:=SeqAt.RcAt.lists (A:=A) (s:=s) (e:=e) p1.isList p2.isList (by omega) (by omega) fun j j1 j2=>by
        have j1:j < us1.length:=by simpa using j1
        have j2:j < us2.length:=by simpa using j2
        have jx:j < xs.length:=by omega
        have jy:j < ys.length:=by omega
        obtain ⟨w1,e1,q1⟩:=r1.get (List.getElem?_eq_getElem jx)
        obtain ⟨w2,e2,q2⟩:=r2.get (List.getElem?_eq_getElem jy)
        rw [List.getElem?_eq_getElem j1] at e1
        rw [List.getElem?_eq_getElem j2] at e2
        have:=ih hl j _ _ (List.getElem?_eq_getElem jx) (List.getElem?_eq_getElem jy) (A:=A.in1) q1 q2 (by show A.units + 1 + n < cLine;omega)
        simp only [List.getElem_toArray]
        rw [Option.some.inj e1,Option.some.inj e2]
        exact this
      rw [e3] at key
      rw [decide_eq_true hl,Bool.true_and]
      exact key
    · have key:=SeqAt.RcAt.lists_lengths (A:=A) (s:=s) p1.isList p2.isList (by rw [e3,e4];simpa using hl) (by omega)
      rw [decide_eq_false hl,Bool.false_and]
      exact key
structure Items (K:PySem.W.Frag) (H:Hp) (n:Nat) (xs ys:List V) (e:Nat→Bool):Prop where
  h:∀ (j:Nat) u v,xs[j]? = some u→ys[j]? = some v→EqV K H n u v (e j)
theorem items_at {pins:List (Addr×Obj)} {σ:St} {H:Hp} {s:Shared} (I:Inv X pins σ H s) {n:Nat} {xs ys:List V} {us1 us2:List Value} {e:Nat→Bool} (h:Items X.K H n xs ys e) {A:Around} (hu:A.units + n + 1 < cLine) (r1:Vals xs us1) (r2:Vals ys us2) :
    ∀ j (h1:j < us1.toArray.size) (h2:j < us2.toArray.size),SeqAt.EqAt A.in1 s us1.toArray[j] us2.toArray[j] (e j):=fun j j1 j2=>by
  have l1:=r1.length
  have l2:=r2.length
  have j1:j < us1.length:=by simpa using j1
  have j2:j < us2.length:=by simpa using j2
  have jx:j < xs.length:=by omega
  have jy:j < ys.length:=by omega
  obtain ⟨w1,e1,q1⟩:=r1.get (List.getElem?_eq_getElem jx)
  obtain ⟨w2,e2,q2⟩:=r2.get (List.getElem?_eq_getElem jy)
  rw [List.getElem?_eq_getElem j1] at e1
  rw [List.getElem?_eq_getElem j2] at e2
  have:=eqv_at I (h.h j _ _ (List.getElem?_eq_getElem jx) (List.getElem?_eq_getElem jy)) (A:=A.in1) q1 q2 (by show A.units + 1 + n < cLine;omega)
  simp only [List.getElem_toArray]
  rw [Option.some.inj e1,Option.some.inj e2]
  exact this
noncomputable def tupEq (xs ys:List V) (e:Nat→Bool):Bool:=(List.range (min xs.length ys.length)).all e && xs.length == ys.length
theorem op_eqT:OpR X (compareOp .Eq) (fun x y H Q=>∃ a b xs ys n e,x = .ref a∧y = .ref b∧SqT X.K H a xs∧SqT X.K H b ys∧Items X.K H n xs ys e∧X.A.units + n + 1 < cLine∧Q (.bl (tupEq xs ys e)) H):=by
  intro pins s σ H x y v u Q I rx ry h
  obtain ⟨a,b,xs,ys,n,e,rfl,rfl,ha,hb,he,hu,q⟩:=h
  cases rx
  cases ry
  obtain ⟨us1,r1,p1,_⟩:=I.tuple ha
  obtain ⟨us2,r2,p2,_⟩:=I.tuple hb
  have key:=SeqAt.RcAt.tuples (A:=X.A) (s:=s) (e:=e) (isTup_tuple p1) (isTup_tuple p2) (by omega) (items_at I he hu r1 r2)
  have e3:us1.toArray.size=xs.length:=by simp [r1.length]
  have e4:us2.toArray.size=ys.length:=by simp [r2.length]
  rw [e3,e4] at key
  exact key X.prog X.w _ _ ⟨.bl (tupEq xs ys e),H,I,rfl,q⟩
theorem op_eqLs:OpR X (compareOp .Eq) (fun x y H Q=>∃ a b xs ys n e,x = .ref a∧y = .ref b∧SqL X.K H a xs∧SqL X.K H b ys∧(xs.length=ys.length→Items X.K H n xs ys e)∧X.A.units + n + 1 < cLine∧Q (.bl (lstEq xs ys e)) H):=by
  intro pins s σ H x y v u Q I rx ry h
  obtain ⟨a,b,xs,ys,n,e,rfl,rfl,ha,hb,he,hu,q⟩:=h
  cases rx
  cases ry
  obtain ⟨us1,r1,p1,_⟩:=I.list ha
  obtain ⟨us2,r2,p2,_⟩:=I.list hb
  have e3:us1.toArray.size=xs.length:=by simp [r1.length]
  have e4:us2.toArray.size=ys.length:=by simp [r2.length]
  unfold lstEq at q
  by_cases hl:xs.length=ys.length
  · have key:=SeqAt.RcAt.lists (A:=X.A) (s:=s) (e:=e) p1.isList p2.isList (by omega) (by omega) (items_at I (he hl) hu r1 r2)
    rw [e3] at key
    rw [decide_eq_true hl,Bool.true_and] at q
    exact key X.prog X.w _ _ ⟨.bl _,H,I,rfl,q⟩
  · have key:=SeqAt.RcAt.lists_lengths (A:=X.A) (s:=s) p1.isList p2.isList (by rw [e3,e4];simpa using hl) (by omega)
    rw [decide_eq_false hl,Bool.false_and] at q
    exact key X.prog X.w _ _ ⟨.bl false,H,I,rfl,q⟩
theorem op_neLs:OpR X (compareOp .NotEq) (fun x y H Q=>∃ a b xs ys n e,x = .ref a∧y = .ref b∧SqL X.K H a xs∧SqL X.K H b ys∧(xs.length=ys.length→Items X.K H n xs ys e)∧X.A.units + n + 1 < cLine∧Q (.bl (!lstEq xs ys e)) H):=by
  intro pins s σ H x y v u Q I rx ry h
  obtain ⟨a,b,xs,ys,n,e,rfl,rfl,ha,hb,he,hu,q⟩:=h
  cases rx
  cases ry
  obtain ⟨us1,r1,p1,_⟩:=I.list ha
  obtain ⟨us2,r2,p2,_⟩:=I.list hb
  have e3:us1.toArray.size=xs.length:=by simp [r1.length]
  have e4:us2.toArray.size=ys.length:=by simp [r2.length]
  unfold lstEq at q
  by_cases hl:xs.length=ys.length
  · have key:=SeqAt.RcNeAt.lists (A:=X.A) (s:=s) (e:=e) p1.isList p2.isList (by omega) (by omega) (items_at I (he hl) hu r1 r2)
    rw [e3] at key
    rw [decide_eq_true hl,Bool.true_and] at q
    exact key X.prog X.w _ _ ⟨.bl _,H,I,rfl,q⟩
  · have key:=SeqAt.RcNeAt.lists_lengths (A:=X.A) (s:=s) p1.isList p2.isList (by rw [e3,e4];simpa using hl) (by omega)
    rw [decide_eq_false hl,Bool.false_and] at q
    exact key X.prog X.w _ _ ⟨.bl true,H,I,rfl,q⟩
end
theorem if_join {c:Bool} {t u:TS} {D:Ends} {σ:St} {H:Hp} (R:St→Hp→Prop) (hR:∀ σ' H',R σ' H'→D.nx σ' H') (h1:(∀ σ' H',R σ' H'→D.nx σ' H')→c=true→t D σ H) (h2:(∀ σ' H',R σ' H'→D.nx σ' H')→c=false→u D σ H) :
    if c=true then t D σ H else u D σ H:=by
  cases c with
  | true=>exact iteT (h1 hR rfl)
  | false=>exact iteF (h2 hR rfl)
noncomputable def Sc (v:V):Prop:=(∃ i,v = .int i)∨(∃ x,v = .str x)∨(∃ b,v = .bl b)∨∃ a,v = .ref a
theorem eqv_self {K:PySem.W.Frag} {H:Hp} {n:Nat} {v:V} (h:Sc v):EqV K H n v v true:=by
  rcases h with ⟨i,rfl⟩ | ⟨x,rfl⟩ | ⟨b,rfl⟩ | ⟨a,rfl⟩
  · have:=EqV.int (K:=K) (H:=H) n i i;simpa using this
  · have:=EqV.str (K:=K) (H:=H) n x x;simpa using this
  · have:=EqV.bl (K:=K) (H:=H) n b b;simpa using this
  · exact EqV.same n a
theorem items_self {K:PySem.W.Frag} {H:Hp} {n:Nat} {xs:List V} (h:∀ v∈xs,Sc v):Items K H n xs xs (fun _=>true):=⟨fun j u v e1 e2=>by
  rw [e1] at e2
  cases e2
  exact eqv_self (h _ (List.mem_of_getElem? e1))⟩
theorem un_of {A:Around} {k n:Nat} (hr:Room k A) (h:n≤60):A.units + n + 1 < cLine:=by
  have:=hr.units
  omega
end L2
end
section
namespace L2
open PySem PySem.Spec PyProof.Rows Tim
noncomputable def tYes:TT:=fun _ H Q=>Q true H
noncomputable def PIfs (X:Cx) (ifs:List Expr) (tc:TT):Prop:=∀ (pins:List (Addr×Obj)) (s:Shared) (σ:St) (H:Hp) (Q:Bool→Hp→Prop),Inv X pins σ H s→tc σ H Q →
  wpAny (model X.prog X.w) X.A (forIn ifs true fun c r=>if r=true then do let ok ← isTrue c X.env (eval c X.env);pure (ForInStep.yield ok) else pure (ForInStep.yield r)) (TP X pins σ Q) X.xe s
theorem pifs_nil {X:Cx}:PIfs X [] tYes:=fun pins s σ H Q I h=>by
  rw [List.forIn_nil]
  exact wpAny_pure ⟨H,I,h⟩
theorem pifs_one {X:Cx} {c:Expr} {tc:TT} (hc:PT X c tc):PIfs X [c] tc:=fun pins s σ H Q I h=>by
  rw [List.forIn_cons]
  refine wpAny_bind ?_
  rw [if_pos rfl]
  refine wpAny_bind (thn (hc pins s σ H Q I h) fun b s1 q=>wpAny_pure ?_)
  dsimp only
  rw [List.forIn_nil]
  exact wpAny_pure q
theorem compLoopG {prog:Program} {w:World} {A:Around} {R:Result→Shared→Prop} {s:Shared} {elt target iter:Expr} {ifs:List Expr} {scope:Scope} {pos:Pos} {it acc:Value} {env:Env} (I:Nat→Shared→Prop)
    (turn:∀ n s,I n s→wpAny (model prog w) A (pyNext it) (fun r s₁=>match r with
      | none=>R (.ok .next) s₁
      | some v=>wpAny (model prog w) A (letOwnedTupleGo target it v) (fun _ s₁'=>wpAny (model prog w) A (assign target env v) (fun _ s₂ =>
          wpAny (model prog w) A (forIn ifs true fun c r=>if r=true then do let ok ← isTrue c env (eval c env);pure (ForInStep.yield ok) else pure (ForInStep.yield r)) (fun ok s₃ =>
            if ok=true then wpAny (model prog w) A (eval elt env) (fun x s₄ =>
              wpAny (model prog w) A (call (.builtin "list.append") [acc,x]) (fun _ s₅=>∃ m,m < n∧I m s₅) (notedBy (model prog w) A env fun e s'=>R (.error e) s') s₄) (notedBy (model prog w) A env fun e s'=>R (.error e) s') s₃
            else ∃ m,m < n∧I m s₃) (notedBy (model prog w) A env fun e s'=>R (.error e) s') s₂) (notedBy (model prog w) A env fun e s'=>R (.error e) s') s₁') (notedBy (model prog w) A env fun e s'=>R (.error e) s') s₁) (notedBy (model prog w) A env fun e s'=>R (.error e) s') s)
    (n:Nat) (h:I n s):codeAny (model prog w) A (.compLoop (.ListComp elt [⟨target,iter,ifs,0⟩] scope pos) 0 it acc env) R s:=by
  refine codeAny_loop rfl I (fun n s hI=>?_) n h
  show wpAny _ A ((compTurn (.ListComp elt [⟨target,iter,ifs,0⟩] scope pos) 0 it acc env).onRaise (fun x=>do noteFrame x env;theTreesLotGoes x)) _ _ s
  refine wpAny_noted ?_
  rw [compTurn_list]
  refine wpAny_bind (wpAny_standAt (wpAny_bind (wpAny_mono (turn n s hI) (fun r s₁ h₁=>?_) fun _ _ h'=>h')))
  cases r with
  | none=>exact wpAny_pure h₁
  | some v =>
    refine wpAny_bind (wpAny_mono h₁ (fun _ s₁' h₁=>?_) fun _ _ h'=>h')
    refine wpAny_bind (wpAny_mono h₁ (fun _ s₂ h₂=>wpAny_bind (wpAny_mono h₂ (fun ok s₃ h₃=>?_) fun _ _ h'=>h')) fun _ _ h'=>h')
    cases ok with
    | false=>exact wpAny_pure ⟨rfl,h₃⟩
    | true =>
      exact wpAny_bind (wpAny_bind (wpAny_mono h₃ (fun x s₄ h₄=>wpAny_bind (wpAny_mono h₄ (fun _ s₅ h₅=>wpAny_pure (wpAny_pure ⟨rfl,h₅⟩)) fun _ _ h'=>h')) fun _ _ h'=>h'))
noncomputable def tCompG (wi:TI) (g:TG) (tc:TT) (te:TE) (cap:St→St→Prop):TE:=fun σ H Q=>wi σ H fun J H1=>∃ σb:St,cap σ σb∧∀ D,H1 D=none→∃ W:Nat→Nat→St→Hp→Prop,(∃ m,W 0 m σb (upd H1 D (.lst []))) ∧
  ∀ i m σx H,W i m σx H→(J.stop i H∧Q (.ref D) H)∨(J.go i H∧∀ x H',J.yld i H x H'→g x σx H' fun σ2 H2=>tc σ2 H2 fun c H3=>if c=true then te σ2 H3 fun y H4=>∃ ys,H4 D=some (.lst ys)∧ys.length < sizeLine∧∃ m',m' < m∧W (i + 1) m' σ2 (upd H4 D (.lst (ys++[y])))
    else ∃ m',m' < m∧W (i + 1) m' σ2 H3)
section
variable {X:Cx} {elt iter tg:Expr} {ifs:List Expr} {pos:Pos} {scope:Scope} {N':List Str} {cl:List (Str×Addr)} {wi:TI} {g:TG} {te:TE} {tc:TT}
theorem comp_core {cpos:Pos} {use:Option (Value→Sem Unit)} {Qf:Value→Shared→Prop} {pins:List (Addr×Obj)} {s:Shared} {σ:St} {H:Hp} {Q:VK} (hc:X.calm=true) (O:CompOk X N' scope cl) (hi:PI X tg iter wi)
    (hg:∀ (C:Addr) (s₀:Shared) (H₀:Hp) (ex:List Addr) (pn:List (Addr×Obj)) (xe:Value→Shared→Prop),PG (compCx X N' scope cl C s₀ H₀ ex pn xe) tg g)
    (ht:∀ (C:Addr) (s₀:Shared) (H₀:Hp) (ex:List Addr) (pn:List (Addr×Obj)) (xe:Value→Shared→Prop),PIfs (compCx X N' scope cl C s₀ H₀ ex pn xe) ifs tc)
    (he:∀ (C:Addr) (s₀:Shared) (H₀:Hp) (ex:List Addr) (pn:List (Addr×Obj)) (xe:Value→Shared→Prop),PE (compCx X N' scope cl C s₀ H₀ ex pn xe) elt te)
    (hs:∀ x,foldedSetIterable iter X.env x=pure x)
    (hend:∀ (D C:Addr) (s4:Shared) (H3:Hp) (m:Str→Option Value),s4.heap.Ns C m→H3 C=none→X.s₀.heap.objs.size≤C→C≠X.env.locals→(∀ x c,X.env.cells.lookup x=some c→c≠C)→(∀ p∈X.pn++pins,p.1≠C)→(∀ h',Heap.SameBut C s4.heap h'→Inv X pins σ H3 { s4 with heap:=h' })→Q (.ref D) H3→compPost (model X.prog X.w) X.A X.xe use Qf (.ref D) C (.ok .next) s4)
    (I:Inv X pins σ H s) (h:tCompG wi g tc te (Capt X N' scope cl) σ H Q) :
    wpAny (model X.prog X.w) X.A (comprehension (.ListComp elt [⟨tg,iter,ifs,0⟩] scope pos) scope X.env cpos (newList []) false (eval iter X.env) use) Qf X.xe s:=by
  refine wpAny_comprehension_free (use:=use) rfl hs O.clos O.kind O.names (thn (hi pins s σ H _ I h) fun xv s1 h1=>thn h1 fun itv s2 h2=>?_)
  obtain ⟨it,fp,tn,J,H2,e,I2,T,st2,f2,σb,cap,q⟩:=h2
  subst e
  have hfp:∀ b∈fp,b < s2.heap.objs.size:=fun b hb=>by
    obtain ⟨o,ho,_⟩:=T.obj _ _ st2 b hb
    exact Heap.lt_size ho
  refine wpAny_newObj_type (wpAny_newFunctionEnv O.nocell (by intro y hy;simp at hy) (fun h₁ hns₁ hsb₁=>?_) O.kind)
  dsimp only at hns₁ hsb₁ ⊢
  generalize hH2:s2.heap.push { cls:=.type "list",dict:=none,data:=.seq ([]:List Value).toArray }=Hq at hns₁ hsb₁ ⊢
  have hCs:Hq.objs.size=s2.heap.objs.size + 1:=by rw [← hH2,Heap.size_push]
  have hDC:s2.heap.objs.size≠Hq.objs.size:=by omega
  have old:∀ b o,s2.heap.get? b=some o→h₁.get? b=some o:=fun b o e =>
    hsb₁.extBut b o (Nat.ne_of_lt (Nat.lt_trans (Heap.lt_size e) (by rw [hCs];exact Nat.lt_succ_self _))) (Heap.get?_push_of_some _ (hH2 ▸ Heap.get?_push_of_some _ e))
  have hDo:h₁.get? s2.heap.objs.size=some { cls:=.type "list",data:=.seq #[] }:=hsb₁.extBut _ _ hDC (Heap.get?_push_of_some _ (hH2 ▸ Heap.get?_push_size _ rfl))
  obtain ⟨W,⟨m0,w0⟩,turn⟩:=q s2.heap.objs.size (I2.hok.fresh (Nat.le_refl _))
  let R:Result→Shared→Prop:=compPost (model X.prog X.w) X.A X.xe use Qf (.ref s2.heap.objs.size) Hq.objs.size
  let xe:Value→Shared→Prop:=notedBy (model X.prog X.w) X.A (compEnvC scope cl Hq.objs.size X.env) fun e s'=>R (.error e) s'
  have I0:Inv (compCx X N' scope cl Hq.objs.size s2 H2 fp (X.pn++pins) xe) [] σb (upd H2 s2.heap.objs.size (.lst [])) { s2 with heap:=h₁,toks:=s2.toks + ([]:List (Str×Value)).length } :=
    comp_start I2 hc O cap f2 hfp (by omega) (Nat.le_refl _) hDC old hns₁ hDo
  have st0:tn 0 h₁:=T.keep _ _ _ st2 fun b hb o e=>old b o e
  have fr0:∀ b∈fp,upd H2 s2.heap.objs.size (.lst []) b=none:=fun b hb=>by
    rw [upd_ne (Nat.ne_of_lt (hfp b hb))];exact (f2 b hb).1
  have stat:∀ {H':Hp},(∀ b∈fp,H' b=none)→∀ b∈fp,FpOk (compCx X N' scope cl Hq.objs.size s2 H2 fp (X.pn++pins) xe) [] H' b:=fun hn b hb=>by
    obtain ⟨f0,f1,fb,f3,f4,f5⟩:=f2 b hb
    refine ⟨hn b hb,Nat.ne_of_lt (show b < Hq.objs.size from Nat.lt_trans (hfp b hb) (by rw [hCs];exact Nat.lt_succ_self _)),fun z=>?_,.inl hb,fun x c e=>f4 x c (O.sub x c e),fun p hp=>f5 p (by
      have hp:p∈(X.pn++pins)++[]:=hp
      simpa using hp)⟩
    rcases List.mem_cons.mp (I2.stkSub b z) with q | q
    · exact f1 q
    · exact fb q
  have hgg:=hg Hq.objs.size s2 H2 fp (X.pn++pins) xe
  have hb:=he Hq.objs.size s2 H2 fp (X.pn++pins) xe
  have htt:=ht Hq.objs.size s2 H2 fp (X.pn++pins) xe
  have loop:codeAny (model X.prog X.w) X.A (.compLoop (.ListComp elt [⟨tg,iter,ifs,0⟩] scope pos) 0 (.ref it) (.ref s2.heap.objs.size) (compEnvC scope cl Hq.objs.size X.env)) R
      { s2 with heap:=h₁,toks:=s2.toks + ([]:List (Str×Value)).length }:=by
    refine compLoopG (fun n s'=>∃ i σx H',Inv (compCx X N' scope cl Hq.objs.size s2 H2 fp (X.pn++pins) xe) [] σx H' s'∧tn i s'.heap∧(∀ b∈fp,H' b=none)∧W i n σx H') ?_ m0 ⟨0,σb,_,I0,st0,fr0,w0⟩
    rintro n s3 ⟨i,σx,H3,I3,st3,fr3,w3⟩
    rcases turn i n σx H3 w3 with ⟨stop,qn⟩ | ⟨go,step⟩
    · refine thn (T.done (compCx X N' scope cl Hq.objs.size s2 H2 fp (X.pn++pins) xe) rfl rfl rfl hc i [] s3 _ H3 xe I3 (stat fr3) st3 stop) fun r s4 ⟨hr,I4⟩=>?_
      subst hr
      obtain ⟨m,hn,_⟩:=I4.loc
      have hlt2:X.s₀.heap.objs.size≤Hq.objs.size:=by have:=I2.sz;omega
      refine hend s2.heap.objs.size Hq.objs.size s4 H3 m hn I4.free hlt2 ?_ ?_ ?_ (fun h' sb=>comp_end I2 f2 (by omega) I4 sb) qn
      · exact Nat.ne_of_gt (Nat.lt_of_lt_of_le I2.lt (by omega))
      · intro x c e z
        obtain ⟨v,o,ho,_⟩:=I2.cell x c e
        have:=Heap.lt_size ho
        rw [z,hCs] at this
        exact absurd this (Nat.not_lt.mpr (Nat.le_succ _))
      · intro p hp z
        have:=Heap.lt_size (I2.pin p hp).1
        rw [z,hCs] at this
        exact absurd this (Nat.not_lt.mpr (Nat.le_succ _))
    · refine thn (T.item (compCx X N' scope cl Hq.objs.size s2 H2 fp (X.pn++pins) xe) rfl rfl rfl hc i [] s3 _ H3 xe I3 (stat fr3) st3 go) fun r s4 hpq=>?_
      obtain ⟨u,hr,h4⟩:=hpq
      subst hr
      refine (thn h4 fun _ s5 hpq=>?_)
      obtain ⟨y,H5,I5,r5,y5,st5,fr5⟩:=hpq
      have I5':=I5.pinned (stat fr5) (T.obj _ _ st5)
      refine thn (hgg _ s5 _ H5 y u _ I5' r5 (step y H5 y5)) fun _ s6 hpq=>?_
      obtain ⟨σ6,H6,I6,q6⟩:=hpq
      refine thn (htt _ s6 _ H6 _ I6 q6) fun c s7 hpq=>?_
      obtain ⟨H7,I7,q7⟩:=hpq
      cases c with
      | false =>
        rw [if_neg Bool.false_ne_true] at q7 ⊢
        obtain ⟨m',hm,w7⟩:=q7
        refine ⟨m',hm,i + 1,σ6,_,I7.unpinned,T.keep _ _ _ st5 fun b hb o e=>(I7.pin (b,o) (List.mem_append_right _ (List.mem_append_right _ (mem_pinsAt hb e)))).1,fun b hb=>?_,w7⟩
        obtain ⟨o,e,d⟩:=T.obj _ _ st5 b hb
        exact (I7.pin (b,o) (List.mem_append_right _ (List.mem_append_right _ (mem_pinsAt hb e)))).2.1
      | true =>
        rw [if_pos rfl] at q7 ⊢
        refine thn (hb _ s7 _ H7 _ I7 q7) fun z s8 hpq=>?_
        obtain ⟨yv,H8,I8,r8,ys,eD,hz,m',hm,w8⟩:=hpq
        refine thn (mt_append _ s8 _ H8 (.ref s2.heap.objs.size) [yv] (.ref s2.heap.objs.size) [z] (fun _ H9=>H9=upd H8 s2.heap.objs.size (.lst (ys++[yv]))) I8 rfl (.cons r8 .nil) ⟨_,ys,yv,rfl,rfl,eD,hz,rfl⟩) fun _ s9 hpq=>?_
        obtain ⟨_,H9,I9,_,e9⟩:=hpq
        subst e9
        refine ⟨m',hm,i + 1,σ6,_,I9.unpinned,T.keep _ _ _ st5 fun b hb o e=>(I9.pin (b,o) (List.mem_append_right _ (List.mem_append_right _ (mem_pinsAt hb e)))).1,fun b hb=>?_,w8⟩
        obtain ⟨o,e,d⟩:=T.obj _ _ st5 b hb
        exact (I9.pin (b,o) (List.mem_append_right _ (List.mem_append_right _ (mem_pinsAt hb e)))).2.1
  exact codeAny_compStart_list loop (T.self X.A 0 _ _ _ st0 loop)
theorem pe_compG (hc:X.calm=true) (O:CompOk X N' scope cl) (hi:PI X tg iter wi)
    (hg:∀ (C:Addr) (s₀:Shared) (H₀:Hp) (ex:List Addr) (pn:List (Addr×Obj)) (xe:Value→Shared→Prop),PG (compCx X N' scope cl C s₀ H₀ ex pn xe) tg g)
    (ht:∀ (C:Addr) (s₀:Shared) (H₀:Hp) (ex:List Addr) (pn:List (Addr×Obj)) (xe:Value→Shared→Prop),PIfs (compCx X N' scope cl C s₀ H₀ ex pn xe) ifs tc)
    (he:∀ (C:Addr) (s₀:Shared) (H₀:Hp) (ex:List Addr) (pn:List (Addr×Obj)) (xe:Value→Shared→Prop),PE (compCx X N' scope cl C s₀ H₀ ex pn xe) elt te)
    (hs:∀ x,foldedSetIterable iter X.env x=pure x:=by intro _;rfl) :
    PE X (.ListComp elt [⟨tg,iter,ifs,0⟩] scope pos) (tCompG wi g tc te (Capt X N' scope cl)):=by
  intro pins s σ H Q I h
  rw [eval_ListComp]
  exact comp_core (use:=none) (Qf:=EP X pins σ Q) (Q:=Q) (pins:=pins) (σ:=σ) hc O hi hg ht he hs (fun D C s4 H3 m hn _ _ _ _ _ fin qn=>⟨m,hn,fun h' sb=>⟨.ref D,H3,fin h' sb,rfl,qn⟩⟩) I h
theorem ps_setComp {i:Nat} {x:Str} {pos' spos:Pos} (hN:X.N.Nodup) (hx:X.N[i]? = some x) (hl:X.env.scope.names.lookup x=some .local) (hc:X.calm=true) (O:CompOk X N' scope cl) (hi:PI X tg iter wi)
    (hg:∀ (C:Addr) (s₀:Shared) (H₀:Hp) (ex:List Addr) (pn:List (Addr×Obj)) (xe:Value→Shared→Prop),PG (compCx X N' scope cl C s₀ H₀ ex pn xe) tg g)
    (ht:∀ (C:Addr) (s₀:Shared) (H₀:Hp) (ex:List Addr) (pn:List (Addr×Obj)) (xe:Value→Shared→Prop),PIfs (compCx X N' scope cl C s₀ H₀ ex pn xe) ifs tc)
    (he:∀ (C:Addr) (s₀:Shared) (H₀:Hp) (ex:List Addr) (pn:List (Addr×Obj)) (xe:Value→Shared→Prop),PE (compCx X N' scope cl C s₀ H₀ ex pn xe) elt te)
    (hsw:swapsWith (.ListComp elt [⟨tg,iter,ifs,0⟩] scope pos) (some (.Name x pos')) spos.line X.env=pure true:=by rfl) (hs:∀ x,foldedSetIterable iter X.env x=pure x:=by intro _;rfl) :
    PS X (.Assign [.Name x pos'] (.ListComp elt [⟨tg,iter,ifs,0⟩] scope pos) spos) (tAsg (tCompG wi g tc te (Capt X N' scope cl)) (gName i)):=by
  intro pins s σ H D I h
  rw [exec_Assign_Name_used _ _ _ _ hsw]
  refine wpAny_bind (wpAny_standAt (wpAny_bind ?_))
  show wpAny _ X.A (do let _ ← comprehension (.ListComp elt [⟨tg,iter,ifs,0⟩] scope pos) scope X.env _ (newList []) false (eval iter X.env) (some (assign (.Name x pos') X.env))) _ _ s
  refine wpAny_bind (wpAny_mono (comp_core (use:=some (assign (.Name x pos') X.env)) (Qf:=fun _ s'=>SP X pins D .next s') (Q:=fun v H'=>D.nx (σ.set i (some v)) H') (pins:=pins) (σ:=σ) hc O hi hg ht he hs (fun D' C s4 H3 m hn hC hsz hne hcell hpin fin qn=>?_) I h)
    (fun _ s' hq=>wpAny_pure (wpAny_pure hq)) fun _ _ e=>e)
  have I4:Inv X pins σ H3 s4:=fin s4.heap (Heap.SameBut.refl _ _)
  show wpAny _ _ (assign (.Name x pos') X.env (.ref D')) _ _ s4
  refine wpAny_assign_Name ?_
  refine store_ok2 (v:=.ref D') I4 hN hx (Or.inl hl) rfl (fun s5 I5 hpq=>?_) (Or.inr hl)
  obtain ⟨a,sb,ha⟩:=hpq
  have hCa:C≠a:=by
    rcases ha with z | z
    · rw [z];exact hne
    · exact (hcell x a z).symm
  refine ⟨m,hn.sameBut sb hCa,fun h' sb'=>⟨_,H3,?_,qn⟩⟩
  exact I5.turned (t':=s5.toks) (it:=C) (fun b o n e=>(sb'.2 b n).trans e) hC hne (.inr hsz) hcell hpin
end
theorem comp_rngG {tc:TT} {te:TE} {QD:Hp→Prop} {H1:Hp} {D:Addr} {lo:Int} {n iw:Nat} {σb:St} (g:Nat→V) (p:Nat→Bool) (hz:n < sizeLine) (hD:H1 D=none)
    (ht:∀ (i:Nat) (Hx:Hp) (R:Bool→Hp→Prop),i < n→Same H1 Hx→(∀ Hy,Same Hx Hy→R (p i) Hy)→tc (σb.set iw (some (.int (lo + i)))) Hx R)
    (he:∀ (i:Nat) (Hx:Hp) (R:VK),i < n→p i=true→Same H1 Hx→(∀ Hy,Same Hx Hy→R (g i) Hy)→te (σb.set iw (some (.int (lo + i)))) Hx R)
    (q:∀ Hx,Same H1 Hx→Hx D=some (.lst (((List.range n).filter p).map g))→QD Hx) :
    ∃ W:Nat→Nat→St→Hp→Prop,(∃ m,W 0 m σb (upd H1 D (.lst [])))∧∀ i m σx H,W i m σx H→((Itr lo n).stop i H∧QD H)∨((Itr lo n).go i H∧∀ x H',(Itr lo n).yld i H x H'→gName iw x σx H' fun σ2 H2=>tc σ2 H2 fun c H3=>if c=true then te σ2 H3 fun y H4=>∃ ys,H4 D=some (.lst ys)∧ys.length < sizeLine∧∃ m',m' < m∧W (i + 1) m' σ2 (upd H4 D (.lst (ys++[y]))) else ∃ m',m' < m∧W (i + 1) m' σ2 H3):=by
  refine ⟨fun i m σx Hx=>(∀ y,σx.set iw y=σb.set iw y)∧m=n - i∧i≤n∧Same H1 Hx∧Hx D=some (.lst (((List.range i).filter p).map g)),⟨n,fun _=>rfl,rfl,Nat.zero_le _,upd_same2' hD,upd_same⟩,?_⟩
  rintro i m σx Hx ⟨eσ,rfl,hi,sx,xD⟩
  by_cases hlt:i < n
  · refine .inr ⟨hlt,fun x H' hy=>?_⟩
    obtain ⟨rfl,rfl⟩:=hy
    show tc (σx.set iw _) _ _
    rw [eσ]
    have eσ':∀ y,(σb.set iw (some (V.int (lo + i)))).set iw y=σb.set iw y:=fun y=>by rw [List.set_set]
    refine ht i _ _ hlt sx fun Hy sy=>?_
    by_cases hp:p i=true
    · rw [hp]
      refine iteT (he i _ _ hlt hp (fun b o e=>sy _ _ (sx _ _ e)) fun Hz sz=>⟨_,sz _ _ (sy _ _ xD),?_,n - (i + 1),by omega,eσ',rfl,hlt,?_,?_⟩)
      · have:=List.length_filter_le p (List.range i)
        simp at this ⊢;omega
      · intro b o e
        rw [upd_ne (ne_of_none e hD)];exact sz _ _ (sy _ _ (sx _ _ e))
      · rw [upd_same,List.range_succ,List.filter_append,List.map_append]
        simp [hp]
    · have hp:p i=false:=by simpa using hp
      rw [hp]
      refine iteF ⟨n - (i + 1),by omega,eσ',rfl,hlt,fun b o e=>sy _ _ (sx _ _ e),?_⟩
      rw [sy _ _ xD,List.range_succ,List.filter_append]
      simp [hp]
  · have e:i=n:=by omega
    subst e
    exact .inl ⟨Nat.le_refl _,q Hx sx xD⟩
theorem filter_yes {α:Type} (l:List α):l.filter (fun _=>true)=l:=by simp
theorem lk_mem {x:Str} {k:NameKind}:∀ {l:List (Str×NameKind)},l.lookup x=some k→(x,k)∈l
  | [],h=>by cases h
  | (y,j) :: r,h=>by
    rw [List.lookup_cons] at h
    split at h
    · rename_i e
      cases h
      rw [eq_of_beq e]
      exact List.mem_cons_self
    · exact List.mem_cons_of_mem _ (lk_mem h)
theorem lk_has {x:Str} {l:List (Str×NameKind)} {ys:List Str} (h:l.lookup x=some .cell∨l.lookup x=some .free) (e:(l.filter fun p=>p.2 == .cell || p.2 == .free).map (·.1)=ys):x∈ys:=by
  rw [← e]
  rcases h with h | h
  · exact List.mem_map.mpr ⟨_,List.mem_filter.mpr ⟨lk_mem h,rfl⟩,rfl⟩
  · exact List.mem_map.mpr ⟨_,List.mem_filter.mpr ⟨lk_mem h,rfl⟩,rfl⟩
end L2
end
section
namespace L2
open PySem PySem.Spec PyProof.Rows PySem.W PySem.Builtin PySem.Builtin.ObjectAttr PySem.Builtin.Getset_descriptor
noncomputable def bmVE:List Value:=[.type "ValueError",.type "Exception",.type "BaseException",.type "object"]
noncomputable def excKit (K:PySem.W.Frag) (C:Addr):Bool:=excIn K C bmVE "ValueError.__new__" && (clsIn K C).isSome && findIn K (.ref C) "__getattribute__" == some (some (.builtin "BaseException.__getattribute__")) && findIn K (.ref C) "__getattr__" == some none
  && findIn K (.ref C) "__class__" == some (some (.builtin "object.__class__")) && specialIn K (.builtin "object.__class__") "__get__" == some (some (.builtin "getset_descriptor.__get__")) && takesIn K (.builtin "object.__class__") == some true
  && mroIn K C (.type "object") == some true && mroIn K C (.type "BaseException") == some true && typeIn K (.ref C) == some (.type "type")
structure ExcF (K:PySem.W.Frag) (C:Addr):Prop where
  own:excIn K C bmVE "ValueError.__new__" = true
  cls:(clsIn K C).isSome=true
  ga:findIn K (.ref C) "__getattribute__" = some (some (.builtin "BaseException.__getattribute__"))
  gh:findIn K (.ref C) "__getattr__" = some none
  ca:findIn K (.ref C) "__class__" = some (some (.builtin "object.__class__"))
  sp:specialIn K (.builtin "object.__class__") "__get__" = some (some (.builtin "getset_descriptor.__get__"))
  tk:takesIn K (.builtin "object.__class__")=some true
  mo:mroIn K C (.type "object")=some true
  mb:mroIn K C (.type "BaseException")=some true
  ty:typeIn K (.ref C)=some (.type "type")
theorem excF_of {K:PySem.W.Frag} {C:Addr} (e:excKit K C=true):ExcF K C:=by
  unfold excKit at e
  simp only [Bool.and_eq_true,beq_iff_eq] at e
  obtain ⟨⟨⟨⟨⟨⟨⟨⟨⟨a,b⟩,c⟩,d⟩,f⟩,g⟩,h⟩,i⟩,j⟩,k⟩:=e
  exact ⟨a,b,c,d,f,g,h,i,j,k⟩
noncomputable def ExAt (e C:Addr) (h:Heap):Prop:=∃ oe vs,h.get? e=some oe∧oe.cls = .ref C∧oe.data = .fields vs
section
variable {K:PySem.W.Frag} {M:Model} {h:Heap} {x C:Addr}
theorem ExAt.type (I:ExAt x C h):Looks M h (typeOf (.ref x)) (.ref C):=by
  obtain ⟨oe,vs,h1,h2,_⟩:=I
  exact h2 ▸ (Looks.ld h1).andThen .now
theorem looks_findD {name:Str} {a g:Value} (X:K.In h) (ha:findIn K (.ref C) name=some (some a)) (hg:specialIn K a "__get__" = some (some g)) (ht:takesIn K a=some true):Looks M h (find (.ref x) (.ref C) name) (.bind g a) :=
  (looks_findIn (M:=M) X ha).andThen ((show Looks M h (getOf (some a)) (some g) from looks_specialIn X hg).andThen ((show Looks M h (dataDescriptor? (some a) (some g)) (some (g,a)) from (looks_takesIn (M:=M) X ht).andThen .now).andThen (Looks.tag .now)))
end
section
variable {prog:Program} {w:World} {A:Around} {E:Value→Shared→Prop} {s:Shared} {K:PySem.W.Frag} {x C:Addr}
theorem class_getE {tp:Value} {R:Result→Shared→Prop} (X:K.In s.heap) (I:ExAt x C s.heap) (hm:mroIn K C (.type "object")=some true)
    (h:R (.ok (.ret (.ref C))) s):codeAny (model prog w) A (.call (.builtin "getset_descriptor.__get__") ⟨[.builtin "object.__class__",.ref x,tp],[]⟩) R s:=by
  obtain ⟨hh,g,dr,t,os⟩:=s
  have L0:=I.type (M:=model prog w)
  have L1:=looks_mroIn (M:=model prog w) X hm
  refine codeAny_call_builtin KF.slot_gs.plain KF.entry_gs (KF.slot_gs.check _ _ _ _ _ _ _ _ KF.type_class (KF.args_gs _ _ _) ?_)
  unfold Builtin.«getset_descriptor.__get__» descrGet
  rw [dga_obj]
  refine wpAny_bind (wpAny_pure ?_)
  unfold descrGetter descrCheckInstance descrNameAndClass isInstance
  simp only [KF.owner_class]
  repeat lk
  refine ⟨Code.quiet_builtin _ (by decide +kernel),codeAny_builtin KF.entry_class ?_⟩
  unfold Builtin.«object.__class__» shownTypeOf
  repeat lk
  exact h
theorem check_gaE {M:Model} {nameV:Value} {Q:Unit→Shared→Prop} (X:K.In s.heap) (I:ExAt x C s.heap) (hm:mroIn K C (.type "BaseException")=some true) (hq:Q () s) :
    wpAny M A (checkBuiltinCall "BaseException.__getattribute__" ⟨[.ref x,nameV],[]⟩) Q E s:=by
  have hk:builtinKind "BaseException.__getattribute__" = some .slot:=by decide +kernel
  have hsplit:splitId "BaseException.__getattribute__" = some ("BaseException","__getattribute__"):=by decide +kernel
  have ha:=PySem.F.args_bexc_ga (.ref x) nameV
  have L0:=I.type (M:=M)
  have L1:=looks_mroIn (M:=M) X hm
  have LI:Looks M s.heap (isInstance (.ref x) (.type "BaseException")) true:=L0.andThen L1
  obtain ⟨hh,g,dr,t,os⟩:=s
  simp only [checkBuiltinCall,hk,hsplit]
  refine wpAny_bind (LI.at ?_)
  repeat (any_goals (first | assumption | wp_step))
theorem exc_class {Q:Option Value→Shared→Prop} (F:ExcF K C) (X:K.In s.heap) (I:ExAt x C s.heap) (h:Q (some (.ref C)) { s with toks:=s.toks + 1 }):wpAny (model prog w) A (getAttr? (.ref x) "__class__") Q E s:=by
  obtain ⟨hh,g,d,t,os⟩:=s
  have L0:=I.type (M:=model prog w)
  have L1:=looks_findIn (M:=model prog w) X F.ga
  have L2:=looks_findIn (M:=model prog w) X F.gh
  have L3:Looks (model prog w) hh (find (.ref x) (.ref C) "__class__") _:=looks_findD X F.ca F.sp F.tk
  unfold getAttr? getAttrBy? getAttrBy
  refine wpAny_bind (wpAny_mkText (wpAny_bind (wpAny_attempt (wpAny_holding (wpAny_bind (L0.at (wpAny_bind (L1.at ?_))))))))
  show wpAny _ _ (if (onTheHeap (Value.ref C) && Value.builtin "BaseException.__getattribute__" == Value.builtin "object.__getattribute__")=true then _ else _) _ _ _
  rw [if_neg (by
    have q:(Value.builtin "BaseException.__getattribute__" == Value.builtin "object.__getattribute__")=false:=by decide
    rw [q,Bool.and_false];exact Bool.false_ne_true)]
  unfold getAttrByItsOwn hookBefore
  rw [if_pos (by rfl)]
  refine wpAny_bind (L2.at ?_)
  refine wpAny_bind (wpAny_attempt (wpAny_holding ?_))
  unfold callGetattribute
  rw [if_neg (by decide)]
  unfold boundAndCalled
  refine wpAny_bind (wpAny_of_eq (PySem.F.excAttr_ValueError.ga.bind (.ref x)) ?_)
  refine wpAny_call (codeAny_call_builtin PySem.F.excAttr_ValueError.ga.plain PySem.F.entry_bexc_ga (check_gaE (s:=⟨hh,g,d,t + 1,os⟩) X I F.mb ?_))
  unfold Builtin.«object.__getattribute__»
  refine wpAny_bind (wpAny_pure ?_)
  dsimp only
  refine wpAny_bind (wpAny_pure ?_)
  refine wpAny_bind (L0.at ?_)
  refine wpAny_bind (L3.at ?_)
  dsimp only
  show wpAny _ _ (holding [Value.builtin "object.__class__"] (call (Value.builtin "getset_descriptor.__get__") [Value.builtin "object.__class__",Value.ref x,Value.ref C]) >>= ret) _ _ _
  refine wpAny_bind (wpAny_holding (wpAny_call (class_getE (s:=⟨hh,g,d,t + 1,os⟩) X I F.mo (wpAny_pure ?_))))
  exact handed_on rfl (wpAny_pure h)
theorem kitx_exc (F:ExcF K C):KitX K (.ref x) (.ref C) (ExAt x C) where
  ty:=fun _ _ _ I=>I.type
  it:=fun _ _ X _=>by
    have hcD:=F.cls
    unfold clsIn at hcD
    split at hcD
    · rename_i c' d' cd' sl' ho
      intro A' Q' E' s' k q
      unfold isType loadHead
      exact wpAny_bind (wpAny_loadPart (k _ _ (X _ _ ho)) (wpAny_pure q))
    · cases hcD
  ne:=fun h tp dd its n sl X htp=>by
    have hcD:=F.cls
    refine Bool.eq_false_iff.mpr fun q=>?_
    have e:C=tp:=Value.ref.inj (beq_iff_eq.mp q)
    subst e
    unfold clsIn at hcD
    split at hcD
    · rename_i c' d' cd' sl' ho
      have z:=(X _ _ ho).symm.trans htp
      cases z
    · cases hcD
  ca:=fun X I k=>exc_class F X I k
theorem isi_exc {c:Value} {b:Bool} {Q:Value→Shared→Prop} (F:ExcF K C) (X:K.In s.heap) (I:ExAt x C s.heap) (e:kitOne K (.ref C) c=some b) (h:∀ tk,Q (.bool b) { s with toks:=tk }) :
    wpAny (model prog w) A (call (.builtin "isinstance") [.ref x,c]) Q E s:=kia_one (kitx_exc F) X I e (fun z=>nomatch z) h
end
end L2
end
section
namespace L2
open PySem PySem.Spec PyProof.Rows
section
variable {X:Cx} {e e1 e2:Expr} {es:List Expr} {te:TE} {pos:Pos}
noncomputable def PJ (X:Cx) (es:List Expr) (t:Str→TE):Prop :=
  ∀ (pins:List (Addr×Obj)) (s:Shared) (σ:St) (H:Hp) (acc:Str) (Q:VK),Inv X pins σ H s→t acc σ H Q→wpAny (model X.prog X.w) X.A (joinParts acc (evalEach es X.env)) (EP X pins σ Q) X.xe s
noncomputable def jNil:Str→TE:=fun acc _ H Q=>acc.length≤sizeLine∧Q (.str acc) H
noncomputable def jCons (te:TE) (t:Str→TE):Str→TE:=fun acc σ H Q=>te σ H fun v H1=>∃ y,v = .str y∧(acc++y).length≤sizeLine∧t (acc++y) σ H1 Q
theorem pj_nil:PJ X [] jNil:=fun pins s σ H acc Q I h=>joinParts_nil ⟨.str acc,H,I.tok _,⟨_,rfl⟩,h.2⟩ h.1
theorem pj_cons {t:Str→TE} (he:PE X e te) (hr:PJ X es t) (hs:evalEach (e :: es) X.env=eval e X.env :: evalEach es X.env:=by rfl):PJ X (e :: es) (jCons te t):=by
  intro pins s σ H acc Q I h
  rw [hs]
  refine joinParts_cons (thn (he pins s σ H _ I h) fun v s1 hpq=>?_)
  obtain ⟨x,H1,I1,r1,y,e,z,q⟩:=hpq
  subst e
  obtain ⟨t,rfl⟩:=r1
  exact ⟨z,hr pins s1 σ H1 _ _ I1 q⟩
theorem pe_join {t:Str→TE} (h:PJ X (e1 :: e2 :: es) t):PE X (.JoinedStr (e1 :: e2 :: es) pos) (t Str.empty):=fun pins s σ H Q I hq=>JoinedStr_many (h pins s σ H _ Q I hq)
noncomputable def tFmt (te:TE):TE:=fun σ H Q=>te σ H fun v H1=>(∃ y,v = .str y∧y.length≤sizeLine∧Q (.str y) H1)∨∃ i:Int,v = .int i∧i.natAbs.log2 < 1920∧Q (.str (toString i)) H1
theorem pe_fmt (he:PE X e te):PE X (.FormattedValue e (-1) none pos) (tFmt te):=by
  intro pins s σ H Q I h
  refine wpAny_FormattedValue_plain (thn (he pins s σ H _ I h) fun v s1 hpq=>?_)
  obtain ⟨x,H1,I1,r1,q⟩:=hpq
  rcases q with ⟨y,rfl,z,q⟩ | ⟨i,rfl,z,q⟩
  · obtain ⟨t,rfl⟩:=r1
    exact formatField_str (fun t' tk=>⟨.str y,H1,I1.tok _,⟨_,rfl⟩,q⟩) z
  · obtain ⟨t,rfl⟩:=r1
    exact formatField_int_small z ⟨.str (toString i),H1,I1.tok _,⟨_,rfl⟩,q⟩
noncomputable def tRep (te:TE):TE:=fun σ H Q=>te σ H fun v H1=>∃ y,v = .str y∧y.length≤1000∧(∀ c∈y.cps.toList,c < 16 ^ 8)∧∀ z:Str,z.length≤10002→Q (.str z) H1
theorem pe_fmtR (he:PE X e te):PE X (.FormattedValue e 114 none pos) (tRep te):=by
  intro pins s σ H Q I h
  refine wpAny_FormattedValue_repr (thn (he pins s σ H _ I h) fun v s1 hpq=>?_)
  obtain ⟨x,H1,I1,r1,y,e,z,hc,q⟩:=hpq
  subst e
  obtain ⟨t,rfl⟩:=r1
  have hl:=PySem.StrLaws.reprText_len y hc
  have hz:=sizeLine_eq
  refine pyReprObj_str ?_ (by omega)
  exact formatField_str (fun t' tk=>⟨.str (reprText y),H1,I1.tok _,⟨_,rfl⟩,q _ (by omega)⟩) (by omega)
end
structure Fly (P:Program) (w:World) (outer:List Env) (H H':Hp) (s s':Shared) (a C:Addr):Prop where
  os:s'.os=s.os
  bare:AllBare s'.gens
  un:Un (frs outer) [] H H' s.heap s'.heap
  hok:HOk P w H' s'.heap
  no:H' a=none
  new:s.heap.get? a=none
  fl:∃ B a0,Heap.FlyingW B outer a (.ref C) a0 s'.heap∧∀ b o,s'.heap.get? b=some o→b ∉ frs outer→(H' b≠none∨s.heap.get? b≠none)→B.get? b=some o
noncomputable def CXE (P:Program) (w:World):CXT:=fun outer H s E e s'=>∃ a C H',e = .ref a∧Fly P w outer H H' s s' a C∧E (.ref C) none H'
theorem objThere {P:Program} {w:World} {H:Hp} {h:Heap} {a:Addr} {o:HO} (x:ObjOk P w H h a o):∃ u,h.get? a=some u:=by
  cases o with
  | lst xs=>obtain ⟨_,_,_,_,e⟩:=x;exact ⟨_,e⟩
  | tup xs=>obtain ⟨_,_,_,o,e,_⟩:=x;exact ⟨o,e⟩
  | dK kvs=>obtain ⟨_,_,_,_,o,_,_,e,_⟩:=x;exact ⟨o,e⟩
  | dT kvs=>obtain ⟨_,_,_,_,o,_,_,e,_⟩:=x;exact ⟨o,e⟩
  | set S n=>obtain ⟨o,_,_,_,e,_⟩:=x;exact ⟨o,e⟩
  | ins C dx fs=>obtain ⟨_,_,_,e,_⟩:=x;exact ⟨_,e⟩
  | own y=>exact x
  | xd fs=>obtain ⟨_,⟨o,_,_,e,_⟩,_⟩:=x;exact ⟨o,e⟩
  | rng lo hi=>obtain ⟨_,_,_,e⟩:=x;exact ⟨_,e⟩
  | frz ob u=>obtain ⟨e,_⟩:=x;exact ⟨_,e⟩
  | tbl ps=>exact ⟨_,(show h.get? a=some _ from x)⟩
  | met f y=>exact ⟨_,(show h.get? a=some _ from x)⟩
  | ext φ=>exact x.2.1
theorem hok_by {P:Program} {w:World} {H:Hp} {h h':Heap} (ok:HOk P w H h) (k:∀ b o,H b≠none→h.get? b=some o→h'.get? b=some o):HOk P w H h':=fun b u e =>
  (ok b u e).stay (fun c v hc q=>k c v (by
    rcases hc with z | z
    · rw [z,e];exact fun y=>nomatch y
    · rw [z];exact fun y=>nomatch y) q) (fun _ q=>q) fun _ _ q=>q
section
variable {X:Cx} {pins:List (Addr×Obj)} {σ:St} {H H':Hp} {s s':Shared}
theorem fly_on {h' B:Heap} {a C:Addr} {a0:Value} (I:Inv X pins σ H s) (I':Inv X pins σ H' s') (hex:X.ex=[]) (hst:X.stack=X.env :: X.outer) (hf:X.env.frame=some X.env.locals)
    (sm:s'.heap.UpToSlots h') (fl:Heap.FlyingW B X.outer a (.ref C) a0 h') (cov:∀ b o,s'.heap.get? b=some o→b ∉ frs X.stack→(H' b≠none∨s.heap.get? b≠none)→B.get? b=some o) (no:H' a=none) (new:s.heap.get? a=none) :
    Fly X.prog X.w X.outer X.H₀ H' X.s₀ { s' with heap:=h' } a C:=by
  have old:∀ b o,X.s₀.heap.get? b=some o→s.heap.get? b≠none:=fun b o e=>by
    obtain ⟨o',q⟩:=I.base.there b o e (by rw [hex];simp)
    rw [q];exact fun y=>nomatch y
  have noL:∀ b o,X.s₀.heap.get? b=some o→b≠X.env.locals:=fun b o e=>Nat.ne_of_lt (Nat.lt_of_lt_of_le (Heap.lt_size e) I.ok.above)
  have inS:∀ b,b∈frs X.stack↔b=X.env.locals∨b∈X.fs:=fun b=>by
    rw [hst]
    unfold frs
    rw [List.filterMap_cons,hf]
    exact List.mem_cons
  have kp:∀ b o,s'.heap.get? b=some o→b ∉ frs X.stack→(H' b≠none∨s.heap.get? b≠none)→h'.get? b=some o:=fun b o e nb q=>fl.1 _ _ (cov b o e nb q)
  have trk:∀ b,H' b≠none→b ∉ frs X.stack:=fun b hb z=>hb (I'.stkFree b z)
  refine ⟨I'.os,I'.bare,⟨fun b o e n hb hx=>?_,fun b o e n hb hx=>?_,fun b o e n hx=>?_,fun b o e hx=>?_,I'.base.tups,I'.base.frzs,I'.base.tbls⟩,hok_by I'.hok fun b o hb e=>kp b o e (trk b hb) (.inl hb),no,?_,B,a0,fl,fun b o e nb q=>?_⟩
  · have e1:=I'.base.keep b o e n hb (by rw [hex];simp)
    exact kp b o e1 (fun z=>((inS b).mp z).elim (noL b o e) hb) (.inr (old b o e))
  · obtain ⟨sl,e1⟩:=I'.base.slot b o e n hb (by rw [hex];simp)
    obtain ⟨_,o',e2,nf⟩:=I'.funs.mem hb
    rw [e1] at e2
    cases e2
    obtain ⟨sl',e3⟩:=sm b _ e1 nf
    exact ⟨sl',e3⟩
  · exact I'.base.free b o e n (by rw [hex];simp)
  · obtain ⟨o',e1⟩:=I'.base.there b o e (by rw [hex];simp)
    by_cases hb:b∈X.fs
    · obtain ⟨_,o2,e2,nf⟩:=I'.funs.mem hb
      obtain ⟨sl',e3⟩:=sm b _ e2 nf
      exact ⟨_,e3⟩
    · exact ⟨o',kp b o' e1 (fun z=>((inS b).mp z).elim (noL b o e) hb) (.inr (old b o e))⟩
  · cases z:X.s₀.heap.get? a with
    | none=>rfl
    | some o=>exact absurd new (old a o z)
  · rcases q with q | q
    · cases z:H' b with
      | none=>exact absurd z q
      | some u =>
        obtain ⟨o',e1⟩:=objThere (I'.hok b u z)
        have e2:=cov b o' e1 (trk b q) (.inl q)
        have e3:=fl.1 _ _ e2
        rw [e] at e3
        cases e3
        exact e2
    · cases z:X.s₀.heap.get? b with
      | none=>exact absurd z q
      | some o1 =>
        obtain ⟨o',e1⟩:=I'.base.there b o1 z (by rw [hex];simp)
        have ns:b ∉ frs X.stack:=fun y=>((inS b).mp y).elim (noL b o1 z) nb
        have e2:=cov b o' e1 ns (.inr (old b o1 z))
        have e3:=fl.1 _ _ e2
        rw [e] at e3
        cases e3
        exact e2
end
section
variable {P:Program} {w:World} {K:PySem.W.Frag} {mg:Str→Option Value} {base:Heap} {N:List Str} {qual:Str} {scope:Scope} {f:Addr} {cd:Value} {A:Around} {outer:List Env} {s₀:Shared} {H₀:Hp} {E:XK}
theorem passE:Passes (CXE P w) (cxOf (CXE P w) P w K mg base N qual scope f cd A outer s₀ H₀ E) E:=by
  intro pins σ H s e s' I h
  obtain ⟨a,C,H',rfl,F,q⟩:=h
  obtain ⟨B,a0,hf,cov⟩:=F.fl
  have I':=I.call' F.os F.un F.hok F.bare (fun b z=>absurd z (by simp))
  refine wpAny_leaves_onW (I.ok.frames) rfl hf fun h'' hf' sm=>?_
  exact ⟨a,C,H',rfl,fly_on I I' rfl rfl rfl sm hf' cov F.no F.new,q⟩
structure ExcAt (K:PySem.W.Frag) (mg:Str→Option Value) (x:Str) (C:Addr):Prop where
  m:mg x=some (.ref C)
  f:ExcF K C
  n:PySem.W.nsIn K mainGlobals x=some (some (.ref C))
theorem excAt_mk {h:Heap} {x:Str} {C:Addr} (X:K.In h) (G:h.Ns mainGlobals mg) (a:PySem.W.nsIn K mainGlobals x=some (some (.ref C))) (b:excKit K C=true):ExcAt K mg x C:=⟨PySem.W.mg_of X G a,excF_of b,a⟩
noncomputable abbrev ExcIs (K:PySem.W.Frag) (C:Addr) (v:Value) (b:Bool):Prop:=PySem.W.kitOne K (.ref C) v=some b
theorem ExcAt.own' {h:Heap} {x:Str} {C:Addr} (F:ExcAt K mg x C) (M:Mod K mg h):∃ bm N nm q bs hdct sn sub ab col dd k0 k1 k2 k3 k5 mN,h.get? C=some (excClassObj nm q C N bs bm hdct sn sub ab col dd k0 k1 k2 k3 k5 "ValueError.__new__")∧h.Ns N mN∧mN "__init__" = none∧OwnTail h bmVE bm:=by
  obtain ⟨mb,hb,hm⟩:=M.blt
  exact (PySem.W.own_of_in (p:=default) (loose:=h.nsKeys mainGlobals) M.kin ⟨M.glob,hb,M.nolimit,hm,fun y _ hy _ _ _=>by rw [M.glob.eq_nsMap];exact Heap.nsMap_none hy⟩ F.n F.f.own).obj
end
noncomputable def tRaise (C:Addr) (E:XK) (t:TA):TS:=fun _ σ H=>t σ H fun vs H1=>vs.length≤sizeLine∧E (.ref C) none H1
section
variable {P:Program} {w:World} {K:PySem.W.Frag} {mg:Str→Option Value} {base:Heap} {N:List Str} {qual:Str} {scope:Scope} {f C:Addr} {cd:Value} {A:Around} {outer:List Env} {s₀:Shared} {H₀:Hp} {E:XK} {x:Str} {np cpos pos:Pos} {e:Expr} {es:List Expr} {t:TA}
theorem ps_raise (hr:(A.deeper (envOfC qual scope s₀.heap.objs.size f cd)).handled=none) (O:ExcAt K mg x C) (hg:Gl (cxOf (CXE P w) P w K mg base N qual scope f cd A outer s₀ H₀ E) x) (ha:PA (cxOf (CXE P w) P w K mg base N qual scope f cd A outer s₀ H₀ E) (e :: es) t)
    (hdb:(x == ("__debug__":Str))=false:=by decide)
    (he:starEach (e :: es) (envOfC qual scope s₀.heap.objs.size f cd)=(false,eval e (envOfC qual scope s₀.heap.objs.size f cd)) :: starEach es (envOfC qual scope s₀.heap.objs.size f cd):=by rfl) (hpl:(backTo cpos (starEach es (envOfC qual scope s₀.heap.objs.size f cd))).any (·.1)=false:=by rfl) :
    PS (cxOf (CXE P w) P w K mg base N qual scope f cd A outer s₀ H₀ E) (.Raise (some (.Call (.Name x np) (e :: es) [] cpos)) none pos) (tRaise C E t):=by
  intro pins s σ H D I h
  obtain ⟨bm,N',nm,q,bs,hdct,sn,sub,ab,col,dd,k0,k1,k2,k3,k5,mN,hC,hN,hni,T⟩:=O.own' I.mod
  refine wpAny_Raise_call_subT (C:=C) (nm:=nm) (q:=q) (N:=N') (bs:=bs) (bm:=bm) (hdct:=hdct) (sn:=sn) (sub:=sub) (ab:=ab) (col:=col) (dd:=dd) (k0:=k0) (k1:=k1) (k2:=k2) (k3:=k3) (k5:=k5)
    PySem.F.excBase_ValueError (mN:=mN) (T.hasType PySem.F.excBase_ValueError.hasBase) hr (by show (backTo cpos (starEach (e :: es) (envOfC qual scope s₀.heap.objs.size f cd))).any (·.1)=false;rw [he];show (false || (backTo cpos (starEach es (envOfC qual scope s₀.heap.objs.size f cd))).any (·.1))=false;rw [hpl];rfl) hni (ld_glob I hg O.m ⟨rfl,?_⟩ hdb)
  have hs:=ha cpos pins s σ H _ I h
  have hs:wpAny (model P w) (A.deeper (envOfC qual scope s₀.heap.objs.size f cd)) (spliced (backTo cpos (starEach (e :: es) (envOfC qual scope s₀.heap.objs.size f cd)))) _ _ s:=hs
  show wpAny (model P w) (A.deeper (envOfC qual scope s₀.heap.objs.size f cd)) (evalArgs _ true (backTo cpos (starEach (e :: es) (envOfC qual scope s₀.heap.objs.size f cd))) []) _ _ s
  rw [he] at hs ⊢
  refine Calls.evalArgs_plain (wpAny_mono hs (fun vs s2 h2=>?_) fun _ _ y=>y)
  obtain ⟨xs,H2,I2,r2,hl,hE⟩:=h2
  refine ⟨rfl,by show vs.length≤_;rw [← r2.length];exact hl,I2.bk _ _ hC,hN.keeps I2.bk,T.keeps I2.bk,fun h' a hm=>?_⟩
  have hstk:frs (envOfC qual scope s₀.heap.objs.size f cd :: outer)=s₀.heap.objs.size :: frs outer:=rfl
  have hfun:=I2.stack
  have hin:∀ env∈(envOfC qual scope s₀.heap.objs.size f cd :: outer),∀ b,env.frame=some b→b∈frs (envOfC qual scope s₀.heap.objs.size f cd :: outer):=fun env he b hb=>List.mem_filterMap.mpr ⟨env,he,hb⟩
  have hfun':s2.heap.FunFrames (PySem.W.hideAll s2.heap (frs (envOfC qual scope s₀.heap.objs.size f cd :: outer))) (envOfC qual scope s₀.heap.objs.size f cd :: outer):=PySem.W.funFrames_hide hfun hin
  refine wpAny_leaves_madeW (h:=s2.heap) (I2.ok.frames) rfl (fun b o q=>PySem.W.of_hideAll _ q) hfun' hm fun h'' t fl _ _ sm=>?_
  have I3:Inv (cxOf (CXE P w) P w K mg base N qual scope f cd A outer s₀ H₀ E) pins σ H2 { s2 with heap:=h' }:=I2.kept (t':=s2.toks) hm.keeps
  have na:H2 a=none:=by
    cases z:H2 a with
    | none=>rfl
    | some u =>
      obtain ⟨o,e⟩:=objThere (I2.hok a u z)
      rw [hm.new] at e;cases e
  refine ⟨a,C,H2,rfl,fly_on I2 I3 rfl rfl rfl sm fl (fun b o e nb q=>?_) na hm.new,hE⟩
  obtain ⟨o',e1⟩:∃ o',s2.heap.get? b=some o':=by
    rcases q with q | q
    · cases z:H2 b with
      | none=>exact absurd z q
      | some u=>exact objThere (I2.hok b u z)
    · cases z:s2.heap.get? b with
      | none=>exact absurd z q
      | some o'=>exact ⟨o',rfl⟩
  have e2:=hm.keeps _ _ e1
  have e:h'.get? b=some o:=e
  rw [e2] at e
  cases e
  exact PySem.W.hideAll_get _ e1 nb
end
end L2
end
section
namespace L2
open PySem PySem.Spec PyProof.Rows
theorem fly_move {P:Program} {w:World} {outer:List Env} {H H':Hp} {s s':Shared} {a C:Addr} {B h6:Heap} {a0 a1:Value} (F:Fly P w outer H H' s s' a C)
    (fl:Heap.FlyingW B outer a (.ref C) a0 s'.heap) (cov:∀ b o,s'.heap.get? b=some o→b ∉ frs outer→(H' b≠none∨s.heap.get? b≠none)→B.get? b=some o)
    (fl6:Heap.FlyingW B outer a (.ref C) a1 h6) (sm:s'.heap.UpToSlots h6) (trk:∀ b∈frs outer,H' b=none):Fly P w outer H H' s { s' with heap:=h6 } a C:=by
  have kp:∀ b o,s'.heap.get? b=some o→b ∉ frs outer→(H' b≠none∨s.heap.get? b≠none)→h6.get? b=some o:=fun b o e nb q=>fl6.1 _ _ (cov b o e nb q)
  have ne:∀ {b:Addr} {o:Obj},s.heap.get? b=some o→s.heap.get? b≠none:=fun e=>by rw [e];exact fun y=>nomatch y
  refine ⟨F.os,F.bare,⟨fun b o e n hb hx=>?_,fun b o e n hb hx=>?_,fun b o e n hx=>F.un.free b o e n hx,fun b o e hx=>?_,F.un.tups,F.un.frzs,F.un.tbls⟩,hok_by F.hok fun b o hb e=>kp b o e (fun z=>hb (trk b z)) (.inl hb),F.no,F.new,B,a1,fl6,fun b o e nb q=>?_⟩
  · exact kp b o (F.un.keep b o e n hb hx) hb (.inr (ne e))
  · obtain ⟨sl,e1⟩:=F.un.slot b o e n hb hx
    obtain ⟨_,o',e2,nf⟩:=fl.2.2.1.mem hb
    rw [e1] at e2
    cases e2
    obtain ⟨sl',e3⟩:=sm b _ e1 nf
    exact ⟨sl',e3⟩
  · obtain ⟨o',e1⟩:=F.un.there b o e hx
    by_cases hb:b∈frs outer
    · obtain ⟨_,o2,e2,nf⟩:=fl.2.2.1.mem hb
      obtain ⟨sl',e3⟩:=sm b _ e2 nf
      exact ⟨_,e3⟩
    · exact ⟨o',kp b o' e1 hb (.inr (ne e))⟩
  · obtain ⟨o',e1⟩:∃ o',s'.heap.get? b=some o':=by
      rcases q with q | q
      · cases z:H' b with
        | none=>exact absurd z q
        | some u=>exact objThere (F.hok b u z)
      · cases z:s.heap.get? b with
        | none=>exact absurd z q
        | some o1=>exact F.un.there b o1 z (by simp)
    have e2:=cov b o' e1 nb q
    have e3:=fl6.1 _ _ e2
    have e:h6.get? b=some o:=e
    rw [e] at e3
    cases e3
    exact e2
noncomputable abbrev Cx.with2 (X:Cx) (pn:List (Addr×Obj)) (xe:Value→Shared→Prop):Cx:={ X with pn:=pn,xe:=xe }
noncomputable abbrev Cx.suite (X:Cx) (pn:List (Addr×Obj)) (a:Addr):Cx:={ X with A:=X.A.mark (some (.ref a)),calm:=false,pn:=pn,xe:=fun _ _=>False }
theorem Cx.Ok.with2 {X:Cx} (ok:X.Ok) (pn:List (Addr×Obj)) (xe:Value→Shared→Prop):(X.with2 pn xe).Ok :=
  ⟨ok.mod,ok.kind,ok.glob,ok.blt,ok.above,ok.inj,ok.has,ok.cab,ok.hd,ok.frames,ok.stk,ok.exf,ok.bs,ok.bsz,ok.noex,ok.exfs,ok.funs,ok.frf⟩
theorem Cx.Ok.suite {X:Cx} (ok:X.Ok) (pn:List (Addr×Obj)) (a:Addr):(X.suite pn a).Ok :=
  ⟨ok.mod,ok.kind,ok.glob,ok.blt,ok.above,ok.inj,ok.has,ok.cab,fun z=>(Bool.false_ne_true z).elim,ok.frames,ok.stk,ok.exf,ok.bs,ok.bsz,ok.noex,ok.exfs,ok.funs,ok.frf⟩
section
variable {X:Cx} {pins pn:List (Addr×Obj)} {σ:St} {H:Hp} {s:Shared} {xe:Value→Shared→Prop}
theorem Inv.with2 (I:Inv X pins σ H s) (xe:Value→Shared→Prop):Inv (X.with2 (X.pn++pins) xe) [] σ H s :=
  ⟨I.ok.with2 _ _,I.os,I.bare,I.base,I.loc,I.cell,I.free,I.freeC,fun p hp=>I.pin p (by simpa using hp),I.hok,I.len⟩
theorem Inv.unwith2 {pins':List (Addr×Obj)} (ok:X.Ok) (I:Inv (X.with2 (X.pn++pins) xe) pins' σ H s):Inv X pins σ H s :=
  ⟨ok,I.os,I.bare,I.base,I.loc,I.cell,I.free,I.freeC,fun p hp=>I.pin p (List.mem_append_left _ hp),I.hok,I.len⟩
theorem Inv.suite (I:Inv X pins σ H s) (a:Addr) (oe:Obj) (h1:s.heap.get? a=some oe) (h2:H a=none) (h3:a≠X.env.locals) (h4:a ∉ X.fs) (h5:∀ v,oe.data≠.cell v):Inv (X.suite ((a,oe) :: (X.pn++pins)) a) [] σ H s :=
  ⟨I.ok.suite _ _,I.os,I.bare,I.base,I.loc,I.cell,I.free,I.freeC,fun p hp=>by
    have hp:p∈(a,oe) :: (X.pn++pins):=by simpa using hp
    rcases List.mem_cons.mp hp with rfl | hp
    · exact ⟨h1,h2,h3,h4,h5⟩
    · exact I.pin p hp,I.hok,I.len⟩
theorem Inv.unsuite {a:Addr} {oe:Obj} (ok:X.Ok) (I:Inv (X.suite ((a,oe) :: (X.pn++pins)) a) [] σ H s):Inv X pins σ H s :=
  ⟨ok,I.os,I.bare,I.base,I.loc,I.cell,I.free,I.freeC,fun p hp=>I.pin p (by simpa using Or.inr (by simpa using hp)),I.hok,I.len⟩
theorem goes_ok {M:Model} {A:Around} {E:Value→Shared→Prop} {i:Nat} {n:Str} {pos:Pos} {Q:Unit→Shared→Prop} (I:Inv X pins σ H s) (hN:X.N.Nodup) (hi:X.N[i]? = some n) (hk:X.env.scope.names.lookup n=some .local)
    (h:∀ s',Inv X pins (σ.set i none) H s'→Q () s'):wpAny M A (do bindName X.env n .none;unbindBehindTheSuite X.env n pos) Q E s:=by
  obtain ⟨m,hn,hl⟩:=id I.loc
  have hcls:(X.env.scope.kind == .class || (X.env.scope.kind == .module && X.env.locals != X.env.globals))=false:=by rw [I.ok.kind];rfl
  refine wpAny_nameGoes_keeps hk hn hcls fun h' v hn' hs=>?_
  obtain ⟨oL,_,_,hoL,_⟩:=id hn
  have cne:=I.cne
  have tracked:HOk X.prog X.w H h':=fun b ob e=>by
    refine (I.hok b ob e).stay (fun c w' hc q=>(hs.2 c ?_).trans q) (fun _ q=>q) fun _ _ q=>q
    rintro rfl
    rcases hc with rfl | hc
    · rw [I.free] at e;cases e
    · rw [I.free] at hc;cases hc
  refine h _ ⟨I.ok,I.os,I.bare,⟨fun b o e n hb hx=>?_,fun b o e n hb hx=>?_,I.base.free,fun b o e hx=>?_,I.base.tups,I.base.frzs,I.base.tbls⟩,⟨_,hn',fun j y v' e1 e2 e3=>?_⟩,fun y c e=>?_,I.free,I.freeC,fun p hp=>?_,tracked,by simpa using I.len⟩
  · exact (hs.2 b (Nat.ne_of_lt (Nat.lt_of_lt_of_le (Heap.lt_size e) I.ok.above))).trans (I.base.keep b o e n hb hx)
  · obtain ⟨sl,e1⟩:=I.base.slot b o e n hb hx
    exact ⟨sl,(hs.2 b (Nat.ne_of_lt (Nat.lt_of_lt_of_le (Heap.lt_size e) I.ok.above))).trans e1⟩
  · obtain ⟨o',e1⟩:=I.base.there b o e hx
    exact ⟨o',(hs.2 b (Nat.ne_of_lt (Nat.lt_of_lt_of_le (Heap.lt_size e) I.ok.above))).trans e1⟩
  · by_cases hj:j=i
    · subst hj
      rw [List.getElem?_set] at e2
      simp at e2
    · rw [List.getElem?_set_ne (Ne.symm hj)] at e2
      obtain ⟨u',r',q⟩:=hl j y v' e1 e2 e3
      refine ⟨u',r',?_⟩
      rcases q with ⟨k,e⟩ | ⟨k,c,e,z⟩
      · refine .inl ⟨k,?_⟩
        have:y≠n:=fun e=>hj (nodup_ix hN e1 (e ▸ hi))
        simp [this,e]
      · exact .inr ⟨k,c,e,z.sameBut hs (cne y c e)⟩
  · obtain ⟨w',z⟩:=I.cell y c e
    exact ⟨w',z.sameBut hs (cne y c e)⟩
  · obtain ⟨e,n,ne,nf,d⟩:=I.pin p hp
    exact ⟨(hs.2 p.1 ne).trans e,n,ne,nf,d⟩
end
theorem match_ok {M:Model} {A:Around} {E:Value→Shared→Prop} {K:PySem.W.Frag} {s:Shared} {e C Tw:Addr} {Q:Bool→Shared→Prop} (X:K.In s.heap) (I:ExAt e C s.heap) (F:ExcF K Tw) (hm:PySem.W.mroIn K C (.ref Tw)=some true) (h:Q true s) :
    wpAny M A (excMatches (.ref e) (.ref Tw)) Q E s:=by
  have L0:=I.type (M:=M)
  have L1:=PySem.W.looks_mroIn (M:=M) X hm
  have L2:=PySem.W.looks_mroIn (M:=M) X F.mb
  have L3:=PySem.W.looks_typeIn (M:=M) X F.ty
  have L4:PySem.W.Looks M s.heap (isInstance (.ref Tw) (.type "tuple")) false:=L3.andThen (PySem.W.Looks.of_pure tc_notTuple)
  have L5:=(kitx_exc (x:=e) F).it M s.heap X
  have L6:PySem.W.Looks M s.heap (isType (.ref Tw)) true:=by
    have hcD:=F.cls
    unfold PySem.W.clsIn at hcD
    split at hcD
    · rename_i c' d' cd' sl' ho
      intro A' Q' E' s' k q
      unfold isType loadHead
      exact wpAny_bind (wpAny_loadPart (k _ _ (X _ _ ho)) (wpAny_pure q))
    · cases hcD
  obtain ⟨hh,g,d,t,os⟩:=s
  unfold excMatches
  refine wpAny_bind (L4.at ?_)
  simp only [Bool.false_eq_true,if_false]
  refine wpAny_bind (wpAny_pure ?_)
  simp only [List.forIn_cons,List.forIn_nil]
  unfold isExcClass
  refine wpAny_bind (wpAny_bind (wpAny_bind (wpAny_bind (L6.at ?_))))
  simp only [if_true]
  refine L2.at ?_
  simp only [Bool.not_true,Bool.false_eq_true,if_false]
  refine wpAny_pure (wpAny_pure ?_)
  refine wpAny_bind (L0.at ?_)
  refine wpAny_bind (wpAny_bind (wpAny_bind (L1.at ?_)))
  simp only [if_true]
  exact wpAny_pure (wpAny_pure (wpAny_pure h))
noncomputable def tCallS (sp:Sp) (E:St→XK) (t:TA):TE:=fun σ H Q=>t σ H fun vs H1=>sp vs H1 Q (E σ)
noncomputable def PassS (CX:CXT) (X:Cx) (E:St→XK):Prop:=∀ (pins:List (Addr×Obj)) (σ:St) (H:Hp) (s:Shared) (e:Value) (s':Shared),Inv X pins σ H s→CX X.stack H s (E σ) e s'→X.xe e s'
section
variable {X:Cx} {CX:CXT} {k:Nat} {f:Addr} {fd:FuncData} {ps:List Str} {sp:Sp} {E:St→XK} {x:Str} {p pos:Pos} {e:Expr} {es:List Expr} {t:TA}
theorem pe_callS (F:FnOk X.prog X.w X.K X.mg X.base CX k f fd ps sp) (hr:Room k X.A) (hg:Gl X x) (hm:X.mg x=some (.ref f)) (hk:PySem.W.keepIn X.K (.ref f)=true) (hb:Binds X.K fd ps []) (hx:PassS CX X E)
    (ha:PA X (e :: es) t) (hdb:(x == ("__debug__":Str))=false:=by decide) (he:starEach (e :: es) X.env=(false,eval e X.env) :: starEach es X.env:=by rfl) (hpl:(backTo pos (starEach es X.env)).any (·.1)=false:=by rfl) :
    PE X (.Call (.Name x p) (e :: es) [] pos) (tCallS sp E t):=by
  intro pins s σ H Q I h
  refine wpAny_Call_Name_kw (ld_glob I hg hm ?_ hdb)
  refine PySem.W.callWith_K (h₀:=X.base) I.ok.mod.kin hk (thn (ha pos pins s σ H _ I h) fun us s1 ⟨vs,H1,I1,r,q⟩=>⟨I1.kIn,?_⟩) he hpl
  have hl:us.length=ps.length:=by rw [← r.length];exact F.len _ _ _ _ q
  have bb:=hb s1 us I1.kIn (by rw [List.append_nil];exact hl)
  rw [List.append_nil] at bb
  refine wpAny_call (codeAny_mono (F.run X.A X.stack s1 H1 ⟨us,[]⟩ us vs Q (E σ) hr I1.env0 bb r q) fun r s' hq=>?_)
  cases r with
  | error e=>exact hx pins σ H1 s1 e s' I1 hq
  | ok fl =>
    cases fl with
    | ret u=>exact I1.after hq
    | next=>exact False.elim hq
    | brk=>exact False.elim hq
    | cont=>exact False.elim hq
end
noncomputable def tTry (K:PySem.W.Frag) (i:Nat) (Tw:Addr) (tb:(St→XK)→TS) (ts:Addr→Addr→TS):TS:=fun D σ H =>
  tb (fun σ' cls _ H'=>∃ C,cls = .ref C∧ExcF K C∧PySem.W.mroIn K C (.ref Tw)=some true∧∀ a,H' a=none→ts a C { nx:=fun σ2 H2=>D.nx (σ2.set i none) H2,rt:=D.rt,bk:=fun σ2 H2=>D.bk (σ2.set i none) H2,ct:=fun σ2 H2=>D.ct (σ2.set i none) H2 } (σ'.set i (some (.ref a))) H') D σ H
theorem ps_try {X:Cx} {i:Nat} {n x:Str} {Tw:Addr} {tb:(St→XK)→TS} {ts:Addr→Addr→TS} {body:List Stmt} {b₀:Stmt} {suite:List Stmt} {np hpos pos:Pos}
    (hst:X.stack=X.env :: X.outer) (hf:X.env.frame=some X.env.locals) (hN:X.N.Nodup) (hi:X.N[i]? = some n) (hk:X.env.scope.names.lookup n=some .local) (hg:Gl X x) (hm:X.mg x=some (.ref Tw)) (hT:ExcF X.K Tw)
    (hb:∀ pn xe Eσ,PassS (CXE X.prog X.w) (X.with2 pn xe) Eσ→PSs (X.with2 pn xe) body (tb Eσ))
    (hs:∀ pn a C oe vs,(a,oe)∈pn→oe.cls = .ref C→oe.data = .fields vs→PSs (X.suite pn a) (b₀ :: suite) (ts a C)) (hdb:(x == ("__debug__":Str))=false:=by decide) :
    PS X (.Try body [.ExceptHandler (some (.Name x np)) (some n) (b₀ :: suite) hpos] [] [] pos) (tTry X.K i Tw tb ts):=by
  intro pins s σ H D I h
  have ok:=I.ok
  let Eσ:St→XK:=fun σ' cls _ H'=>∃ C,cls = .ref C∧ExcF X.K C∧PySem.W.mroIn X.K C (.ref Tw)=some true∧∀ a,H' a=none→ts a C { nx:=fun σ2 H2=>D.nx (σ2.set i none) H2,rt:=D.rt,bk:=fun σ2 H2=>D.bk (σ2.set i none) H2,ct:=fun σ2 H2=>D.ct (σ2.set i none) H2 } (σ'.set i (some (.ref a))) H'
  let xe1:Value→Shared→Prop:=fun e s'=>∃ a C Hc H' σ' sc,e = .ref a∧Inv X pins σ' Hc sc∧Fly X.prog X.w X.stack Hc H' sc s' a C∧Eσ σ' (.ref C) none H'
  have hp:PassS (CXE X.prog X.w) (X.with2 (X.pn++pins) xe1) Eσ:=by
    intro pins' σ' H' s' e s'' I1 h1
    obtain ⟨a,C,H'',rfl,F,q⟩:=h1
    exact ⟨a,C,H',H'',σ',s',rfl,I1.unwith2 ok,F,q⟩
  have hbody:=hb (X.pn++pins) xe1 Eσ hp [] s σ H D (I.with2 xe1) h
  refine wpAny_Try_except (wpAny_mono hbody (fun f s1 q=>?_) fun e s1 q=>?_)
  · cases f with
    | next=>obtain ⟨σ',H',I',q⟩:=q;exact wpAny_execs_nil ⟨σ',H',I'.unwith2 ok,q⟩
    | brk=>obtain ⟨σ',H',I',q⟩:=q;exact ⟨σ',H',I'.unwith2 ok,q⟩
    | cont=>obtain ⟨σ',H',I',q⟩:=q;exact ⟨σ',H',I'.unwith2 ok,q⟩
    | ret u=>obtain ⟨v,σ',H',I',r,q⟩:=q;exact ⟨v,σ',H',I'.unwith2 ok,r,q⟩
  obtain ⟨a,C,Hc,H',σ',sc,rfl,Ic,F,C',eC,FC,mC,q⟩:=q
  cases eC
  obtain ⟨B,a0,fl,cov⟩:=F.fl
  have I1:Inv X pins σ' H' s1:=Ic.call' F.os F.un F.hok F.bare (fun b z=>absurd z (by simp))
  have hfr:X.A.frames=some (X.env :: X.outer):=hst ▸ ok.frames
  rw [hst] at fl
  refine wpAny_looks_onW hfr hf fl fun h4 hh4 sm4=>?_
  refine wpAny_landsW hh4 fun h5 fl5 sm5=>?_
  have F5:Fly X.prog X.w X.stack Hc H' sc { s1 with heap:=h5 } a C:=by
    rw [hst]
    refine fly_move (hst ▸ F) fl (hst ▸ cov) fl5 (sm4.trans sm5) fun b hb=>I1.stkFree b (hst ▸ hb)
  have I5:Inv X pins σ' H' { s1 with heap:=h5 }:=Ic.call' F5.os F5.un F5.hok F5.bare (fun b z=>absurd z (by simp))
  obtain ⟨oe5,ve5,he5,hc5,hd5,_⟩:=fl5.first
  have na:a≠X.env.locals:=fun z=>by
    obtain ⟨m,⟨o,_,_,ho,_⟩,_⟩:=Ic.loc
    have:=F.new
    rw [z,ho] at this;cases this
  have nf:a ∉ X.fs:=fun z=>by
    obtain ⟨_,o,ho,_⟩:=Ic.funs.mem z
    have:=F.new
    rw [ho] at this;cases this
  have J5:=I5.suite a oe5 he5 F.no na nf (fun v z=>by rw [hd5] at z;cases z)
  refine wpAny_handleBy_cons (codeAny_handlers_test (ld_glob (X:=X.suite ((a,oe5) :: (X.pn++pins)) a) J5 hg hm (match_ok (K:=X.K) J5.kIn ⟨oe5,ve5,he5,hc5,hd5⟩ hT mC ?_) hdb)) (by intro q;cases q)
  refine codeAny_handlers_suite_as ?_
  refine lands_againW fl5 fun h6 fl6 sm6=>?_
  obtain ⟨B5,a5,fl5',cov5⟩:=F5.fl
  have F6:Fly X.prog X.w X.stack Hc H' sc { s1 with heap:=h6 } a C:=by
    rw [hst]
    exact fly_move (hst ▸ F) fl (hst ▸ cov) fl6 ((sm4.trans sm5).trans sm6) fun b hb=>I1.stkFree b (hst ▸ hb)
  have I6:Inv X pins σ' H' { s1 with heap:=h6 }:=Ic.call' F6.os F6.un F6.hok F6.bare (fun b z=>absurd z (by simp))
  obtain ⟨oe,ve,he,hc,hd,_⟩:=fl6.first
  have J6:=I6.suite a oe he F.no na nf (fun v z=>by rw [hd] at z;cases z)
  refine store_ok (X:=X.suite ((a,oe) :: (X.pn++pins)) a) (v:=.ref a) J6 hN hi (Or.inl hk) rfl (fun s7 J7=>?_) (Or.inr hk)
  have run:=hs ((a,oe) :: (X.pn++pins)) a C oe ve (List.mem_cons_self) hc hd [] s7 _ H' _ J7 (q a F.no)
  refine wpAny_mono run (fun f s8 q8=>?_) fun _ _ z=>False.elim z
  cases f with
  | next =>
    obtain ⟨σ8,H8,J8,q8⟩:=q8
    exact goes_ok (J8.unsuite ok) hN hi hk fun s9 I9=>⟨_,H8,I9,q8⟩
  | brk =>
    obtain ⟨σ8,H8,J8,q8⟩:=q8
    exact goes_ok (J8.unsuite ok) hN hi hk fun s9 I9=>⟨_,H8,I9,q8⟩
  | cont =>
    obtain ⟨σ8,H8,J8,q8⟩:=q8
    exact goes_ok (J8.unsuite ok) hN hi hk fun s9 I9=>⟨_,H8,I9,q8⟩
  | ret u =>
    obtain ⟨v,σ8,H8,J8,r,q8⟩:=q8
    exact goes_ok (J8.unsuite ok) hN hi hk fun s9 I9=>⟨v,_,H8,I9,r,q8⟩
theorem Fun.okE {P:Program} {w:World} {K:PySem.W.Frag} {mg:Str→Option Value} {base:Heap} {x qual:Str} {st:Stmt} {f:Addr} {fd:FuncData} {N ps:List Str} {k:Nat} {sp:Sp} (F:Fun K x qual st f fd) (S:FnScope N ps (defScope st)) (len:∀ vs H Q E,sp vs H Q E→vs.length=ps.length)
    (hbody:∀ (cdv:Value) (A:Around) (outer:List Env) (s:Shared) (H:Hp) (vs:List V) (Q:VK) (E:XK),Room k (A.deeper (envOfC qual (defScope st) s.heap.objs.size f cdv))→sp vs H Q E →
      ∃ t,PSs (cxOf (CXE P w) P w K mg base N qual (defScope st) f cdv A outer s H E) (defBody st) t∧t { nx:=fun _ H'=>Q .non H',rt:=Q } (start N vs) H):FnOk P w K mg base (CXE P w) (k + 1) f fd ps sp:=by
  obtain ⟨oc,od,kV,doc,pm,an,cdv,ct,osl,rfl,lk,hcd⟩:=F.ex
  exact fn_of lk hcd S len fun A outer s H vs Q E hr hsp=>hbody cdv A outer s H vs Q E hr hsp
theorem pe_isiE {X:Cx} {pn:List (Addr×Obj)} {a C:Addr} {oe:Obj} {vs:Array Value} {b:Bool} {i:Nat} {y z:Str} {c:Value} {p p1 p2 pos:Pos} (hin:(a,oe)∈pn) (hc:oe.cls = .ref C) (hd:oe.data = .fields vs) (F:ExcF X.K C) (e:PySem.W.kitOne X.K (.ref C) c=some b)
    (hx:Gl (X.suite pn a) "isinstance") (hm:X.mg "isinstance" = none) (hi:PE (X.suite pn a) (.Name y p1) (tVar i))
    (hy:∀ (pins:List (Addr×Obj)) (s:Shared) (σ:St) (H:Hp) (Q:Value→Shared→Prop),Inv (X.suite pn a) pins σ H s→Q c s→wpAny (model X.prog X.w) (X.A.mark (some (.ref a))) (eval (.Name z p2) X.env) Q (fun _ _=>False) s)
    (he:starEach [.Name y p1,.Name z p2] X.env=(false,eval (.Name y p1) X.env) :: starEach [.Name z p2] X.env:=by rfl) (he2:starEach [.Name z p2] X.env=(false,eval (.Name z p2) X.env) :: starEach [] X.env:=by rfl) (hpl:(backTo pos (starEach [.Name z p2] X.env)).any (·.1)=false:=by rfl) :
    PE (X.suite pn a) (.Call (.Name "isinstance" p) [.Name y p1,.Name z p2] [] pos) (fun σ H Q=>σ[i]? = some (some (.ref a))∧Q (.bl b) H):=by
  intro pins s σ H Q I h
  refine wpAny_Call_Name_kw (ld_blt I hx hm boot_isi ?_ (by decide) (by decide))
  refine PyProof.Rows.callWith_builtin1 ?_ he hpl
  show wpAny _ _ (spliced (backTo pos (starEach [.Name y p1,.Name z p2] X.env))) _ _ s
  rw [he]
  refine Calls.spliced_cons (thn (hi pins s σ H (fun v H1=>v = .ref a∧H1=H) I ⟨.ref a,h.1,rfl,rfl⟩) fun u s1 hpq=>?_)
  obtain ⟨v,H1,I1,r1,e1,e2⟩:=hpq
  subst e1 e2
  cases r1
  show wpAny _ _ (spliced (backTo pos (starEach [.Name z p2] X.env))) _ _ s1
  rw [he2]
  refine Calls.spliced_cons (hy pins s1 σ H1 _ I1 ?_)
  refine Calls.spliced_nil ?_
  have pin:=I1.pin (a,oe) (List.mem_append_left _ hin)
  exact isi_exc F I1.kIn ⟨oe,vs,pin.1,hc,hd⟩ e fun tk=>⟨.bl b,H1,I1.tok _,rfl,h.2⟩
theorem pss_when {X:Cx} {p:Prop} {st:List Stmt} {t:TS} (h:p→PSs X st t):PSs X st (fun D σ H=>p∧t D σ H):=fun pins s σ H D I hh=>h hh.1 pins s σ H D I hh.2
theorem pe_isiC {X:Cx} {pn:List (Addr×Obj)} {a C B:Addr} {oe:Obj} {vs:Array Value} {b:Bool} {i:Nat} {y z:Str} {p p1 p2 pos:Pos} (hin:(a,oe)∈pn) (hc:oe.cls = .ref C) (hd:oe.data = .fields vs) (F:ExcF X.K C) (e:PySem.W.kitOne X.K (.ref C) (.ref B)=some b)
    (hx:Gl (X.suite pn a) "isinstance") (hm:X.mg "isinstance" = none) (hi:PE (X.suite pn a) (.Name y p1) (tVar i)) (hg:Gl (X.suite pn a) z) (hz:X.mg z=some (.ref B)) (hdb:(z == ("__debug__":Str))=false:=by decide)
    (he:starEach [.Name y p1,.Name z p2] X.env=(false,eval (.Name y p1) X.env) :: starEach [.Name z p2] X.env:=by rfl) (he2:starEach [.Name z p2] X.env=(false,eval (.Name z p2) X.env) :: starEach [] X.env:=by rfl) (hpl:(backTo pos (starEach [.Name z p2] X.env)).any (·.1)=false:=by rfl) :
    PE (X.suite pn a) (.Call (.Name "isinstance" p) [.Name y p1,.Name z p2] [] pos) (fun σ H Q=>σ[i]? = some (some (.ref a))∧Q (.bl b) H) :=
  pe_isiE hin hc hd F e hx hm hi (fun pins s σ H Q I h=>ld_glob I hg hz h hdb) he he2 hpl
theorem pe_isiT {X:Cx} {pn:List (Addr×Obj)} {a C:Addr} {oe:Obj} {vs:Array Value} {b:Bool} {i:Nat} {y z:Str} {T:String} {p p1 p2 pos:Pos} (hin:(a,oe)∈pn) (hc:oe.cls = .ref C) (hd:oe.data = .fields vs) (F:ExcF X.K C) (e:PySem.W.kitOne X.K (.ref C) (.type T)=some b)
    (hx:Gl (X.suite pn a) "isinstance") (hm:X.mg "isinstance" = none) (hi:PE (X.suite pn a) (.Name y p1) (tVar i)) (hg:Gl (X.suite pn a) z) (hz:X.mg z=none) (hv:bootBuiltins z=some (.type T)) (hn:z≠"__name__":=by decide) (hdb:(z == ("__debug__":Str))=false:=by decide)
    (he:starEach [.Name y p1,.Name z p2] X.env=(false,eval (.Name y p1) X.env) :: starEach [.Name z p2] X.env:=by rfl) (he2:starEach [.Name z p2] X.env=(false,eval (.Name z p2) X.env) :: starEach [] X.env:=by rfl) (hpl:(backTo pos (starEach [.Name z p2] X.env)).any (·.1)=false:=by rfl) :
    PE (X.suite pn a) (.Call (.Name "isinstance" p) [.Name y p1,.Name z p2] [] pos) (fun σ H Q=>σ[i]? = some (some (.ref a))∧Q (.bl b) H) :=
  pe_isiE hin hc hd F e hx hm hi (fun pins s σ H Q I h=>ld_blt I hg hz hv h hn hdb) he he2 hpl
end L2
end
section
namespace HT
open PySem PySem.Spec PyProof.Rows
section
variable {prog:Program} {w:World} {A:Around} {E:Value→Shared→Prop} {s:Shared}
end
end HT
namespace L2
open PySem PySem.Spec PyProof.Rows Tim
section
variable {X:Cx}
noncomputable def Its (x:Str):It:=⟨fun i _=>i < x.length,fun i H v H'=>H'=H∧∃ c,x.cps[i]? = some c∧v = .str ⟨#[c]⟩,fun i _=>x.length≤i⟩
theorem turn_str {P:Program} {w:World} {K:PySem.W.Frag} {tg:Expr} (x:Str) (t:Tok) (it:Addr):Turn P w K tg (Its x) [it] it (fun i h=>h.IsStrIter it "str_ascii_iterator" x t i) where
  mem:=by simp
  obj:=fun i h st b hb=>by
    have e:b=it:=by simpa using hb
    subst e
    obtain ⟨o,e,c,d⟩:=st
    exact ⟨o,e,fun v z=>by rw [d] at z;cases z⟩
  keep:=fun i h h' st k=>by
    obtain ⟨o,e,r⟩:=st
    exact ⟨o,k it (by simp) o e,r⟩
  item:=by
    intro X hP hw hK hc i pins s σ H E I hf st hg
    subst hP hw hK
    obtain ⟨f0,f1,f2,f3,f4,f5⟩:=hf it (by simp)
    have hg:i < x.cps.size:=hg
    have hx:x.cps[i]? = some x.cps[i]:=by simp [hg]
    refine wpAny_pyNext_ascii_item st hx fun h' st' sb=>?_
    have I1:Inv X pins σ H { s with heap:=h',toks:=s.toks + 1 }:=I.turned (t':=s.toks + 1) (fun b o hb e=>(sb.2 b hb).trans e) f0 f1 f3 f4 f5
    obtain ⟨o,e,c,d⟩:=id st'
    exact ⟨_,rfl,go_of (s:={ s with heap:=h',toks:=s.toks + 1 }) e c d (by decide) ⟨.str ⟨#[x.cps[i]]⟩,H,I1,⟨_,rfl⟩,⟨rfl,_,hx,rfl⟩,st',fun b hb=>(hf b hb).1⟩⟩
  done:=by
    intro X hP hw hK hc i pins s σ H E I hf st hg
    subst hP hw hK
    obtain ⟨f0,f1,f2,f3,f4,f5⟩:=hf it (by simp)
    have hg:x.cps.size≤i:=hg
    exact wpAny_pyNext_ascii_end (I.ok.hd hc) st (by simp;omega) fun h' eb=>⟨rfl,I.turned (t':=s.toks) (fun b o hb e=>eb b o hb e) f0 f1 f3 f4 f5⟩
  self:=fun _ _ _ _ _ st h=>wpAny_pyIter_striter_ascii st h
noncomputable def iStr (tl:TE):TI:=fun σ H R=>tl σ H fun v H1=>∃ x,v = .str x∧x.cps.all (· < 128)=true∧R (Its x) H1
theorem pi_str {tg l:Expr} {tl:TE} (hl:PE X l tl):PI X tg l (iStr tl):=by
  intro pins s σ H R I h
  refine thn (hl pins s σ H _ I h) fun v s1 hpq=>?_
  obtain ⟨x,H1,I1,r1,q1⟩:=hpq
  obtain ⟨y,e,ha,q⟩:=q1
  subst e
  obtain ⟨t,rfl⟩:=r1
  refine wpAny_pyIter_ascii ha ?_
  refine ⟨s1.heap.objs.size,[s1.heap.objs.size],_,_,H1,rfl,I1.kept (t':=s1.toks) fun b o e=>Heap.get?_push_of_some _ e,turn_str y t _,⟨_,Heap.get?_push_size _ rfl,rfl,rfl⟩,fun b hb=>?_,q⟩
  have e:b=s1.heap.objs.size:=by simpa using hb
  subst e
  exact I1.fpOk (Nat.le_refl _) (I1.hok.fresh (Nat.le_refl _))
end
structure Items1 (J:It) (H1:Hp) (n:Nat) (x:Nat→V):Prop where
  go:∀ i Hx,i < n→Same H1 Hx→J.go i Hx
  stop:∀ Hx,Same H1 Hx→J.stop n Hx
  yld:∀ i Hx v H',i < n→Same H1 Hx→J.yld i Hx v H'→H'=Hx∧v=x i
theorem items1_list {K:PySem.W.Frag} {H1:Hp} {a:Addr} {xs:List V} {x:Nat→V} (hS:SqL K H1 a xs) (hx:∀ i,i < xs.length→xs[i]? = some (x i)):Items1 (Itl K a) H1 xs.length x :=
  ⟨fun i Hx hi sx=>⟨xs,_,sx.seq hS,hx i hi⟩,fun Hx sx=>⟨xs,sx.seq hS,Nat.le_refl _⟩,fun i Hx v H' hi sx hy=>⟨hy.1,by
    have:=hy.2 _ (sx.seq hS)
    rw [hx i hi] at this
    exact (Option.some.inj this).symm⟩⟩
theorem items1_str {H1:Hp} {z:Str}:Items1 (Its z) H1 z.length (fun i=>.str ⟨#[z.cps.toList.getD i 0]⟩) :=
  ⟨fun i Hx hi sx=>hi,fun Hx sx=>Nat.le_refl _,fun i Hx v H' hi sx hy=>⟨hy.1,by
    obtain ⟨_,c,hc,rfl⟩:=hy
    have:z.cps.toList[i]? = some c:=by rw [Array.getElem?_toList];exact hc
    rw [List.getD_eq_getElem?_getD,this];rfl⟩⟩
theorem comp_anyG {J:It} {tc:TT} {te:TE} {QD:Hp→Prop} {H1:Hp} {D:Addr} {n iw:Nat} {σb:St} (x:Nat→V) (g:Nat→V) (p:Nat→Bool) (hJ:Items1 J H1 n x) (hz:n < sizeLine) (hD:H1 D=none)
    (ht:∀ (i:Nat) (Hx:Hp) (R:Bool→Hp→Prop),i < n→Same H1 Hx→(∀ Hy,Same Hx Hy→R (p i) Hy)→tc (σb.set iw (some (x i))) Hx R)
    (he:∀ (i:Nat) (Hx:Hp) (R:VK),i < n→p i=true→Same H1 Hx→(∀ Hy,Same Hx Hy→R (g i) Hy)→te (σb.set iw (some (x i))) Hx R)
    (q:∀ Hx,Same H1 Hx→Hx D=some (.lst (((List.range n).filter p).map g))→QD Hx) :
    ∃ W:Nat→Nat→St→Hp→Prop,(∃ m,W 0 m σb (upd H1 D (.lst [])))∧∀ i m σx H,W i m σx H→(J.stop i H∧QD H)∨(J.go i H∧∀ x H',J.yld i H x H'→gName iw x σx H' fun σ2 H2=>tc σ2 H2 fun c H3=>if c=true then te σ2 H3 fun y H4=>∃ ys,H4 D=some (.lst ys)∧ys.length < sizeLine∧∃ m',m' < m∧W (i + 1) m' σ2 (upd H4 D (.lst (ys++[y]))) else ∃ m',m' < m∧W (i + 1) m' σ2 H3):=by
  refine ⟨fun i m σx Hx=>(∀ y,σx.set iw y=σb.set iw y)∧m=n - i∧i≤n∧Same H1 Hx∧Hx D=some (.lst (((List.range i).filter p).map g)),⟨n,fun _=>rfl,rfl,Nat.zero_le _,upd_same2' hD,upd_same⟩,?_⟩
  rintro i m σx Hx ⟨eσ,rfl,hi,sx,xD⟩
  by_cases hlt:i < n
  · refine .inr ⟨hJ.go i Hx hlt sx,fun v H' hy=>?_⟩
    obtain ⟨rfl,rfl⟩:=hJ.yld i _ _ _ hlt sx hy
    show tc (σx.set iw _) _ _
    rw [eσ]
    have eσ':∀ y,(σb.set iw (some (x i))).set iw y=σb.set iw y:=fun y=>by rw [List.set_set]
    refine ht i _ _ hlt sx fun Hy sy=>?_
    by_cases hp:p i=true
    · rw [hp]
      refine iteT (he i _ _ hlt hp (fun b o e=>sy _ _ (sx _ _ e)) fun Hz sz=>⟨_,sz _ _ (sy _ _ xD),?_,n - (i + 1),by omega,eσ',rfl,hlt,?_,?_⟩)
      · have:=List.length_filter_le p (List.range i)
        simp at this ⊢;omega
      · intro b o e
        rw [upd_ne (ne_of_none e hD)];exact sz _ _ (sy _ _ (sx _ _ e))
      · rw [upd_same,List.range_succ,List.filter_append,List.map_append]
        simp [hp]
    · have hp:p i=false:=by simpa using hp
      rw [hp]
      refine iteF ⟨n - (i + 1),by omega,eσ',rfl,hlt,fun b o e=>sy _ _ (sx _ _ e),?_⟩
      rw [sy _ _ xD,List.range_succ,List.filter_append]
      simp [hp]
  · have e:i=n:=by omega
    subst e
    exact .inl ⟨hJ.stop Hx sx,q Hx sx xD⟩
theorem range_pick {α β:Type} (l:List α) (d:α) (p:α→Bool) (f:α→β):((List.range l.length).filter (fun i=>p (l.getD i d))).map (fun i=>f (l.getD i d))=(l.filter p).map f:=by
  have e:l=(List.range l.length).map (fun i=>l.getD i d):=by
    apply List.ext_getElem?
    intro i
    by_cases hi:i < l.length
    · rw [List.getElem?_map,List.getElem?_range hi,List.getElem?_eq_getElem hi]
      simp [List.getD_eq_getElem?_getD,hi]
    · rw [List.getElem?_eq_none (by omega),List.getElem?_eq_none (by simp;omega)]
  conv=>rhs;rw [e]
  rw [List.filter_map,List.map_map]
  rfl
noncomputable def TupK (K:PySem.W.Frag) (a:Addr) (ss:List Str):Prop:=∃ (o:Obj) (its:Array Value) (n:Nat),K.lookup a=some o∧o.cls = .type "tuple"∧o.data = .seq its n∧its.size≤sizeLine∧Vals (ss.map V.str) its.toList
noncomputable def strsB:List Value→List Str→Bool
  | [],[]=>true
  | .str x _ :: us,y :: ss=>decide (x=y) && strsB us ss
  | _,_=>false
noncomputable def tupKit (K:PySem.W.Frag) (a:Addr) (ss:List Str):Bool:=match K.lookup a with
  | none=>false
  | some o=>(match o.cls with | .type n=>n == "tuple" | _=>false) && match o.data with | .seq its _=>strsB its.toList ss && decide (its.toList.length≤100) | _=>false
theorem strsB_vals:∀ {us:List Value} {ss:List Str},strsB us ss=true→Vals (ss.map V.str) us
  | [],[],_=>.nil
  | [],_ :: _,h=>by cases h
  | u :: us,[],h=>by cases u <;> cases h
  | u :: us,y :: ss,h=>by
    cases u <;> first
      | cases h
      | (rename_i x t
         have h:(decide (x=y) && strsB us ss)=true:=h
         rw [Bool.and_eq_true] at h
         have e:=of_decide_eq_true h.1
         subst e
         exact .cons ⟨t,rfl⟩ (strsB_vals h.2))
theorem tupK_mk {K:PySem.W.Frag} {a:Addr} {ss:List Str} (h:tupKit K a ss=true):TupK K a ss:=by
  unfold tupKit at h
  cases e:K.lookup a with
  | none=>rw [e] at h;cases h
  | some o =>
    rw [e] at h
    have h:((match o.cls with | .type n=>n == "tuple" | _=>false) && match o.data with | .seq its _=>strsB its.toList ss && decide (its.toList.length≤100) | _=>false)=true:=h
    rw [Bool.and_eq_true] at h
    obtain ⟨h1,h2⟩:=h
    have c:o.cls = .type "tuple":=by
      split at h1
      · rename_i n z;rw [z,eq_of_beq h1]
      · cases h1
    split at h2
    · rename_i its n z
      rw [Bool.and_eq_true] at h2
      have hz:=sizeLine_eq
      refine ⟨o,its,n,e,c,z,?_,strsB_vals h2.1⟩
      have:=of_decide_eq_true h2.2
      rw [Array.length_toList] at this
      omega
    · cases h2
theorem TupK.sq {K:PySem.W.Frag} {a:Addr} {ss:List Str} (h:TupK K a ss) (H:Hp):SqT K H a (ss.map V.str):=.inr h
structure PEW (X:Cx) (e:Expr) (t:TE):Prop where
  h:PE X e t
structure PAW (X:Cx) (es:List Expr) (t:TA):Prop where
  h:PA X es t
structure PSW (X:Cx) (st:Stmt) (t:TS):Prop where
  h:PS X st t
structure PSsW (X:Cx) (st:List Stmt) (t:TS):Prop where
  h:PSs X st t
section
variable {X:Cx}
theorem PSsW.out {st:List Stmt} {t:TS} (h:PSsW X st t):PSs X st t:=h.h
theorem w_cons {st:Stmt} {rest:List Stmt} {t u:TS} (h1:PSW X st t) (h2:PSsW X rest u):PSsW X (st :: rest) (tSeq t u):=⟨pss_cons h1.h h2.h⟩
theorem w_one {st:Stmt} {t:TS} (h1:PSW X st t):PSsW X [st] t:=⟨pss_one h1.h⟩
theorem w_set {i:Nat} {x:Str} {e:Expr} {te:TE} {pos pos':Pos} (hN:X.N.Nodup) (hi:X.N[i]? = some x) (hx:Loc X.env.scope x) (he:PEW X e te) (hs:swapsWith e (some (.Name x pos')) pos.line X.env=pure false:=by rfl) (hf:X.fn x=true∨X.env.scope.names.lookup x=some .local:=by first | exact .inl rfl | exact .inr rfl) :
    PSW X (.Assign [.Name x pos'] e pos) (tAsg te (gName i)):=⟨ps_set hN hi hx he.h hs hf⟩
theorem w_lst {es:List Expr} {t:TA} {pos:Pos} (h:PAW X es t):PEW X (.List es pos) (tLst t):=⟨pe_lst h.h⟩
theorem w_tup {es:List Expr} {t:TA} {k:Nat} {pos:Pos} (h:PAW X es t):PEW X (.Tuple es k pos) (tTup t):=⟨pe_tup h.h⟩
theorem wa_nil:PAW X [] tNil:=⟨pa_nil⟩
theorem wa_cons {e:Expr} {es:List Expr} {te:TE} {t:TA} (h1:PEW X e te) (h2:PAW X es t) (hs:starEach (e :: es) X.env=(false,eval e X.env) :: starEach es X.env:=by rfl):PAW X (e :: es) (tCons te t):=⟨pa_cons h1.h h2.h hs⟩
end
end L2
end
section
namespace L2
open PySem PySem.Spec PyProof.Rows Tim
section
variable {K:Type} [DecidableEq K] {prog:Program} {w:World} {knd:PySem.KeyKind prog w K} {A:Around} {E:Value→Shared→Prop} {s:Shared}
end
section
variable {X:Cx}
end
end L2
namespace L2
open PySem PySem.Spec PyProof.Rows Tim
end L2
namespace L2
open PySem PySem.Spec PyProof.Rows Tim
section
variable {X:Cx}
end
end L2
namespace L2
open PySem PySem.Spec PyProof.Rows Tim
section
variable {X:Cx}
end
end L2
namespace L2
open PySem PySem.Spec PyProof.Rows Tim
section
variable {X:Cx}
end
end L2
end
section
namespace L2
open PySem PySem.Spec PyProof.Rows Tim
section
variable {K:Type} [DecidableEq K] {prog:Program} {w:World} {knd:PySem.KeyKind prog w K} {A:Around} {E:Value→Shared→Prop} {s:Shared}
end
section
variable {X:Cx}
end
end L2
end
section
namespace L2
open PySem PySem.Spec PyProof.Rows Tim
noncomputable def Ite (K:PySem.W.Frag) (l:Addr):It :=
  ⟨fun i H => ∃ xs x, SqL K H l xs ∧ xs[i]? = some x,
   fun i H z H'=>∃ a x,(∀ xs,SqL K H l xs→xs[i]? = some x)∧H a=none∧z = .ref a∧H'=upd H a (.tup [.int i,x]),
   fun i H=>∃ xs,SqL K H l xs∧xs.length≤i⟩
theorem turn_enum {P:Program} {w:World} {K:PySem.W.Frag} {elts:List Expr} {x1} {tpos:Pos} {e it l:Addr} (ne:e≠it) :
    Turn P w K (.Tuple elts x1 tpos) (Ite K l) [e,it] e (fun i h=>(∃ old,IsEnum h e it ((i:Nat):Int) old)∧h.IsListIter it l i) where
  mem:=by simp
  obj:=fun i h st b hb=>by
    obtain ⟨⟨old,s1⟩,⟨o4,s4,_,d4⟩⟩:=st
    simp only [List.mem_cons,List.not_mem_nil,or_false] at hb
    rcases hb with rfl | rfl
    · exact ⟨_,s1,fun v q=>nomatch q⟩
    · exact ⟨_,s4,fun v q=>by rw [d4] at q;cases q⟩
  keep:=fun i h h' st k=>by
    obtain ⟨⟨old,s1⟩,s4⟩:=st
    exact ⟨⟨old,k e (by simp) _ s1⟩,s4.at fun o q=>k it (by simp) o q⟩
  item:=by
    intro X hP hw hK hc i pins s σ H E I hf st hg
    subst hP hw hK
    obtain ⟨xs,x,hq1,hx⟩:=hg
    obtain ⟨⟨old,s1⟩,s4⟩:=st
    obtain ⟨its1,rv1,p1,hz1⟩:=I.list hq1
    obtain ⟨u1,hu1,ru1⟩:=rv1.get hx
    have hel:e < s.heap.objs.size:=Heap.lt_size s1
    have hil:it < s.heap.objs.size:=by obtain ⟨_,q,_⟩:=s4;exact Heap.lt_size q
    refine wpAny_pyNext_enum_item s1 s4 p1.isList (x:=u1) (by simpa using hu1) ne fun h' t1 t2 t3 t4 t5=>⟨_,rfl,?_⟩
    refine wpAny_letOwnedTupleGo_enum (s:={ s with heap:=h',toks:=s.toks + 1 }) t1 fun h2 w1 sb=>?_
    have sb:Heap.SameBut e h' h2:=sb
    have keep2:∀ b o,b ∉ [e,it]→s.heap.get? b=some o→h2.get? b=some o:=fun b o hb q=>by
      simp only [List.mem_cons,List.not_mem_nil,or_false,not_or] at hb
      exact (sb.2 b hb.1).trans (t5 b o hb.1 hb.2 q)
    have pr:h2.get? s.heap.objs.size=some { cls:=.type "tuple",data:=.seq #[.int i s.toks,u1] }:=(sb.2 _ (Nat.ne_of_gt hel)).trans t3
    refine ⟨.ref s.heap.objs.size,upd H s.heap.objs.size (.tup [.int i,x]),?_,rfl,⟨_,x,fun zs hzs=>by rw [I.list_inj hzs hq1];exact hx,I.hok.fresh (Nat.le_refl _),rfl,rfl⟩,⟨⟨u1,?_⟩,t2.at fun o q=>(sb.2 _ ne.symm).trans q⟩,fun b hb=>?_⟩
    · exact I.turnLaid (fp:=[e,it]) (t':=s.toks + 1) hf (Nat.le_refl _) keep2 ⟨by show 2≤sizeLine;decide,[.int i s.toks,u1],.cons ⟨_,rfl⟩ (.cons ru1 .nil),⟨_,pr,rfl,_,rfl⟩⟩
    · have e1:((i + 1:Nat):Int)=(i:Int) + 1:=by push_cast;rfl
      rw [e1];exact w1
    · have:b < s.heap.objs.size:=by
        simp only [List.mem_cons,List.not_mem_nil,or_false] at hb
        rcases hb with rfl | rfl
        · exact hel
        · exact hil
      rw [upd_ne (Nat.ne_of_lt this)]
      exact (hf b hb).1
  done:=by
    intro X hP hw hK hc i pins s σ H E I hf st hg
    subst hP hw hK
    obtain ⟨xs,hq1,hend⟩:=hg
    obtain ⟨⟨old,s1⟩,s4⟩:=st
    obtain ⟨its1,rv1,p1,hz1⟩:=I.list hq1
    have l1':=rv1.length
    refine wpAny_pyNext_enum_end (I.ok.hd hc) s1 s4 p1.isList (by simp;omega) fun h' k=>⟨rfl,I.turnedAll (fp:=[e,it]) (t':=s.toks) hf fun b o hb q=>?_⟩
    simp only [List.mem_cons,List.not_mem_nil,or_false,not_or] at hb
    exact k b o hb.2 q
  self:=fun _ _ _ _ _ st h=>by
    obtain ⟨⟨old,s1⟩,_⟩:=st
    exact wpAny_pyIter_enum s1 h
section
variable {X:Cx}
noncomputable def iEnum (K:PySem.W.Frag) (ta:TA):TI:=fun σ H R=>ta σ H fun vs H1=>∃ l,vs=[.ref l]∧(∃ xs,SqL K H1 l xs)∧R (Ite K l) H1
theorem pi_enum {a:Expr} {ta:TA} {p pos tpos:Pos} {elts:List Expr} {x1} (hg:Gl X "enumerate") (hm:X.mg "enumerate" = none) (ha:PA X [a] ta) (hs:starEach [a] X.env=[(false,eval a X.env)]:=by rfl) (hv:bootBuiltins "enumerate" = some (.type "enumerate"):=by first | rfl | decide +kernel) :
    PI X (.Tuple elts x1 tpos) (.Call (.Name "enumerate" p) [a] [] pos) (iEnum X.K ta):=by
  intro pins s σ H R I h
  refine Call_ (ld_blt I hg hm hv (PyProof.Rows.callWith_type1 (thn (ha pos pins s σ H _ I h) fun us s1 hpq=>?_) (by rw [hs];rfl) (by first | rfl | (rw [hs];rfl))))
  obtain ⟨vs,H1,I1,r1,q1⟩:=hpq
  obtain ⟨l,e,⟨xs,hq1⟩,q⟩:=q1
  subst e
  obtain ⟨u,rfl,r⟩:=vals1 r1
  cases r
  obtain ⟨its1,rv1,p1,hz1⟩:=I1.list hq1
  refine call_enumerate_list p1.isList fun h' z1 z2 z3 z4=>?_
  have I2:Inv X pins σ H1 { s1 with heap:=h' }:=I1.kept (t':=s1.toks) z4
  refine wpAny_pyIter_enum (s:={ s1 with heap:=h' }) z1 ?_
  refine ⟨_,[s1.heap.objs.size + 1,s1.heap.objs.size],_,_,H1,rfl,I2,turn_enum (Nat.succ_ne_self _),⟨⟨_,z1⟩,z2⟩,fun b hb=>?_,q⟩
  have hb':s1.heap.objs.size≤b:=by
    simp only [List.mem_cons,List.not_mem_nil,or_false] at hb
    rcases hb with rfl | rfl <;> omega
  exact I1.fpOk hb' (I1.hok.fresh hb')
end
theorem for_enum {K:PySem.W.Frag} {l:Addr} {xs:List V} {g:TG} {tb:TS} {D:Ends} {σ:St} {H:Hp} (Pv:Nat→St→Hp→Prop) (h0:Pv 0 σ H) (hl:∀ i σ H,i≤xs.length→Pv i σ H→SqL K H l xs)
    (hs:∀ i x a σ H,xs[i]? = some x→H a=none→Pv i σ H→g (.ref a) σ (upd H a (.tup [.int i,x])) fun σ2 H2=>tb { D with nx:=Pv (i + 1),ct:=Pv (i + 1),bk:=D.nx } σ2 H2) (hd:∀ σ H,Pv xs.length σ H→D.nx σ H) :
    ∃ W:Nat→Nat→St→Hp→Prop,(∃ m,W 0 m σ H)∧∀ i m σ H,W i m σ H →
      ((Ite K l).stop i H∧D.nx σ H)∨((Ite K l).go i H∧∃ N:St→Hp→Prop,(∀ σ' H',N σ' H'→∃ m',m' < m∧W (i + 1) m' σ' H')∧∀ x H',(Ite K l).yld i H x H'→g x σ H' fun σ2 H2=>tb { D with nx:=N,ct:=N,bk:=D.nx } σ2 H2):=by
  refine ⟨fun i m σ H=>m=xs.length - i∧i≤xs.length∧Pv i σ H,⟨xs.length,by simp,Nat.zero_le _,h0⟩,?_⟩
  rintro i m σ H ⟨rfl,hi,p⟩
  have q:=hl i σ H hi p
  by_cases hlt:i < xs.length
  · refine .inr ⟨⟨xs,xs[i],q,List.getElem?_eq_getElem hlt⟩,Pv (i + 1),fun σ' H' p'=>⟨xs.length - (i + 1),by omega,rfl,hlt,p'⟩,fun x H' y=>?_⟩
    obtain ⟨a,x,hx,hn,rfl,rfl⟩:=y
    exact hs i x a σ _ (hx xs q) hn p
  · have e:i=xs.length:=by omega
    subst e
    exact .inl ⟨⟨xs,q,Nat.le_refl _⟩,hd σ H p⟩
end L2
end
section
namespace PySem
open Sem (wp)
section
variable {prog:Program} {w:World} {K:Type} [DecidableEq K] {knd:KeyKind prog w K} {A:Around}
end
end PySem
namespace L2
open PySem PySem.Spec PyProof.Rows Tim
section
variable {X:Cx}
end
end L2
end
section
namespace PySem
open Sem (wp)
section
variable {prog:Program} {w:World} {K:Type} [DecidableEq K] {knd:KeyKind prog w K} {A:Around} {E:Value→Shared→Prop} {s:Shared}
end
end PySem
namespace L2
open PySem PySem.Spec PyProof.Rows Tim
section
variable {X:Cx}
end
end L2
end
section
namespace PySem
open Sem (wp)
section
variable {prog:Program} {w:World} {A:Around} {E:Value→Shared→Prop} {s:Shared}
set_option maxHeartbeats 3200000 in
end
end PySem
namespace L2
open PySem PySem.Spec PyProof.Rows Tim
section
variable {X:Cx}
end
end L2
end
section
namespace Wm
variable {α:Type} [DecidableEq α] {op:α→α→α} {ℓ:α→Nat}
noncomputable def Br.ok (R:α→Prop):Br α→Prop
  | .leaf x=>R x
  | .node a b=>a.ok R∧b.ok R
theorem br_wt_pos (b:Br α):1≤b.wt:=by
  cases b with
  | leaf x=>exact Nat.le_refl _
  | node a b=>have:=br_wt_pos a;have:=br_wt_pos b;show 1≤a.wt + b.wt;omega
end Wm
namespace K01
open PySem PySem.Spec PyProof.Rows Tim L2 Wm
noncomputable abbrev cat:Str→Str→Str:=fun x y=>x++y
noncomputable def dk (d:D Str):List (Key×V):=d.map fun p=>(Sum.inr p.1,V.int p.2)
noncomputable def SX (x:Addr) (H H':Hp):Prop:=∀ b o,b≠x→H b=some o→H' b=some o
theorem sx_upd {H:Hp} {x:Addr} {o:HO}:SX x H (upd H x o):=fun b u n e=>by rw [upd_ne n];exact e
theorem _root_.L2.Same.sx {H H':Hp} {x:Addr} (h:Same H H'):SX x H H':=fun b o _ e=>h b o e
theorem SX.trans {H H1 H2:Hp} {x:Addr} (a:SX x H H1) (b:SX x H1 H2):SX x H H2:=fun c o n e=>b c o n (a c o n e)
theorem SX.same {H H1 H2:Hp} {x:Addr} (a:Same H H1) (hx:H x=none) (b:SX x H1 H2):Same H H2:=fun c o e=>b c o (ne_of_none e hx) (a c o e)
theorem new_same {H:Hp} {p:Addr} (h:H p=none) (o:HO):Same H (upd H p o):=fun b u q=>by rw [upd_ne (ne_of_none q h)];exact q
theorem upd_sx {H H':Hp} {x:Addr} {o:HO} (a:SX x H H'):SX x H (upd H' x o):=fun b u n e=>by rw [upd_ne n];exact a b u n e
theorem upd_same2 {H H':Hp} {x:Addr} {o:HO} (a:Same H H') (hx:H x=none):Same H (upd H' x o):=fun b u e=>by rw [upd_ne (ne_of_none e hx)];exact a b u e
noncomputable def Abc (x:Str):Prop:=∀ c∈x.cps.toList,c=97∨c=98∨c=99
noncomputable def BrV (H:Hp):Br Str→V→Prop
  | .leaf x,v=>v = .str x∧x.length=1∧Abc x
  | .node a b,v=>∃ p u w,v = .ref p∧H p=some (.tup [u,w])∧BrV H a u∧BrV H b w
theorem BrV.same {H H':Hp} (s:Same H H'):∀ {b:Br Str} {v:V},BrV H b v→BrV H' b v
  | .leaf x,v,h=>h
  | .node a b,v,⟨p,u,w,e,h,h1,h2⟩=>⟨p,u,w,e,s _ _ h,h1.same s,h2.same s⟩
theorem BrV.ok {H:Hp}:∀ {b:Br Str} {v:V},BrV H b v→b.ok (fun x=>x.length=1)
  | .leaf x,v,h=>h.2.1
  | .node a b,v,⟨p,u,w,e,h,h1,h2⟩=>⟨h1.ok,h2.ok⟩
theorem BrV.abc {H:Hp}:∀ {b:Br Str} {v:V},BrV H b v→b.ok Abc
  | .leaf x,v,h=>h.2.2
  | .node a b,v,⟨p,u,w,e,h,h1,h2⟩=>⟨h1.abc,h2.abc⟩
end K01
end
section
namespace K01
open PySem PySem.Spec PyProof.Rows Tim L2 Wm
noncomputable def top (i:Nat):Stmt:=PySem.Challenge.pw_twistbrackets_k14_read.main.body.getD i (.Pass ⟨0,0,0,0⟩)
end K01
end
section
namespace K01
open PySem PySem.Spec PyProof.Rows Tim L2 Wm
structure Blt (mg:Str→Option Value):Prop where
  isi:mg "isinstance" = none
  str:mg "str" = none
  len:mg "len" = none
  lst:mg "list" = none
  tup:mg "tuple" = none
  int:mg "int" = none
  bool:mg "bool" = none
  srt:mg "sorted" = none
  rng:mg "range" = none
  zip:mg "zip" = none
  all:mg "all" = none
  min:mg "min" = none
  max:mg "max" = none
  dict:mg "dict" = none
  abs:mg "abs" = none
  sum:mg "sum" = none
  set:mg "set" = none
  enm:mg "enumerate" = none
  rev:mg "reversed" = none
  ve:mg "ValueError" = none
theorem bt_str:bootBuiltins "str" = some (.type "str"):=by decide +kernel
theorem bt_int:bootBuiltins "int" = some (.type "int"):=by decide +kernel
theorem bt_bool:bootBuiltins "bool" = some (.type "bool"):=by decide +kernel
theorem bt_list:bootBuiltins "list" = some (.type "list"):=by decide +kernel
structure At (K:PySem.W.Frag) (mg:Str→Option Value) (x:Str) (st:Stmt) (ps:List Str) (f:Addr) (fd:FuncData):Prop where
  fn:Fun K x x st f fd
  b:Binds K fd ps []
  m:mg x=some (.ref f)
theorem At.k {K:PySem.W.Frag} {mg:Str→Option Value} {x:Str} {st:Stmt} {ps:List Str} {f:Addr} {fd:FuncData} (a:At K mg x st ps f fd):PySem.W.keepIn K (.ref f)=true:=a.fn.kp
section
variable {P:Program} {w:World} {K:PySem.W.Frag} {mg:Str→Option Value} {base:Heap} {f:Addr} {fd:FuncData}
theorem fn_zero {k:Nat} {ps:List Str} {sp:Sp} (no:∀ vs H Q E,¬ sp vs H Q E):FnOk P w K mg base CX0 k f fd ps sp :=
  ⟨fun vs H Q E h=>absurd h (no vs H Q E),fun A outer s H args us vs Q E _ _ _ _ h=>absurd h (no vs H Q E)⟩
end
end K01
end
section
namespace K01
open PySem PySem.Spec PyProof.Rows Tim L2 Wm
section
variable {P:Program} {w:World} {K:PySem.W.Frag} {mg:Str→Option Value} {base:Heap} {f:Addr} {fd:FuncData}
end
end K01
end
section
namespace K01
open PySem PySem.Spec PyProof.Rows Tim L2 Wm
section
variable {P:Program} {w:World} {K:PySem.W.Frag} {mg:Str→Option Value} {base:Heap} {f fp ft fa fn fb fl:Addr} {fd pd td ad nd bd ld:FuncData}
noncomputable def spWh:Sp:=fun vs H Q _=>∃ i:Int,vs=[.int i]∧Q (.bl true) H
theorem scWh:FnScope ["found"] ["found"] (defScope (top 17)):=⟨rfl,rfl,rfl,by decide +kernel,rfl,by decide +kernel,by decide +kernel⟩
theorem ok_wh (T:Blt mg) (F:At K mg "_law_whole" (top 17) ["found"] f fd):FnOk P w K mg base CX0 1 f fd ["found"] spWh:=by
  refine F.fn.ok scWh (fun vs H Q E h=>?_) (fun cdv A outer s H vs Q E hr h=>?_)
  · obtain ⟨i,rfl,_⟩:=h
    rfl
  obtain ⟨i,rfl,q⟩:=h
  refine ⟨_,pss_one (ps_ret (pe_and (pe_callB call_isi rfl T.isi boot_isi (pa_cons (pv 0) (pa_cons (pe_ty rfl T.int bt_int) pa_nil))) (pe_one (pe_not (pe_callB call_isi rfl T.isi boot_isi (pa_cons (pv 0) (pa_cons (pe_ty rfl T.bool bt_bool) pa_nil))))))),?_⟩
  exact ⟨_,rfl,_,_,_,rfl,.ii i,_,rfl,iteT ⟨_,rfl,_,_,_,rfl,.ib i,_,rfl,q⟩⟩
end
end K01
end
section
namespace K01
open PySem PySem.Spec PyProof.Rows Tim L2 Wm
theorem mod_lt {i j:Int} (h:0 < j):0≤i % j∧i % j < j:=⟨Int.emod_nonneg _ (by omega),Int.emod_lt_of_pos _ h⟩
theorem p64:(2:Int) ^ 64=18446744073709551616:=by decide
theorem cmul_r {i j:Int} (h0:0≤j) (h:j < 18446744073709551616):CMul i j:=by
  have:=p64
  exact .inr ⟨by omega,by omega⟩
theorem cmul_l {i j:Int} (h0:0≤i) (h:i < 18446744073709551616):CMul i j:=(cmul_r (i:=j) h0 h).symm
theorem abc_at {i:Int} (h0:0≤i) (h:i < 3):∃ c,(Str.ofString "abc").cps[i.toNat]? = some c∧(c=97∨c=98∨c=99):=by
  have e:i.toNat=0∨i.toNat=1∨i.toNat=2:=by omega
  rcases e with e | e | e
  · rw [e];exact ⟨97,by decide +kernel,.inl rfl⟩
  · rw [e];exact ⟨98,by decide +kernel,.inr (.inl rfl)⟩
  · rw [e];exact ⟨99,by decide +kernel,.inr (.inr rfl)⟩
theorem abc_one {c:Nat} (h:c=97∨c=98∨c=99):Abc ⟨#[c]⟩:=fun x hx=>by
  have:x=c:=by simpa using hx
  rw [this];exact h
theorem abc_len:(Str.ofString "abc").length=3:=by decide +kernel
theorem p62:(2:Int) ^ 62=4611686018427387904:=by decide
theorem p63:(2:Int) ^ 63=9223372036854775808:=by decide
section
variable {P:Program} {w:World} {K:PySem.W.Frag} {mg:Str→Option Value} {base:Heap} {f fs fr fb fm fd' fc:Addr} {fd sd rd bd md dd cd:FuncData}
noncomputable def spStir:Sp:=fun vs H Q _=>∃ c:Int,vs=[.int c]∧∀ (i:Int) H',Same H H'→Q (.int i) H'
theorem scStir:FnScope ["cell","found","factor","mixed"] ["cell"] (defScope (top 15)):=⟨rfl,rfl,rfl,by decide +kernel,rfl,by decide +kernel,by decide +kernel⟩
theorem ok_stir (F:At K mg "_law_stir" (top 15) ["cell"] f fd):FnOk P w K mg base CX0 1 f fd ["cell"] spStir:=by
  refine F.fn.ok scStir (fun vs H Q E h=>?_) (fun cdv A outer s H vs Q E hr h=>?_)
  · obtain ⟨c,rfl,_⟩:=h
    rfl
  obtain ⟨c,rfl,q⟩:=h
  refine ⟨_,pss_cons (ps_set (i:=1) scStir.nd rfl (Or.inl rfl) pe_int)
    (pss_cons (ps_for PassesOwn.never rfl (pi_list (pe_lst (pa_cons pe_int (pa_cons pe_int (pa_cons pe_int (pa_cons pe_int pa_nil)))))) (pg_name (i:=2) scStir.nd rfl (Or.inl rfl))
      (pss_cons (ps_set (i:=3) scStir.nd rfl (Or.inl rfl) (pe_op op_mod (pe_op op_add (pe_op op_mul (pv 0) (pv 2)) pe_int) pe_int))
      (pss_cons (ps_set (i:=3) scStir.nd rfl (Or.inl rfl) (pe_op op_mod (pe_op op_mul (pe_op op_mod (pe_op op_mul (pv 3) (pv 3)) pe_int) pe_int) pe_int))
      (pss_one (ps_set (i:=1) scStir.nd rfl (Or.inl rfl) (pe_op op_add (pe_op op_mul (pv 1) (pe_op op_pow pe_int pe_int)) (pe_op op_fdiv (pv 3) pe_int)))))))
    (pss_one (ps_ret (pv 1)))),?_⟩
  refine ⟨by show 4≤sizeLine;decide,fun p np=>?_⟩
  refine ⟨p,rfl,⟨_,.inl (.inl upd_same)⟩,for_list (K:=K) (a:=p) (xs:=[.int 48271,.int 69621,.int 39373,.int 44488]) (fun i σ Hx=>∃ (g:Int) (x2 x3:Option V),σ=[some (.int c),some (.int g),x2,x3]∧Hx=upd H p (.lst [.int 48271,.int 69621,.int 39373,.int 44488])) ⟨0,none,none,rfl,rfl⟩ ?_ ?_ ?_⟩
  · rintro i σ Hx _ ⟨g,x2,x3,rfl,rfl⟩
    exact .inl (.inl upd_same)
  · rintro i v σ Hx hi ⟨g,x2,x3,rfl,rfl⟩
    obtain ⟨z,rfl,z0,z1⟩:∃ z:Int,v = .int z∧0≤z∧z < 100000:=by
      match i,hi with
      | 0,hi=>cases hi;exact ⟨_,rfl,by decide,by decide⟩
      | 1,hi=>cases hi;exact ⟨_,rfl,by decide,by decide⟩
      | 2,hi=>cases hi;exact ⟨_,rfl,by decide,by decide⟩
      | 3,hi=>cases hi;exact ⟨_,rfl,by decide,by decide⟩
      | n + 4,hi=>cases hi
    have m1:=mod_lt (i:=c * z + 7919) (j:=2147483647) (by decide)
    refine ⟨_,rfl,_,rfl,_,_,rfl,rfl,cmul_r z0 (by omega),_,_,rfl,rfl,_,_,rfl,rfl,(by show (0:Int) < _;decide),?_⟩
    refine ⟨_,rfl,_,rfl,_,_,rfl,rfl,cmul_r m1.1 (by omega),_,_,rfl,rfl,(by show (0:Int) < _;decide),_,_,rfl,rfl,cmul_r (by decide) (by decide),_,_,rfl,rfl,(by show (0:Int) < _;decide),?_⟩
    refine ⟨_,rfl,_,_,rfl,rfl,⟨by decide,by decide,by decide⟩,_,_,rfl,rfl,cmul_r (by decide) (by decide),_,rfl,_,_,rfl,rfl,⟨by decide,by decide⟩,_,_,rfl,rfl,?_⟩
    exact ⟨_,_,_,rfl,rfl⟩
  · rintro σ Hx ⟨g,x2,x3,rfl,rfl⟩
    exact ⟨_,rfl,q g _ (new_same np _)⟩
theorem at_script {ns:List Int} {k:Int} (h0:0≤k) (h:k < (ns.length:Int)):∃ v:Int,atI (ns.map V.int) k=some (.int v):=by
  have hk:k.toNat < ns.length:=by omega
  have ek:k=((k.toNat:Nat):Int):=by omega
  refine ⟨ns[k.toNat],?_⟩
  have q:atI (ns.map V.int) ((k.toNat:Nat):Int)=some (.int ns[k.toNat]):=atI_nat (by rw [List.getElem?_map,List.getElem?_eq_getElem hk] <;> rfl)
  rw [← ek] at q
  exact q
noncomputable def spCell (K:PySem.W.Frag):Sp:=fun vs H Q _=>∃ (a:Addr) (ns:List Int) (k:Int),vs=[.ref a,.int k]∧SqL K H a (ns.map V.int)∧0≤k∧∀ (i:Int) H',Same H H'→Q (.int i) H'
theorem scCell:FnScope ["script","k"] ["script","k"] (defScope (top 16)):=⟨rfl,rfl,rfl,by decide +kernel,rfl,by decide +kernel,by decide +kernel⟩
theorem ok_cell (T:Blt mg) (F:At K mg "_law_cell" (top 16) ["script","k"] f fd) (FS:At K mg "_law_stir" (top 15) ["cell"] fs sd):FnOk P w K mg base CX0 2 f fd ["script","k"] (spCell K):=by
  have GS:FnOk P w K mg base CX0 1 fs sd ["cell"] spStir:=ok_stir FS
  refine F.fn.ok scCell (fun vs H Q E h=>?_) (fun cdv A outer s H vs Q E hr h=>?_)
  · obtain ⟨a,ns,k,rfl,_⟩:=h
    rfl
  obtain ⟨a,ns,k,rfl,hS,h0,q⟩:=h
  refine ⟨_,pss_cons (ps_if (pt_cmpR op_lt (pv 1) (pe_callB call_len_seq rfl T.len PySem.boot_len (pa_cons (pv 0) pa_nil)) (nomark _)) (pss_one (ps_ret (pe_call GS hr rfl FS.m FS.k FS.b .nil pass0 (pa_cons (pe_ix ix_list (pv 0) (pv 1) (fun _ _=>rfl)) pa_nil)))) pss_nil)
    (pss_one (ps_ret (pe_call GS hr rfl FS.m FS.k FS.b .nil pass0 (pa_cons pe_int pa_nil)))),?_⟩
  refine ⟨_,rfl,_,rfl,a,_,rfl,.inl hS,_,_,rfl,rfl,_,rfl,?_⟩
  refine ite2 (fun c=>?_) (fun c=>?_)
  · have c:k < (((ns.map V.int).length:Nat):Int):=of_decide_eq_true c
    rw [List.length_map] at c
    obtain ⟨v,hv⟩:=at_script h0 c
    exact ⟨_,rfl,_,rfl,a,_,_,_,rfl,rfl,hS,hv,_,rfl,q⟩
  · exact ⟨_,rfl,q⟩
noncomputable def spRaw (K:PySem.W.Frag):Sp:=fun vs H Q _=>∃ (a:Addr) (ns:List Int) (k:Int),vs=[.ref a,.int k]∧SqL K H a (ns.map V.int)∧0≤k∧∀ i:Int,Q (.int i) H
theorem scRaw:FnScope ["script","k"] ["script","k"] (defScope (top 19)):=⟨rfl,rfl,rfl,by decide +kernel,rfl,by decide +kernel,by decide +kernel⟩
theorem ok_raw (T:Blt mg) (F:At K mg "_law_raw" (top 19) ["script","k"] f fd):FnOk P w K mg base CX0 1 f fd ["script","k"] (spRaw K):=by
  refine F.fn.ok scRaw (fun vs H Q E h=>?_) (fun cdv A outer s H vs Q E hr h=>?_)
  · obtain ⟨a,ns,k,rfl,_⟩:=h
    rfl
  obtain ⟨a,ns,k,rfl,hS,h0,q⟩:=h
  refine ⟨_,pss_cons (ps_if (pt_cmpR op_lt (pv 1) (pe_callB call_len_seq rfl T.len PySem.boot_len (pa_cons (pv 0) pa_nil)) (nomark _)) (pss_one (ps_ret (pe_ix ix_list (pv 0) (pv 1) (fun _ _=>rfl)))) pss_nil) (pss_one (ps_ret pe_int)),?_⟩
  refine ⟨_,rfl,_,rfl,a,_,rfl,.inl hS,_,_,rfl,rfl,_,rfl,?_⟩
  refine ite2 (fun c=>?_) (fun c=>?_)
  · have c:k < (((ns.map V.int).length:Nat):Int):=of_decide_eq_true c
    rw [List.length_map] at c
    obtain ⟨v,hv⟩:=at_script h0 c
    exact ⟨_,rfl,_,rfl,a,_,_,_,rfl,rfl,hS,hv,q v⟩
  · exact q 0
end
end K01
end
section
namespace K01
open PySem PySem.Spec PyProof.Rows Tim L2 Wm
section
variable {P:Program} {w:World} {K:PySem.W.Frag} {mg:Str→Option Value} {base:Heap} {f fa fn ft:Addr} {fd ad nd td:FuncData}
noncomputable def inS (ad:D Str→Str→Int→D Str) (b:D Str) (c:Int) (d:D Str) (j:Nat):D Str:=(b.take j).foldl (fun d q=>ad d q.1 (c * q.2)) d
end
end K01
end
section
namespace K01
open PySem PySem.Spec PyProof.Rows Tim L2 Wm
noncomputable def TotV (K:PySem.W.Frag) (H:Hp) (t:Addr) (ps:List V) (T:List (Int×Br Str)):Prop :=
  SqL K H t ps∧ps.length=T.length∧∀ (i:Nat) x,T[i]? = some x→∃ p bv,ps[i]? = some (.ref p)∧H p=some (.tup [.int x.1,bv])∧BrV H x.2 bv
theorem TotV.same {K:PySem.W.Frag} {H H':Hp} {t:Addr} {ps:List V} {T:List (Int×Br Str)} (h:TotV K H t ps T) (s:Same H H'):TotV K H' t ps T :=
  ⟨s.seq h.1,h.2.1,fun i x e=>by
    obtain ⟨p,bv,a,b,c⟩:=h.2.2 i x e
    exact ⟨p,bv,a,s _ _ b,c.same s⟩⟩
theorem TotV.at {K:PySem.W.Frag} {H:Hp} {t:Addr} {ps:List V} {T:List (Int×Br Str)} (h:TotV K H t ps T) {i:Nat} {v:V} (e:ps[i]? = some v):∃ x p bv,T[i]? = some x∧v = .ref p∧H p=some (.tup [.int x.1,bv])∧BrV H x.2 bv:=by
  have hi:i < T.length:=by rw [← h.2.1];exact (List.getElem?_eq_some_iff.mp e).1
  obtain ⟨p,bv,a,b,c⟩:=h.2.2 i T[i] (List.getElem?_eq_getElem hi)
  rw [e] at a
  exact ⟨_,p,bv,List.getElem?_eq_getElem hi,Option.some.inj a,b,c⟩
section
variable {P:Program} {w:World} {K:PySem.W.Frag} {mg:Str→Option Value} {base:Heap} {f fp ft fa fn fb:Addr} {fd pd td ad nd bd:FuncData}
end
end K01
end
section
namespace K01
open PySem PySem.Spec PyProof.Rows Tim L2 Wm
section
variable {P:Program} {w:World} {K:PySem.W.Frag} {mg:Str→Option Value} {base:Heap} {f fs fr fb fm fd' fc:Addr} {fd sd rd bd md dd cd:FuncData}
noncomputable def spDraw:Sp:=fun vs H Q _=>∃ c k b:Int,vs=[.int c,.int k,.int b]∧0 < b∧∀ i:Int,0≤i→i < b→Q (.int i) H
theorem scDraw:FnScope ["cell","k","bound","stir"] ["cell","k","bound"] (defScope (top 18)):=⟨rfl,rfl,rfl,by decide +kernel,rfl,by decide +kernel,by decide +kernel⟩
theorem ok_draw (F:At K mg "_law_draw" (top 18) ["cell","k","bound"] f fd):FnOk P w K mg base CX0 1 f fd ["cell","k","bound"] spDraw:=by
  refine F.fn.ok scDraw (fun vs H Q E h=>?_) (fun cdv A outer s H vs Q E hr h=>?_)
  · obtain ⟨c,k,b,rfl,_⟩:=h
    rfl
  obtain ⟨c,k,b,rfl,hb,q⟩:=h
  refine ⟨_,pss_cons (ps_set (i:=3) scDraw.nd rfl (Or.inl rfl) (pe_op op_mod (pe_op op_add (pe_op op_add (pe_op op_mod (pv 0) pe_int) pe_int) (pe_op op_mul (pv 1) pe_int)) pe_int))
    (pss_cons (ps_set (i:=3) scDraw.nd rfl (Or.inl rfl) (pe_op op_mod (pe_op op_mul (pe_op op_mod (pe_op op_mul (pv 3) (pv 3)) pe_int) pe_int) pe_int))
    (pss_cons (ps_set (i:=3) scDraw.nd rfl (Or.inl rfl) (pe_op op_mod (pe_op op_mul (pe_op op_mod (pe_op op_mul (pv 3) (pv 3)) pe_int) pe_int) pe_int))
    (pss_one (ps_ret (pe_op op_mod (pe_op op_fdiv (pv 3) pe_int) (pv 2)))))),?_⟩
  have m1:=mod_lt (i:=c % 2147483629 + 1 + k * 1000003) (j:=2147483647) (by decide)
  generalize e1:(c % 2147483629 + 1 + k * 1000003) % 2147483647=s1 at m1
  refine ⟨_,rfl,_,_,rfl,rfl,(by show (0:Int) < _;decide),_,_,rfl,rfl,_,rfl,_,_,rfl,rfl,cmul_r (by decide) (by decide),_,_,rfl,rfl,_,_,rfl,rfl,(by show (0:Int) < _;decide),?_⟩
  have m2:=mod_lt (i:=s1 * s1 % 2147483647 * 48271) (j:=2147483629) (by decide)
  refine ⟨_,rfl,_,rfl,_,_,rfl,rfl,cmul_r (by rw [e1];exact m1.1) (by rw [e1];omega),_,_,rfl,rfl,(by show (0:Int) < _;decide),_,_,rfl,rfl,cmul_r (by decide) (by decide),_,_,rfl,rfl,(by show (0:Int) < _;decide),?_⟩
  refine ⟨_,rfl,_,rfl,_,_,rfl,rfl,cmul_r (by rw [e1];exact m2.1) (by rw [e1];omega),_,_,rfl,rfl,(by show (0:Int) < _;decide),_,_,rfl,rfl,cmul_r (by decide) (by decide),_,_,rfl,rfl,(by show (0:Int) < _;decide),?_⟩
  refine ⟨_,rfl,_,_,rfl,rfl,⟨by decide,by decide⟩,_,rfl,_,_,rfl,rfl,hb,q _ (mod_lt hb).1 (mod_lt hb).2⟩
end
end K01
end
section
namespace K01
open PySem PySem.Spec PyProof.Rows Tim L2 Wm
section
variable {P:Program} {w:World} {K:PySem.W.Frag} {mg:Str→Option Value} {base:Heap} {f fs fr fb fm fd' fc:Addr} {fd sd rd bd md dd cd:FuncData}
noncomputable def spBd (n:Nat):Sp:=fun vs H Q _=>∃ c m:Int,vs=[.int c,.int m]∧1≤m∧m≤(n:Int)∧m≤12∧∀ p (b:Br Str) bv (c':Int) H',Same H H'→BrV H' b bv→(b.wt:Int)=m→H' p=some (.tup [bv,.int c'])→Q (.ref p) H'
theorem scBd:FnScope ["cell","many","front","first","second"] ["cell","many"] (defScope (top 20)):=⟨rfl,rfl,rfl,by decide +kernel,rfl,by decide +kernel,by decide +kernel⟩
theorem ok_bd (F:At K mg "_law_by_digits" (top 20) ["cell","many"] f fd):∀ n:Nat,FnOk P w K mg base CX0 n f fd ["cell","many"] (spBd n)
  | 0=>fn_zero fun vs H Q E h=>by
    obtain ⟨c,m,_,h1,h2,_⟩:=h
    omega
  | n + 1=>by
    have G:=ok_bd F n
    refine F.fn.ok scBd (fun vs H Q E h=>?_) (fun cdv A outer s H vs Q E hr h=>?_)
    · obtain ⟨c,m,rfl,_⟩:=h
      rfl
    obtain ⟨c,m,rfl,h1,h2,h12,q⟩:=h
    refine ⟨_,pss_cons (ps_if (pt_cmpR op_lt (pv 1) pe_int (nomark _)) (pss_one (ps_ret (pe_tup (pa_cons (pe_item_str pe_str (pe_op op_mod (pv 0) pe_int) (fun _ _=>rfl)) (pa_cons (pe_op op_fdiv (pv 0) pe_int) pa_nil))))) pss_nil)
      (pss_cons (ps_set (i:=2) scBd.nd rfl (Or.inl rfl) (pe_op op_add pe_int (pe_op op_mod (pv 0) (pe_op op_sub (pv 1) pe_int))))
      (pss_cons (ps_asg (pe_call G hr rfl F.m F.k F.b .nil pass0 (pa_cons (pe_op op_fdiv (pv 0) (pe_op op_sub (pv 1) pe_int)) (pa_cons (pv 2) pa_nil))) (pg_tup rfl (pgs_cons (pg_name (i:=3) scBd.nd rfl (Or.inl rfl)) (pgs_cons (pg_name (i:=0) scBd.nd rfl (Or.inl rfl)) pgs_nil))))
      (pss_cons (ps_asg (pe_call G hr rfl F.m F.k F.b .nil pass0 (pa_cons (pv 0) (pa_cons (pe_op op_sub (pv 1) (pv 2)) pa_nil))) (pg_tup rfl (pgs_cons (pg_name (i:=4) scBd.nd rfl (Or.inl rfl)) (pgs_cons (pg_name (i:=0) scBd.nd rfl (Or.inl rfl)) pgs_nil))))
      (pss_one (ps_ret (pe_tup (pa_cons (pe_tup (pa_cons (pv 3) (pa_cons (pv 4) pa_nil))) (pa_cons (pv 0) pa_nil)))))))),?_⟩
    have h63:=p63
    refine ⟨_,rfl,_,_,rfl,rfl,_,rfl,?_⟩
    refine ite2 (fun e=>?_) (fun e=>?_)
    · have e:m < 2:=of_decide_eq_true e
      have m1:=mod_lt (i:=c) (j:=3) (by decide)
      obtain ⟨x,hx,ha⟩:=abc_at m1.1 m1.2
      refine ⟨_,rfl,_,_,rfl,rfl,(by show (0:Int) < _;decide),_,_,x,rfl,rfl,m1.1,by omega,by rw [abc_len];exact m1.2,hx,_,rfl,_,_,rfl,rfl,⟨by decide,by decide⟩,(by show 2≤sizeLine;decide),fun p np=>?_⟩
      exact q p (.leaf ⟨#[x]⟩) (.str ⟨#[x]⟩) _ _ (new_same np _) ⟨rfl,rfl,abc_one ha⟩ (by show ((1:Nat):Int)=m;omega) upd_same
    · have e:¬ m < 2:=of_decide_eq_false (Bool.eq_false_iff.mpr e)
      have m1:=mod_lt (i:=c) (j:=m - 1) (by omega)
      refine ⟨_,rfl,_,rfl,_,_,rfl,rfl,_,_,rfl,rfl,(by show 0 < m - 1;omega),_,_,rfl,rfl,?_⟩
      refine ⟨_,rfl,_,rfl,_,_,rfl,rfl,_,_,rfl,rfl,⟨by omega,by omega⟩,_,rfl,_,1 + c % (m - 1),rfl,by omega,by omega,by omega,fun p1 b1 v1 c1 H1 s1 hb1 w1 e1=>?_⟩
      refine ⟨p1,_,rfl,.inl (.inl e1),rfl,_,_,rfl,_,_,rfl,rfl,?_⟩
      refine ⟨_,rfl,_,rfl,_,rfl,_,_,rfl,rfl,_,m - (1 + c % (m - 1)),rfl,by omega,by omega,by omega,fun p2 b2 v2 c2 H2 s2 hb2 w2 e2=>?_⟩
      refine ⟨p2,_,rfl,.inl (.inl e2),rfl,_,_,rfl,_,_,rfl,rfl,?_⟩
      refine ⟨_,rfl,_,rfl,(by show 2≤sizeLine;decide),fun p3 n3=>⟨_,rfl,(by show 2≤sizeLine;decide),fun p4 n4=>?_⟩⟩
      have s3:=new_same n3 (.tup [v1,v2])
      have s4:=new_same n4 (.tup [V.ref p3,.int c2])
      refine q p4 (.node b1 b2) (.ref p3) c2 _ (s1.trans (s2.trans (s3.trans s4))) ⟨p3,v1,v2,rfl,s4 _ _ upd_same,hb1.same (s2.trans (s3.trans s4)),hb2.same (s3.trans s4)⟩ ?_ upd_same
      show ((b1.wt + b2.wt:Nat):Int)=m
      omega
noncomputable def spMx (n:Nat):Sp:=fun vs H Q _=>∃ c m k:Int,vs=[.int c,.int m,.int k]∧1≤m∧m≤(n:Int)∧m≤12∧∀ (b:Br Str) bv H',Same H H'→BrV H' b bv→(b.wt:Int)=m→Q bv H'
theorem scMx:FnScope ["cell","many","k","front"] ["cell","many","k"] (defScope (top 21)):=⟨rfl,rfl,rfl,by decide +kernel,rfl,by decide +kernel,by decide +kernel⟩
theorem ok_mx (F:At K mg "_law_mixed" (top 21) ["cell","many","k"] f fd) (FD:At K mg "_law_draw" (top 18) ["cell","k","bound"] fd' dd):∀ n:Nat,FnOk P w K mg base CX0 (n + 1) f fd ["cell","many","k"] (spMx n)
  | 0=>fn_zero fun vs H Q E h=>by
    obtain ⟨c,m,k,_,h1,h2,_⟩:=h
    omega
  | n + 1=>by
    have G:=ok_mx F FD n
    have GD:FnOk P w K mg base CX0 1 fd' dd ["cell","k","bound"] spDraw:=ok_draw FD
    refine F.fn.ok scMx (fun vs H Q E h=>?_) (fun cdv A outer s H vs Q E hr h=>?_)
    · obtain ⟨c,m,k,rfl,_⟩:=h
      rfl
    obtain ⟨c,m,k,rfl,h1,h2,h12,q⟩:=h
    have hr1:Room 1 _:=hr.mono (by omega)
    refine ⟨_,pss_cons (ps_if (pt_cmpR op_lt (pv 1) pe_int (nomark _)) (pss_one (ps_ret (pe_item_str pe_str (pe_call GD hr1 rfl FD.m FD.k FD.b .nil pass0 (pa_cons (pv 0) (pa_cons (pe_op op_mul pe_int (pv 2)) (pa_cons pe_int pa_nil)))) (fun _ _=>rfl)))) pss_nil)
      (pss_cons (ps_set (i:=3) scMx.nd rfl (Or.inl rfl) (pe_op op_add pe_int (pe_call GD hr1 rfl FD.m FD.k FD.b .nil pass0 (pa_cons (pv 0) (pa_cons (pe_op op_add (pe_op op_mul pe_int (pv 2)) pe_int) (pa_cons (pe_op op_sub (pv 1) pe_int) pa_nil))))))
      (pss_one (ps_ret (pe_tup (pa_cons (pe_call G hr rfl F.m F.k F.b .nil pass0 (pa_cons (pv 0) (pa_cons (pv 3) (pa_cons (pe_op op_mul pe_int (pv 2)) pa_nil))))
        (pa_cons (pe_call G hr rfl F.m F.k F.b .nil pass0 (pa_cons (pv 0) (pa_cons (pe_op op_sub (pv 1) (pv 3)) (pa_cons (pe_op op_add (pe_op op_mul pe_int (pv 2)) pe_int) pa_nil)))) pa_nil)))))),?_⟩
    have h63:=p63
    refine ⟨_,rfl,_,_,rfl,rfl,_,rfl,?_⟩
    refine ite2 (fun e=>?_) (fun e=>?_)
    · have e:m < 2:=of_decide_eq_true e
      refine ⟨_,rfl,_,rfl,_,_,rfl,rfl,cmul_l (by decide) (by decide),_,_,_,rfl,by decide,fun i i0 i3=>?_⟩
      obtain ⟨x,hx,ha⟩:=abc_at i0 i3
      refine ⟨_,_,x,rfl,rfl,i0,by omega,by rw [abc_len];exact i3,hx,?_⟩
      exact q (.leaf ⟨#[x]⟩) (.str ⟨#[x]⟩) _ (fun _ _ h=>h) ⟨rfl,rfl,abc_one ha⟩ (by show ((1:Nat):Int)=m;omega)
    · have e:¬ m < 2:=of_decide_eq_false (Bool.eq_false_iff.mpr e)
      refine ⟨_,rfl,_,rfl,_,_,rfl,rfl,cmul_l (by decide) (by decide),_,_,rfl,rfl,_,rfl,_,_,rfl,rfl,_,_,m - 1,rfl,by omega,fun i i0 i1=>?_⟩
      refine ⟨_,_,rfl,rfl,?_⟩
      refine ⟨_,rfl,_,rfl,_,rfl,_,_,rfl,rfl,cmul_l (by decide) (by decide),_,1 + i,_,rfl,by omega,by omega,by omega,fun b1 v1 H1 s1 hb1 w1=>?_⟩
      refine ⟨_,rfl,_,rfl,_,rfl,_,_,rfl,rfl,_,rfl,_,_,rfl,rfl,cmul_l (by decide) (by decide),_,_,rfl,rfl,_,m - (1 + i),_,rfl,by omega,by omega,by omega,fun b2 v2 H2 s2 hb2 w2=>?_⟩
      refine ⟨(by show 2≤sizeLine;decide),fun p3 n3=>?_⟩
      have s3:=new_same n3 (.tup [v1,v2])
      refine q (.node b1 b2) (.ref p3) _ (s1.trans (s2.trans s3)) ⟨p3,v1,v2,rfl,upd_same,hb1.same (s2.trans s3),hb2.same s3⟩ ?_
      show ((b1.wt + b2.wt:Nat):Int)=m
      omega
noncomputable def spBk (K:PySem.W.Frag):Sp:=fun vs H Q _=>∃ (a:Addr) (ns:List Int) (k m:Int),vs=[.ref a,.int k,.int m]∧SqL K H a (ns.map V.int)∧0≤k∧1≤m∧m≤12∧∀ (b:Br Str) bv H',Same H H'→BrV H' b bv→(b.wt:Int)≤m→Q bv H'
theorem scBk:FnScope ["script","at","most","cell"] ["script","at","most"] (defScope (top 22)):=⟨rfl,rfl,rfl,by decide +kernel,rfl,by decide +kernel,by decide +kernel⟩
theorem ok_bk (T:Blt mg) (F:At K mg "_law_bracket" (top 22) ["script","at","most"] f fd) (FR:At K mg "_law_raw" (top 19) ["script","k"] fr rd) (FS:At K mg "_law_stir" (top 15) ["cell"] fs sd) (FB:At K mg "_law_by_digits" (top 20) ["cell","many"] fb bd)
    (FM:At K mg "_law_mixed" (top 21) ["cell","many","k"] fm md) (FD:At K mg "_law_draw" (top 18) ["cell","k","bound"] fd' dd):FnOk P w K mg base CX0 14 f fd ["script","at","most"] (spBk K):=by
  have GR:FnOk P w K mg base CX0 1 fr rd ["script","k"] (spRaw K):=ok_raw T FR
  have GS:FnOk P w K mg base CX0 1 fs sd ["cell"] spStir:=ok_stir FS
  have GB:FnOk P w K mg base CX0 12 fb bd ["cell","many"] (spBd 12):=ok_bd FB 12
  have GM:FnOk P w K mg base CX0 13 fm md ["cell","many","k"] (spMx 12):=ok_mx FM FD 12
  refine F.fn.ok scBk (fun vs H Q E h=>?_) (fun cdv A outer s H vs Q E hr h=>?_)
  · obtain ⟨a,ns,k,m,rfl,_⟩:=h
    rfl
  obtain ⟨a,ns,k,m,rfl,hS,h0,h1,h12,q⟩:=h
  have hr1:Room 1 _:=hr.mono (by omega)
  have hr12:Room 12 _:=hr.mono (by omega)
  refine ⟨_,pss_cons (ps_set (i:=3) scBk.nd rfl (Or.inl rfl) (pe_call GR hr1 rfl FR.m FR.k FR.b .nil pass0 (pa_cons (pv 0) (pa_cons (pv 1) pa_nil))))
    (pss_cons (ps_if (pt_cmpR op_eq (pe_op op_mod (pv 3) pe_int) pe_int (nomark _)) (pss_one (ps_ret (pe_ix ix_tup (pe_call GB hr12 rfl FB.m FB.k FB.b .nil pass0 (pa_cons (pe_op op_fdiv (pe_op op_fdiv (pv 3) pe_int) (pv 2)) (pa_cons (pe_op op_add pe_int (pe_op op_mod (pe_op op_fdiv (pv 3) pe_int) (pv 2))) pa_nil))) pe_int (fun _ _=>rfl)))) pss_nil)
    (pss_cons (ps_set (i:=3) scBk.nd rfl (Or.inl rfl) (pe_call GS hr1 rfl FS.m FS.k FS.b .nil pass0 (pa_cons (pv 3) pa_nil)))
    (pss_one (ps_ret (pe_call GM hr rfl FM.m FM.k FM.b .nil pass0 (pa_cons (pe_op op_fdiv (pv 3) (pv 2)) (pa_cons (pe_op op_add pe_int (pe_op op_mod (pv 3) (pv 2))) (pa_cons pe_int pa_nil)))))))),?_⟩
  refine ⟨_,rfl,_,rfl,a,ns,k,rfl,hS,h0,fun c=>?_⟩
  refine ⟨_,rfl,_,_,rfl,rfl,(by show (0:Int) < _;decide),rfl,_,rfl,?_⟩
  refine ite2 (fun e=>?_) (fun e=>?_)
  · have m1:=mod_lt (i:=c / 2) (j:=m) (by omega)
    refine ⟨_,rfl,_,_,rfl,rfl,⟨by decide,by decide⟩,_,rfl,_,_,rfl,rfl,⟨by omega,by omega⟩,_,rfl,_,_,rfl,rfl,⟨by decide,by decide⟩,_,rfl,_,_,rfl,rfl,(by show 0 < m;omega),_,_,rfl,rfl,_,1 + c / 2 % m,rfl,by omega,by omega,by omega,fun p b bv c' H' s1 hb hw hp=>?_⟩
    exact ⟨p,_,_,_,rfl,rfl,.inl (.inl hp),rfl,q b bv H' s1 hb (by omega)⟩
  · refine ⟨_,rfl,c,rfl,fun i H1 s1=>?_⟩
    have m1:=mod_lt (i:=i) (j:=m) (by omega)
    refine ⟨_,rfl,_,rfl,_,_,rfl,rfl,⟨by omega,by omega⟩,_,rfl,_,rfl,_,_,rfl,rfl,(by show 0 < m;omega),_,_,rfl,rfl,_,1 + i % m,_,rfl,by omega,by omega,by omega,fun b bv H' s2 hb hw=>?_⟩
    exact q b bv H' (s1.trans s2) hb (by omega)
noncomputable def spSm (K:PySem.W.Frag):Sp:=fun vs H Q _=>∃ (a:Addr) (ns:List Int) (k n m:Int),vs=[.ref a,.int k,.int n,.int m]∧SqL K H a (ns.map V.int)∧0≤k∧0≤n∧n≤60∧1≤m∧m≤12 ∧
  ∀ t ps (T:List (Int×Br Str)) H',H t=none→Same H H'→H' t=some (.lst ps)→TotV K H' t ps T→(T.length:Int)≤n→(∀ x∈T,(x.2.wt:Int)≤m∧x.1.natAbs≤10 ^ 29)→Q (.ref t) H'
theorem scSm:FnScope ["script","at","tuples","most","found","k","cell","count"] ["script","at","tuples","most"] (defScope (top 23)):=⟨rfl,rfl,rfl,by decide +kernel,rfl,by decide +kernel,by decide +kernel⟩
theorem ok_sm (T:Blt mg) (F:At K mg "_law_sum" (top 23) ["script","at","tuples","most"] f fd) (FC:At K mg "_law_cell" (top 16) ["script","k"] fc cd) (FS:At K mg "_law_stir" (top 15) ["cell"] fs sd) (FB:At K mg "_law_bracket" (top 22) ["script","at","most"] fb bd) (GB:FnOk P w K mg base CX0 14 fb bd ["script","at","most"] (spBk K)) :
    FnOk P w K mg base CX0 15 f fd ["script","at","tuples","most"] (spSm K):=by
  have GC:FnOk P w K mg base CX0 2 fc cd ["script","k"] (spCell K):=ok_cell T FC FS
  refine F.fn.ok scSm (fun vs H Q E h=>?_) (fun cdv A outer s H vs Q E hr h=>?_)
  · obtain ⟨a,ns,k,n,m,rfl,_⟩:=h
    rfl
  obtain ⟨a,ns,k,n,m,rfl,hS,h0,n0,n1,h1,h12,q⟩:=h
  have hr2:Room 2 _:=hr.mono (by omega)
  refine ⟨_,pss_cons (ps_set (i:=4) scSm.nd rfl (Or.inl rfl) (pe_lst pa_nil))
    (pss_cons (ps_for PassesOwn.never rfl (pi_range1 rfl T.rng (pa_cons (pe_op op_mod (pe_call GC hr2 rfl FC.m FC.k FC.b .nil pass0 (pa_cons (pv 0) (pa_cons (pv 1) pa_nil))) (pe_op op_add (pv 2) pe_int)) pa_nil)) (pg_name (i:=5) scSm.nd rfl (Or.inl rfl))
      (pss_cons (ps_set (i:=6) scSm.nd rfl (Or.inl rfl) (pe_call GC hr2 rfl FC.m FC.k FC.b .nil pass0 (pa_cons (pv 0) (pa_cons (pe_op op_add (pe_op op_add (pv 1) pe_int) (pe_op op_mul pe_int (pv 5))) pa_nil))))
      (pss_cons (ps_set (i:=7) scSm.nd rfl (Or.inl rfl) (pe_op op_sub (pe_op op_mod (pe_op op_fdiv (pv 6) pe_int) pe_int) pe_int))
      (pss_cons (ps_if (pt_cmpR op_eq (pe_op op_mod (pv 6) pe_int) pe_int (nomark _)) (pss_one (ps_set (i:=7) scSm.nd rfl (Or.inl rfl) (pe_op op_sub (pe_op op_mod (pe_op op_fdiv (pv 6) pe_int) (pe_op op_pow pe_int pe_int)) (pe_op op_mul pe_int (pe_op op_pow pe_int pe_int))))) pss_nil)
      (pss_one (ps_expr (pe_bm PySem.F.plainAttrs_list PySem.F.slot_list_append PySem.F.type_list_append mt_append (pv 4) (pa_cons (pe_tup (pa_cons (pv 7) (pa_cons (pe_call GB hr rfl FB.m FB.k FB.b .nil pass0 (pa_cons (pv 0) (pa_cons (pe_op op_add (pe_op op_add (pv 1) pe_int) (pe_op op_mul pe_int (pv 5))) (pa_cons (pv 3) pa_nil)))) pa_nil))) pa_nil))))))))
    (pss_one (ps_ret (pv 4)))),?_⟩
  have h62:=p62
  have hz:=sizeLine_eq
  refine ⟨by show 0≤sizeLine;decide,fun t nt=>?_⟩
  have s0:=new_same nt (.lst [])
  refine ⟨_,rfl,_,rfl,a,ns,k,rfl,s0.seq hS,h0,fun c H1 s1=>?_⟩
  have m1:=mod_lt (i:=c) (j:=n + 1) (by omega)
  refine ⟨_,rfl,_,_,rfl,rfl,_,_,rfl,rfl,(by show 0 < n + 1;omega),c % (n + 1),rfl,by omega,by omega,?_⟩
  refine for_range (lo:=0) (n:=(c % (n + 1)).toNat) (fun i σ Hx=>∃ x5 x6 x7 ps,∃ TT:List (Int×Br Str),σ=[some (.ref a),some (.int k),some (.int n),some (.int m),some (.ref t),x5,x6,x7]∧Same H Hx∧Hx t=some (.lst ps)∧TotV K Hx t ps TT∧TT.length=i∧∀ x∈TT,(x.2.wt:Int)≤m∧x.1.natAbs≤10 ^ 29) ?_ ?_ ?_
  · refine ⟨none,none,none,[],[],rfl,s0.trans s1,s1 _ _ upd_same,⟨.inl (.inl (s1 _ _ upd_same)),rfl,fun i x e=>by cases e⟩,rfl,fun x hx=>by cases hx⟩
  · rintro i σ Hx hi ⟨x5,x6,x7,ps,TT,rfl,sx,xt,hT,hl,hw⟩
    refine ⟨_,rfl,_,rfl,_,_,rfl,rfl,_,rfl,_,_,rfl,rfl,cmul_l (by decide) (by decide),_,_,rfl,rfl,a,ns,_,rfl,sx.seq hS,by omega,fun g H2 s2=>?_⟩
    refine ⟨_,rfl,_,_,rfl,rfl,⟨by decide,by decide⟩,_,_,rfl,rfl,(by show (0:Int) < _;decide),_,_,rfl,rfl,?_⟩
    have fin:∀ (cnt:Int),cnt.natAbs≤10 ^ 29→tDrop (tBM K "list" rAppend (tVar 4) (tCons (tTup (tCons (tVar 7) (tCons (tCall (spBk K) [] E0 (tCons (tVar 0) (tCons (tOp (rI0 fun i j=>V.int (i + j)) (tOp (rI0 fun i j=>V.int (i + j)) (tVar 1) (tC (.int 2))) (tOp (rI CMul fun i j=>V.int (i * j)) (tC (.int 2)) (tVar 5))) (tCons (tVar 3) tNil)))) tNil))) tNil))
        { nx:=fun σ Hx=>∃ x5 x6 x7 ps,∃ TT:List (Int×Br Str),σ=[some (.ref a),some (.int k),some (.int n),some (.int m),some (.ref t),x5,x6,x7]∧Same H Hx∧Hx t=some (.lst ps)∧TotV K Hx t ps TT∧TT.length=i + 1∧∀ x∈TT,(x.2.wt:Int)≤m∧x.1.natAbs≤10 ^ 29,rt:=Q }
        [some (.ref a),some (.int k),some (.int n),some (.int m),some (.ref t),some (.int (0 + (i:Int))),some (.int g),some (.int cnt)] H2:=by
      intro cnt hcnt
      refine ⟨_,rfl,.inl ⟨rfl,_,.inl (.inl (s2 _ _ xt))⟩,_,rfl,_,rfl,_,rfl,_,_,rfl,rfl,_,rfl,_,_,rfl,rfl,cmul_l (by decide) (by decide),_,_,rfl,rfl,_,rfl,a,ns,_,m,rfl,(sx.trans s2).seq hS,by omega,h1,h12,fun b bv H3 s3 hb hbw=>?_⟩
      refine ⟨(by show 2≤sizeLine;decide),fun p np=>?_⟩
      have s4:=new_same np (.tup [.int cnt,bv])
      have xt4:=s4 _ _ (s3 _ _ (s2 _ _ xt))
      have npt:p≠t:=fun z=>by rw [z,s3 _ _ (s2 _ _ xt)] at np;cases np
      refine ⟨t,ps,_,rfl,rfl,xt4,by rw [hT.2.1];omega,?_⟩
      have sAll:Same H (upd (upd H3 p (.tup [.int cnt,bv])) t (.lst (ps++[.ref p]))):=upd_same2 (sx.trans (s2.trans (s3.trans s4))) nt
      have up:∀ q o,q≠t→(upd H3 p (.tup [.int cnt,bv])) q=some o→(upd (upd H3 p (.tup [.int cnt,bv])) t (.lst (ps++[.ref p]))) q=some o:=fun q o nq e=>by rw [upd_ne nq];exact e
      have brv:∀ {b:Br Str} {v:V},BrV (upd H3 p (.tup [.int cnt,bv])) b v→BrV (upd (upd H3 p (.tup [.int cnt,bv])) t (.lst (ps++[.ref p]))) b v:=by
        intro b
        induction b with
        | leaf x=>intro v h;exact h
        | node b1 b2 i1 i2 =>
          rintro v ⟨q,u,w,e,h,g1,g2⟩
          refine ⟨q,u,w,e,up q _ (fun z=>?_) h,i1 g1,i2 g2⟩
          rw [z,xt4] at h
          cases h
      have hT4:=hT.same (s2.trans (s3.trans s4))
      refine ⟨_,_,_,ps++[.ref p],TT++[(cnt,b)],rfl,sAll,upd_same,⟨.inl (.inl upd_same),by simp [hT.2.1],fun j x e=>?_⟩,by simp [hl],fun x hx=>?_⟩
      · by_cases hj:j < TT.length
        · rw [List.getElem?_append_left hj] at e
          obtain ⟨q,v,e1,e2,e3⟩:=hT4.2.2 j x e
          refine ⟨q,v,by rw [List.getElem?_append_left (by rw [hT.2.1];exact hj)];exact e1,up q _ (fun z=>?_) e2,brv e3⟩
          rw [z,xt4] at e2
          cases e2
        · have hjl:=(List.getElem?_eq_some_iff.mp e).1
          rw [List.length_append] at hjl
          have hj2:j=TT.length:=by simp at hjl;omega
          subst hj2
          rw [List.getElem?_append_right (Nat.le_refl _),Nat.sub_self] at e
          cases e
          refine ⟨p,bv,by rw [List.getElem?_append_right (by rw [hT.2.1];exact Nat.le_refl _),hT.2.1,Nat.sub_self];rfl,up p _ npt upd_same,brv (hb.same s4)⟩
      · rcases List.mem_append.mp hx with z | z
        · exact hw x z
        · have e:x=(cnt,b):=by simpa using z
          rw [e];exact ⟨hbw,hcnt⟩
    refine ⟨_,rfl,_,_,rfl,rfl,(by show (0:Int) < _;decide),rfl,_,rfl,?_⟩
    refine ite2 (fun e=>?_) (fun e=>?_)
    · refine ⟨_,rfl,_,_,rfl,rfl,⟨by decide,by decide⟩,_,_,rfl,rfl,⟨by decide,by decide,by decide⟩,_,_,rfl,rfl,(by show (0:Int) < _;decide),_,_,rfl,rfl,⟨by decide,by decide,by decide⟩,_,_,rfl,rfl,cmul_l (by decide) (by decide),_,_,rfl,rfl,?_⟩
      refine fin _ ?_
      have e1:(10:Int) ^ ((29:Int).toNat)=100000000000000000000000000000:=by decide
      have e2:(10:Int) ^ ((28:Int).toNat)=10000000000000000000000000000:=by decide
      have e3:(10:Nat) ^ 29=100000000000000000000000000000:=by decide
      have mm:=mod_lt (i:=g / 8) (j:=(10:Int) ^ ((29:Int).toNat)) (by decide)
      rw [e3]
      rw [e1] at mm ⊢
      rw [e2]
      omega
    · refine fin _ ?_
      have e3:(10:Nat) ^ 29=100000000000000000000000000000:=by decide
      have mm:=mod_lt (i:=g / 8) (j:=7) (by decide)
      rw [e3]
      omega
  · rintro σ Hx ⟨x5,x6,x7,ps,TT,rfl,sx,xt,hT,hl,hw⟩
    exact ⟨_,rfl,q t ps TT Hx nt sx xt hT (by omega) hw⟩
end
end K01
end
section
namespace K01
open PySem PySem.Spec PyProof.Rows Tim L2 Wm
noncomputable abbrev Ls (x:Str):List Nat:=x.cps.toList
noncomputable def mk (l:List Nat):Str:=⟨l.toArray⟩
theorem Ls_mk (l:List Nat):Ls (mk l)=l:=by simp [Ls,mk]
theorem mk_Ls (x:Str):mk (Ls x)=x:=by cases x;simp [mk,Ls]
theorem str_ext {x y:Str} (h:Ls x=Ls y):x=y:=by rw [← mk_Ls x,← mk_Ls y,h]
theorem len_Ls (x:Str):(Ls x).length=x.length:=by rw [Array.length_toList];rfl
theorem len_mk (l:List Nat):(mk l).length=l.length:=by rw [← len_Ls,Ls_mk]
theorem Ls_cat (x y:Str):Ls (x++y)=Ls x++Ls y:=by
  show (x.cps++y.cps).toList=_
  simp
theorem slice_from {x:Str} {i:Nat} (h:i≤x.length):Txt.slice x (some (i:Int)) none=mk ((Ls x).drop i):=by
  apply str_ext
  rw [Ls_mk]
  have:=sl_from (x:=x) (i:=(i:Int)) ⟨by omega,by omega⟩
  simpa using this
theorem slice_to {x:Str} {i:Nat} (h:i≤x.length):Txt.slice x none (some (i:Int))=mk ((Ls x).take i):=by
  apply str_ext
  rw [Ls_mk]
  have:=sl_to (x:=x) (j:=(i:Int)) ⟨by omega,by omega⟩
  simpa using this
theorem lk2 {x a b c:Str} {k:NameKind} (h:List.lookup x [(a,NameKind.local),(b,NameKind.local),(c,NameKind.cell)]=some k) (hk:k≠.local):x=c:=by
  rw [List.lookup_cons] at h
  split at h
  · cases h;exact absurd rfl hk
  · rw [List.lookup_cons] at h
    split at h
    · cases h;exact absurd rfl hk
    · rw [List.lookup_cons] at h
      split at h
      · rename_i e;exact eq_of_beq e
      · cases h
section
variable {P:Program} {w:World} {K:PySem.W.Frag} {mg:Str→Option Value} {base:Heap} {f fa fn ft fp fr:Addr} {fd ad nd td pd rd:FuncData}
end
end K01
end
section
namespace K01
open PySem PySem.Spec PyProof.Rows Tim L2 Wm
section
variable {P:Program} {w:World} {K:PySem.W.Frag} {mg:Str→Option Value} {base:Heap} {f:Addr} {fd:FuncData}
theorem scWtP:FnScope ["bracket"] ["bracket"] (defScope (top 3)):=⟨rfl,rfl,rfl,by decide +kernel,rfl,by decide +kernel,by decide +kernel⟩
end
end K01
end
section
namespace K01
open PySem PySem.Spec PyProof.Rows Tim L2 Wm
theorem eqv_mono' {K:PySem.W.Frag} {H:Hp} {n:Nat} {u v:V} {k:Bool} (hh:EqV K H n u v k):∀ m,n≤m→EqV K H m u v k:=by
  induction hh with
  | int n i j=>intro m _;exact .int m i j
  | str n i j=>intro m _;exact .str m i j
  | bl n i j=>intro m _;exact .bl m i j
  | same n a=>intro m _;exact .same m a
  | @tup n a b xs ys e ne ha hb h ih =>
    intro m hm
    obtain ⟨k,rfl⟩:∃ k,m=k + 1:=⟨m - 1,by omega⟩
    exact .tup ne ha hb fun j u v e1 e2=>ih j u v e1 e2 k (by omega)
  | @lst n a b xs ys e ne ha hb h ih =>
    intro m hm
    obtain ⟨k,rfl⟩:∃ k,m=k + 1:=⟨m - 1,by omega⟩
    exact .lst ne ha hb fun hl j u v e1 e2=>ih hl j u v e1 e2 k (by omega)
theorem eqv_br' {K:PySem.W.Frag} {H:Hp}:∀ {b:Br Str} {u v:V},BrV H b u→BrV H b v→EqV K H b.wt u v true
  | .leaf x,u,v,hu,hv=>by rw [hu.1,hv.1];exact eqv_self (.inr (.inl ⟨x,rfl⟩))
  | .node a b,u,v,⟨p,x,y,e,h,h1,h2⟩,⟨p',x',y',e',h',h1',h2'⟩=>by
    subst e e'
    by_cases z:p=p'
    · subst z;exact EqV.same _ _
    · have w1:=br_wt_pos a
      have w2:=br_wt_pos b
      have key:=EqV.tup (K:=K) (H:=H) (n:=a.wt + b.wt - 1) (e:=fun _=>true) z (xs:=[x,y]) (ys:=[x',y']) (.inl (.inl h)) (.inl (.inl h')) (fun j u v e1 e2=>by
        rcases j with _ | _ | j
        · cases e1;cases e2;exact eqv_mono' (eqv_br' h1 h1') _ (by omega)
        · cases e1;cases e2;exact eqv_mono' (eqv_br' h2 h2') _ (by omega)
        · cases e1)
      have e:a.wt + b.wt - 1 + 1=(Br.node a b).wt:=by show _=a.wt + b.wt;omega
      rw [← e]
      exact key
end K01
end
section
namespace K01
open PySem PySem.Spec PyProof.Rows Tim L2 Wm
noncomputable def bt:Br Str→List Nat
  | .leaf x=>Ls x
  | .node a b=>91 :: (bt a++44 :: (bt b++[93]))
noncomputable def nt (m:Nat):List Nat:=(Nat.toDigits 10 m).map Char.toNat
noncomputable def ct (c:Int):List Nat:=(if c < 0 then 45 else 43) :: nt c.natAbs
noncomputable def tt (x:Int×Br Str):List Nat:=ct x.1++bt x.2
noncomputable def sxt (T:List (Int×Br Str)):List Nat:=T.flatMap tt
theorem mk_cat (a b:List Nat):mk a++mk b=mk (a++b):=str_ext (by rw [Ls_cat,Ls_mk,Ls_mk,Ls_mk])
theorem bt_len:∀ {b:Br Str},b.ok (fun x=>x.length=1)→(bt b).length + 3=4 * b.wt
  | .leaf x,h=>by
    have h:x.length=1:=h
    show (Ls x).length + 3=4 * 1
    rw [len_Ls];omega
  | .node a b,h=>by
    have h1:=bt_len h.1
    have h2:=bt_len h.2
    show (91 :: (bt a++44 :: (bt b++[93]))).length + 3=4 * (a.wt + b.wt)
    simp only [List.length_cons,List.length_append,List.length_nil]
    omega
theorem nt_len {m:Nat} (h:m < 10 ^ 30):(nt m).length≤30:=by
  unfold nt;rw [List.length_map];exact toDigits_len_pow (by decide) (by decide) h
theorem nt_pos (m:Nat):1≤(nt m).length:=by
  unfold nt;rw [List.length_map];exact toDigits_len_ge 10 m
theorem nt_dig {m:Nat}:PySem.NumText.AllDigits (nt m):=fun c hc=>by
  obtain ⟨ch,hch,e⟩:=List.mem_map.mp hc
  have r:=PyProof.Rows.digit_range (Nat.isDigit_of_mem_toDigits (by decide) (by decide) hch)
  rw [← e];exact r
theorem nt_num (m:Nat):Str.ofString (toString (m:Int))=mk (nt m):=str_ext (by rw [Ls_mk];exact PySem.W.KIN.signs_num m)
theorem nt_reads {m:Nat} (h:m < 10 ^ 30):intText? (mk (nt m))=some (m:Int):=by
  have e:=PySem.intText_digits (x:=mk (nt m)) (by rw [show (mk (nt m)).cps.toList=nt m from Ls_mk _];exact nt_dig) (by
    rw [show (mk (nt m)).cps.toList=nt m from Ls_mk _]
    intro z
    have:=nt_pos m
    rw [z] at this
    exact absurd this (by decide)) (by rw [len_mk];have:=nt_len h;omega)
  rw [show (mk (nt m)).cps.toList=nt m from Ls_mk _] at e
  rw [e,show PySem.NumText.digitsVal (nt m)=m from PySem.W.KIN.val_back m]
theorem nt_zero {m:Nat} {r:List Nat} (h:nt m=48 :: r):r=[]:=by
  have:∀ k:Nat,∀ m,m≤k→∀ r,nt m=48 :: r→r=[]:=by
    intro k
    induction k with
    | zero =>
      intro m hm r h
      have:m=0:=by omega
      subst this
      have e:nt 0=[48]:=by decide
      rw [e] at h
      exact (List.cons.inj h).2.symm
    | succ k ih =>
      intro m hm r h
      by_cases q:m < 10
      · unfold nt at h
        rw [Nat.toDigits_of_lt_base q] at h
        exact (List.cons.inj h).2.symm
      · have t:Nat.toDigits 10 (m / 10)++Nat.toDigits 10 (m % 10)=Nat.toDigits 10 (10 * (m / 10) + m % 10):=Nat.toDigits_append_toDigits (by decide) (by omega) (Nat.mod_lt m (by decide))
        rw [Nat.div_add_mod] at t
        unfold nt at h
        rw [← t,List.map_append] at h
        have p:=nt_pos (m / 10)
        cases e:nt (m / 10) with
        | nil=>rw [e] at p;exact absurd p (by decide)
        | cons c l =>
          have e':(Nat.toDigits 10 (m / 10)).map Char.toNat=c :: l:=e
          rw [e',List.cons_append] at h
          have hc:=(List.cons.inj h).1
          subst hc
          have hl:=ih (m / 10) (by omega) l e
          subst hl
          have v:PySem.NumText.digitsVal (nt (m / 10))=m / 10:=PySem.W.KIN.val_back (m / 10)
          rw [e] at v
          have:PySem.NumText.digitsVal [48]=0:=by decide
          omega
  exact this m m (Nat.le_refl _) r h
theorem abs_nat (c:Int):(if c < 0 then -c else c)=(c.natAbs:Int):=by split <;> omega
theorem sm29 {c:Int} (h:c.natAbs≤10 ^ 29):c.natAbs < 10 ^ 30:=Nat.lt_of_le_of_lt h (by decide)
theorem log29 {c:Int} (h:c.natAbs≤10 ^ 29):((c.natAbs:Int)).natAbs.log2 < 1920:=by
  have e:((c.natAbs:Int)).natAbs=c.natAbs:=Int.natAbs_natCast _
  rw [e]
  by_cases z:c.natAbs=0
  · rw [z];decide
  · exact Nat.lt_trans ((Nat.log2_lt z).mpr (Nat.lt_of_le_of_lt h (by decide:10 ^ 29 < 2 ^ 100))) (by decide)
theorem ct_len {c:Int} (h:c.natAbs≤10 ^ 29):(ct c).length≤31:=by
  have:=nt_len (sm29 h)
  unfold ct;rw [List.length_cons];omega
theorem tt_len {x:Int×Br Str} (h1:x.2.ok (fun y=>y.length=1)) (h:x.2.wt≤12∧x.1.natAbs≤10 ^ 29):(tt x).length≤100:=by
  have:=ct_len h.2
  have:=bt_len h1
  unfold tt;rw [List.length_append];omega
theorem sxt_len {T:List (Int×Br Str)} (h:∀ x∈T,(tt x).length≤100):(sxt T).length≤T.length * 100:=by
  induction T with
  | nil=>exact Nat.le_refl _
  | cons x T ih =>
    have h1:=h x List.mem_cons_self
    have h2:=ih fun y hy=>h y (List.mem_cons_of_mem _ hy)
    unfold sxt at h2 ⊢
    rw [List.flatMap_cons,List.length_append,List.length_cons]
    omega
theorem sxt_succ {T:List (Int×Br Str)} {x:Int×Br Str} {i:Nat} (e:T[i]? = some x):sxt (T.take (i + 1))=sxt (T.take i)++tt x:=by
  unfold sxt;rw [List.take_add_one,e,List.flatMap_append];simp
theorem L_lb:Str.ofString "[" = mk [91]:=str_ext (by decide +kernel)
theorem L_rb:Str.ofString "]" = mk [93]:=str_ext (by decide +kernel)
theorem L_cm:Str.ofString "," = mk [44]:=str_ext (by decide +kernel)
theorem L_pl:Str.ofString "+" = mk [43]:=str_ext (by decide +kernel)
theorem L_mi:Str.ofString "-" = mk [45]:=str_ext (by decide +kernel)
theorem L_no:Str.ofString "0" = mk [48]:=str_ext (by decide +kernel)
theorem L_em:Str.ofString "" = mk []:=str_ext (by decide +kernel)
theorem mk_empty:Str.empty=mk []:=str_ext (by decide +kernel)
theorem bt_leaf (x:Str):mk (bt (.leaf x))=x:=mk_Ls x
section
variable {P:Program} {w:World} {K:PySem.W.Frag} {mg:Str→Option Value} {base:Heap} {f fc fb:Addr} {fd cd bd:FuncData}
noncomputable def spBt (n:Nat):Sp:=fun vs H Q _=>∃ (b:Br Str) (v:V),vs=[v]∧BrV H b v∧b.wt≤n∧b.wt≤12∧Q (.str (mk (bt b))) H
theorem scLbt:FnScope ["bracket"] ["bracket"] (defScope (top 24)):=⟨rfl,rfl,rfl,by decide +kernel,rfl,by decide +kernel,by decide +kernel⟩
theorem ok_lbt (T:Blt mg) (F:At K mg "_law_bracket_text" (top 24) ["bracket"] f fd):∀ n:Nat,FnOk P w K mg base CX0 n f fd ["bracket"] (spBt n)
  | 0=>fn_zero fun vs H Q E h=>by
    obtain ⟨b,v,_,_,h,_⟩:=h
    have:=br_wt_pos b
    omega
  | n + 1=>by
    have G:=ok_lbt T F n
    refine F.fn.ok scLbt (fun vs H Q E h=>?_) (fun cdv A outer s H vs Q E hr h=>?_)
    · obtain ⟨b,v,rfl,_⟩:=h
      rfl
    obtain ⟨b,v,rfl,hb,hn,h12,q⟩:=h
    refine ⟨_,pss_cons (ps_if (pt_val (pe_callB call_isi rfl T.isi boot_isi (pa_cons (pv 0) (pa_cons (pe_ty rfl T.str bt_str) pa_nil)))) (pss_one (ps_ret (pv 0))) pss_nil)
      (pss_one (ps_ret (pe_op op_add_str (pe_op op_add_str (pe_op op_add_str (pe_op op_add_str pe_str (pe_call G hr rfl F.m F.k F.b .nil pass0 (pa_cons (pe_ix ix_tup (pv 0) pe_int (fun _ _=>rfl)) pa_nil))) pe_str)
        (pe_call G hr rfl F.m F.k F.b .nil pass0 (pa_cons (pe_ix ix_tup (pv 0) pe_int (fun _ _=>rfl)) pa_nil))) pe_str))),?_⟩
    have hz:=sizeLine_eq
    cases b with
    | leaf x =>
      obtain ⟨rfl,hx⟩:=hb
      refine ⟨_,rfl,_,_,_,rfl,.ss x,_,rfl,iteT ⟨_,rfl,?_⟩⟩
      rw [bt_leaf] at q
      exact q
    | node a b =>
      obtain ⟨p,u,w,rfl,hp,h1,h2⟩:=hb
      have hn:a.wt + b.wt≤n + 1:=hn
      have h12:a.wt + b.wt≤12:=h12
      have:=br_wt_pos a
      have:=br_wt_pos b
      have la:=bt_len h1.ok
      have lb:=bt_len h2.ok
      have l0:∀ l:List Nat,l.length≤100→(mk l).length≤sizeLine:=fun l h=>by rw [len_mk];omega
      refine ⟨_,rfl,_,_,_,rfl,.ts hp,_,rfl,iteF ?_⟩
      refine ⟨_,rfl,p,_,_,_,rfl,rfl,.inl (.inl hp),rfl,a,u,rfl,h1,by omega,by omega,?_⟩
      have k0:∀ l m:List Nat,l.length + m.length≤100→(mk l).length + (mk m).length≤sizeLine:=fun l m h=>by rw [len_mk,len_mk];omega
      rw [L_lb,L_cm,L_rb]
      refine ⟨_,_,rfl,rfl,k0 _ _ (by simp;omega),?_⟩
      rw [mk_cat]
      refine ⟨_,_,rfl,rfl,k0 _ _ (by simp;omega),?_⟩
      rw [mk_cat]
      refine ⟨_,rfl,p,_,_,_,rfl,rfl,.inl (.inl hp),rfl,b,w,rfl,h2,by omega,by omega,?_⟩
      refine ⟨_,_,rfl,rfl,k0 _ _ (by simp;omega),?_⟩
      rw [mk_cat]
      refine ⟨_,_,rfl,rfl,k0 _ _ (by simp;omega),?_⟩
      rw [mk_cat]
      have eq:(((([91]++bt a)++[44])++bt b)++[93])=bt (.node a b):=by simp [bt]
      rw [eq]
      exact q
end
end K01
end
section
namespace K01
open PySem PySem.Spec PyProof.Rows Tim L2 Wm
noncomputable def stx (T:List (Int×Br Str)):List Nat:=if T=[] then [48] else sxt T
section
variable {P:Program} {w:World} {K:PySem.W.Frag} {mg:Str→Option Value} {base:Heap} {f fc fb:Addr} {fd cd bd:FuncData}
noncomputable def spWr (K:PySem.W.Frag):Sp:=fun vs H Q _=>∃ (t:Addr) (ps:List V) (T:List (Int×Br Str)),vs=[.ref t]∧TotV K H t ps T∧T.length≤100∧(∀ x∈T,x.2.wt≤12∧x.1.natAbs≤10 ^ 29)∧∀ H',Same H H'→Q (.str (mk (stx T))) H'
theorem scLt:FnScope ["total","text","count","bracket","sign"] ["total"] (defScope (top 25)):=⟨rfl,rfl,rfl,by decide +kernel,rfl,by decide +kernel,by decide +kernel⟩
theorem ok_lt (T:Blt mg) (F:At K mg "_law_text" (top 25) ["total"] f fd) (FB:At K mg "_law_bracket_text" (top 24) ["bracket"] fb bd):FnOk P w K mg base CX0 13 f fd ["total"] (spWr K):=by
  have GB:FnOk P w K mg base CX0 12 fb bd ["bracket"] (spBt 12):=ok_lbt T FB 12
  refine F.fn.ok scLt (fun vs H Q E h=>?_) (fun cdv A outer s H vs Q E hr h=>?_)
  · obtain ⟨t,ps,TT,rfl,_⟩:=h
    rfl
  obtain ⟨t,ps,TT,rfl,hT,hl,h12,q⟩:=h
  refine ⟨_,pss_cons (ps_if (pt_cmpR op_eqLs (pv 0) (pe_lst pa_nil) (nomark _)) (pss_one (ps_ret pe_str)) pss_nil)
    (pss_cons (ps_set (i:=1) scLt.nd rfl (Or.inl rfl) pe_str)
    (pss_cons (ps_for PassesOwn.never rfl (pi_list (pv 0)) (pg_tup rfl (pgs_cons (pg_name (i:=2) scLt.nd rfl (Or.inl rfl)) (pgs_cons (pg_name (i:=3) scLt.nd rfl (Or.inl rfl)) pgs_nil)))
      (pss_cons (ps_set (i:=4) scLt.nd rfl (Or.inl rfl) (pe_item_str pe_str (pe_callTy call_int1 rfl T.int bt_int (pa_cons (pe_cmpR op_lt (pv 2) pe_int (nomark _)) pa_nil)) (fun _ _=>rfl)))
      (pss_one (ps_set (i:=1) scLt.nd rfl (Or.inl rfl) (pe_op op_add_str (pe_op op_add_str (pe_op op_add_str (pv 1) (pv 4)) (pe_callTy call_str_int rfl T.str bt_str (pa_cons (pe_callB call_abs rfl T.abs boot_abs (pa_cons (pv 2) pa_nil)) pa_nil))) (pe_call GB hr rfl FB.m FB.k FB.b .nil pass0 (pa_cons (pv 3) pa_nil)))))))
    (pss_one (ps_ret (pv 1))))),?_⟩
  have hz:=sizeLine_eq
  have lp:ps.length=TT.length:=hT.2.1
  have tl:∀ x∈TT,(tt x).length≤100:=fun x hx=>by
    obtain ⟨j,hj⟩:=List.mem_iff_getElem?.mp hx
    obtain ⟨p,bv,e1,e2,e3⟩:=hT.2.2 j x hj
    exact tt_len e3.ok (h12 x hx)
  refine ⟨_,rfl,by show 0≤sizeLine;decide,fun l nl=>?_⟩
  have s0:=new_same nl (.lst [])
  have hT0:=hT.same s0
  refine ⟨t,l,ps,[],0,fun _=>true,rfl,rfl,hT0.1,.inl (.inl upd_same),fun _=>⟨fun j u v e1 e2=>by cases e2⟩,un_of (n:=0) hr (by decide),_,rfl,?_⟩
  refine ite2 (fun e=>?_) (fun e=>?_)
  · have e2:TT=[]:=by
      cases TT with
      | nil=>rfl
      | cons x r =>
        rw [List.length_cons] at lp
        unfold lstEq at e
        rw [lp] at e
        simp at e
    have:=q _ s0
    unfold stx at this
    rw [if_pos e2] at this
    show Q (.str (Str.ofString "0")) _
    rw [L_no]
    exact this
  · have ne:TT≠[]:=fun z=>e (by
      subst z
      have lp:ps.length=0:=lp
      unfold lstEq
      rw [lp]
      rfl)
    refine ⟨_,rfl,t,rfl,⟨_,hT0.1⟩,for_list (K:=K) (a:=t) (xs:=ps) (fun i σ Hx=>∃ y2 y3 y4,σ=[some (.ref t),some (.str (mk (sxt (TT.take i)))),y2,y3,y4]∧Same H Hx) ⟨none,none,none,?_,s0⟩ (fun i σ H2 _ ⟨_,_,_,_,s2⟩=>s2.seq hT.1) ?_ ?_⟩
    · show _=_
      rw [L_em]
      rfl
    · rintro i y σ Hx hi ⟨y2,y3,y4,rfl,sx⟩
      obtain ⟨x,p,bv,hTi,rfl,e2,e3⟩:=hT.at hi
      have hx:=List.mem_of_getElem? hTi
      have h:=h12 _ hx
      have t100:=tl _ hx
      have il:i < TT.length:=(List.getElem?_eq_some_iff.mp hTi).1
      have sl:=sxt_len (T:=TT.take i) fun y hy=>tl y (List.mem_of_mem_take hy)
      rw [List.length_take] at sl
      unfold tt ct at t100
      rw [List.length_append,List.length_cons] at t100
      refine ⟨p,_,rfl,.inl (.inl (sx _ _ e2)),rfl,_,_,rfl,_,_,rfl,rfl,?_⟩
      have k0:∀ l m:List Nat,l.length + m.length≤100000→(mk l).length + (mk m).length≤sizeLine:=fun l m h=>by rw [len_mk,len_mk];omega
      have key:∀ (k:Nat),mk [k]=mk [if x.1 < 0 then 45 else 43]→(mk (sxt (TT.take i))++mk [k]++Str.ofString (toString (x.1.natAbs:Int)))++mk (bt x.2)=mk (sxt (TT.take (i + 1))):=fun k e=>by
        rw [e,nt_num,mk_cat,mk_cat,mk_cat,sxt_succ hTi]
        unfold tt ct
        simp
      have dd:decide (x.1 < 0)=true∨decide (x.1 < 0)=false:=by cases decide (x.1 < 0) <;> simp
      rcases dd with d | d
      · refine ⟨_,rfl,_,_,rfl,rfl,.inr ⟨_,rfl,?_⟩⟩
        rw [d]
        refine ⟨_,_,45,rfl,rfl,by decide,by decide,by decide +kernel,by decide +kernel,?_⟩
        refine ⟨_,rfl,_,rfl,_,_,rfl,rfl,k0 _ [45] (by simp;omega),_,rfl,_,rfl,_,rfl,?_⟩
        rw [abs_nat]
        refine ⟨log29 h.2,_,_,rfl,rfl,?_,_,rfl,x.2,bv,rfl,e3.same sx,h.1,h.1,_,_,rfl,rfl,?_,?_⟩
        · rw [nt_num,show (⟨#[45]⟩:Str)=mk [45] from rfl,mk_cat];exact k0 _ _ (by simp;omega)
        · rw [nt_num,show (⟨#[45]⟩:Str)=mk [45] from rfl,mk_cat,mk_cat];exact k0 _ _ (by simp;omega)
        · rw [show (⟨#[45]⟩:Str)=mk [45] from rfl,key 45 (by rw [if_pos (of_decide_eq_true d)])]
          exact ⟨_,_,_,rfl,sx⟩
      · refine ⟨_,rfl,_,_,rfl,rfl,.inr ⟨_,rfl,?_⟩⟩
        rw [d]
        refine ⟨_,_,43,rfl,rfl,by decide,by decide,by decide +kernel,by decide +kernel,?_⟩
        refine ⟨_,rfl,_,rfl,_,_,rfl,rfl,k0 _ [43] (by simp;omega),_,rfl,_,rfl,_,rfl,?_⟩
        rw [abs_nat]
        refine ⟨log29 h.2,_,_,rfl,rfl,?_,_,rfl,x.2,bv,rfl,e3.same sx,h.1,h.1,_,_,rfl,rfl,?_,?_⟩
        · rw [nt_num,show (⟨#[43]⟩:Str)=mk [43] from rfl,mk_cat];exact k0 _ _ (by simp;omega)
        · rw [nt_num,show (⟨#[43]⟩:Str)=mk [43] from rfl,mk_cat,mk_cat];exact k0 _ _ (by simp;omega)
        · rw [show (⟨#[43]⟩:Str)=mk [43] from rfl,key 43 (by rw [if_neg (of_decide_eq_false d)])]
          exact ⟨_,_,_,rfl,sx⟩
    · rintro σ Hx ⟨y2,y3,y4,rfl,sx⟩
      rw [lp,List.take_length]
      have:=q _ sx
      unfold stx at this
      rw [if_neg ne] at this
      exact ⟨_,rfl,this⟩
end
end K01
end
section
namespace K01
open PySem PySem.Spec PyProof.Rows Tim L2 Wm
noncomputable def rIntT:List V→Hp→VK→Prop:=fun xs H Q=>∃ (x:Str) (n:Int),xs=[.str x]∧intText? x=some n∧x.length≤640∧Q (.int n) H
theorem call_intT {X:Cx}:CallR X (.type "int") rIntT:=by
  intro pins s σ H xs us Q I r h
  obtain ⟨x,n,rfl,h1,h2,q⟩:=h
  obtain ⟨u,rfl,rx⟩:=vals1 r
  obtain ⟨t,rfl⟩:=rx
  exact PySem.W.KIN.call_text h1 h2 ⟨.int n,H,I.tok _,⟨_,rfl⟩,q⟩
noncomputable def rStarts:V→List V→Hp→VK→Prop:=fun x vs H Q=>∃ (z y:Str),x = .str z∧vs=[.str y]∧Q (.bl (Txt.startswith z y)) H
theorem mt_starts {X:Cx}:MtR X "str.startswith" rStarts:=by
  intro pins s σ H x vs v us Q I rx rv h
  obtain ⟨z,y,rfl,rfl,q⟩:=h
  obtain ⟨t,rfl⟩:=rx
  obtain ⟨u,rfl,ru⟩:=vals1 rv
  obtain ⟨t',rfl⟩:=ru
  exact PySem.SC.startswith ⟨.bl _,H,I,rfl,q⟩
noncomputable def fl (z:Str) (p:Nat):List (Str×V):=[("text",.str z),("place",.int p)]
theorem tp_ne:¬ (("text":Str) = "place"):=by decide +kernel
theorem fl_put0 (z:Str) (n:Nat):putF "place" (.int n) (putF "text" (.str z) [])=fl z n:=by
  show (if ("text":Str) = "place" then _ else _)=_
  rw [if_neg tp_ne]
  rfl
theorem fl_text (z:Str) (p:Nat):(fl z p).lookup ("text":Str)=some (.str z):=by
  rw [← fl_put0,lookup_putF,if_neg tp_ne,lookup_putF,if_pos rfl]
theorem fl_place (z:Str) (p:Nat):(fl z p).lookup ("place":Str)=some (.int p):=by
  rw [← fl_put0,lookup_putF,if_pos rfl]
theorem fl_no (z:Str) (p:Nat) {m:Str} (h1:¬ m = "place") (h2:¬ m = "text"):(fl z p).lookup m=none:=by
  rw [← fl_put0,lookup_putF,if_neg h1,lookup_putF,if_neg h2]
  all_goals rfl
theorem fl_put (z:Str) (p n:Nat):putF "place" (.int n) (fl z p)=fl z n:=by
  show (if ("text":Str) = "place" then _ else (("text":Str),V.str z) :: (if ("place":Str) = "place" then [(("place":Str),V.int n)] else _))=_
  rw [if_neg tp_ne,if_pos rfl]
  rfl
theorem fl_len (z:Str) (p:Nat):(fl z p).length < 1000:=by show 2 < 1000;decide
theorem drop_at {z:Str} {p c:Nat} {r:List Nat} (h:(Ls z).drop p=c :: r):z.cps[p]? = some c∧p < z.length∧(Ls z).drop (p + 1)=r:=by
  have hp:p < (Ls z).length:=by
    rcases Nat.lt_or_ge p (Ls z).length with q | q
    · exact q
    · rw [List.drop_eq_nil_of_le q] at h;cases h
  rw [List.drop_eq_getElem_cons hp] at h
  have e1:=(List.cons.inj h).1
  have e2:=(List.cons.inj h).2
  refine ⟨?_,by rw [← len_Ls];exact hp,e2⟩
  have:(Ls z)[p]? = some c:=by rw [List.getElem?_eq_getElem hp,e1]
  rw [Array.getElem?_toList] at this
  exact this
theorem drop_on {z:Str} {p:Nat} {l r:List Nat} (h:(Ls z).drop p=l++r):(Ls z).drop (p + l.length)=r:=by
  rw [← List.drop_drop,h,List.drop_left]
structure MAt (K:PySem.W.Frag) (C:Addr) (m q:Str) (st:Stmt) (ps:List Str) (f:Addr) (fd:FuncData):Prop where
  fn:Fun K m q st f fd
  b:Binds K fd ps []
  m:Meth K C m f
structure Rdr (K:PySem.W.Frag) (C:Addr):Prop where
  cl:Cls K C
  nT:NoAttr K C "text"
  nP:NoAttr K C "place"
noncomputable abbrev rm (j:Nat):Stmt:=inClass (top 13) j
section
variable {P:Program} {w:World} {K:PySem.W.Frag} {mg:Str→Option Value} {base:Heap} {f fe fh ft fw fg fc fb fq C:Addr} {fd ed hd td wd gd cd bd qd:FuncData}
noncomputable def spIn (C:Addr):Sp:=fun vs H Q _=>∃ (x dx:Addr) (z:Str),vs=[.ref x,.str z]∧H x=some (.ins C dx [])∧∀ H',SX x H H'→H' x=some (.ins C dx (fl z 0))→Q .non H'
theorem scIn:FnScope ["self","text"] ["self","text"] (defScope (rm 0)):=⟨rfl,rfl,rfl,by decide +kernel,rfl,by decide +kernel,by decide +kernel⟩
theorem ok_in (R:Rdr K C) (F:Fun K "__init__" "Reader.__init__" (rm 0) f fd):FnOk P w K mg base CX0 1 f fd ["self","text"] (spIn C):=by
  refine F.ok scIn (fun vs H Q E h=>?_) (fun cdv A outer s H vs Q E hr h=>?_)
  · obtain ⟨x,dx,z,rfl,_⟩:=h
    rfl
  obtain ⟨x,dx,z,rfl,hx,q⟩:=h
  refine ⟨_,pss_cons (ps_fld (pv 0) (pv 1) rfl) (pss_one (ps_fld (pv 0) pe_int rfl)),?_⟩
  refine ⟨_,rfl,_,rfl,x,C,dx,[],rfl,hx,R.cl,R.nT,(by show 0 < 1000;decide),_,rfl,x,C,dx,_,rfl,upd_same,R.cl,R.nP,(by show 1 < 1000;decide),?_⟩
  exact q _ (upd_sx sx_upd) (Eq.trans upd_same (congrArg (fun l=>some (HO.ins C dx l)) (fl_put0 z 0)))
noncomputable def spEn (C:Addr):Sp:=fun vs H Q _=>∃ (x dx:Addr) (z:Str) (p:Nat),vs=[.ref x]∧H x=some (.ins C dx (fl z p))∧z.length≤100000∧Q (.bl (decide (p=z.length))) H
theorem scEn:FnScope ["self"] ["self"] (defScope (rm 1)):=⟨rfl,rfl,rfl,by decide +kernel,rfl,by decide +kernel,by decide +kernel⟩
theorem ok_en (T:Blt mg) (R:Rdr K C) (F:MAt K C "at_end" "Reader.at_end" (rm 1) ["self"] f fd):FnOk P w K mg base CX0 1 f fd ["self"] (spEn C):=by
  refine F.fn.ok scEn (fun vs H Q E h=>?_) (fun cdv A outer s H vs Q E hr h=>?_)
  · obtain ⟨x,dx,z,p,rfl,_⟩:=h
    rfl
  obtain ⟨x,dx,z,p,rfl,hx,hl,q⟩:=h
  refine ⟨_,pss_one (ps_ret (pe_cmpR op_eq (pe_fld (pv 0) rfl) (pe_callB call_len_str rfl T.len PySem.boot_len (pa_cons (pe_fld (pv 0) rfl) pa_nil)) (nomark _))),?_⟩
  have hz:=sizeLine_eq
  refine ⟨_,rfl,x,C,dx,_,_,rfl,hx,R.cl,R.nP,fl_place z p,_,rfl,x,C,dx,_,_,rfl,hx,R.cl,R.nT,fl_text z p,z,rfl,by omega,rfl,?_⟩
  have e:decide (V.int (p:Int)=V.int (z.length:Int))=decide (p=z.length):=by
    by_cases h:p=z.length
    · rw [decide_eq_true h,decide_eq_true (by rw [h])]
    · rw [decide_eq_false h,decide_eq_false (fun g=>h (by have:=V.int.inj g;omega))]
  rw [e]
  exact q
theorem scHe:FnScope ["self"] ["self"] (defScope (rm 2)):=⟨rfl,rfl,rfl,by decide +kernel,rfl,by decide +kernel,by decide +kernel⟩
theorem scTk:FnScope ["self","sign"] ["self"] (defScope (rm 3)):=⟨rfl,rfl,rfl,by decide +kernel,rfl,by decide +kernel,by decide +kernel⟩
theorem scWa:FnScope ["self","wanted","sign"] ["self","wanted"] (defScope (rm 4)):=⟨rfl,rfl,rfl,by decide +kernel,rfl,by decide +kernel,by decide +kernel⟩
end
end K01
end
section
namespace K01
open PySem PySem.Spec PyProof.Rows Tim L2 Wm
noncomputable def FIG:Str:=Str.ofString "0123456789"
noncomputable def Beg (c:Nat):Prop:=c=91∨c=97∨c=98∨c=99
theorem fig_in {c:Nat} (h:48≤c∧c≤57):(!(Builtin.Str.occurrences FIG (mk [c]) 0 FIG.length 1).isEmpty)=true:=by
  have key:∀ k:Nat,k < 10→(!(Builtin.Str.occurrences FIG (mk [48 + k]) 0 FIG.length 1).isEmpty)=true:=by decide +kernel
  have:=key (c - 48) (by omega)
  rwa [show 48 + (c - 48)=c by omega] at this
theorem starts0 {l:List Nat} (h:Txt.startswith (mk l) (Str.ofString "0")=true):∃ r,l=48 :: r:=by
  unfold Txt.startswith at h
  rw [Bool.and_eq_true] at h
  have h2:=h.2
  rw [L_no,StrLaws.subAt_eq] at h2
  have h2:=eq_of_beq h2
  rw [show (mk [48]).cps.toList=[48] from Ls_mk _,show (mk l).cps.toList=l from Ls_mk _,show (mk [48]).length=1 from len_mk _,List.drop_zero] at h2
  cases l with
  | nil=>cases h2
  | cons c r=>exact ⟨r,by rw [List.take_succ_cons,List.take_zero] at h2;rw [(List.cons.inj h2).1]⟩
theorem mk_inj {a b:List Nat} (h:mk a=mk b):a=b:=by rw [← Ls_mk a,← Ls_mk b,h]
section
variable {P:Program} {w:World} {K:PySem.W.Frag} {mg:Str→Option Value} {base:Heap} {f fe fh ft fw fg fc fb fq C:Addr} {fd ed hd td wd gd cd bd qd:FuncData}
theorem scFg:FnScope ["self","start","figures"] ["self"] (defScope (rm 7)):=⟨rfl,rfl,rfl,by decide +kernel,rfl,by decide +kernel,by decide +kernel⟩
theorem scCo:FnScope ["self","sign","figures","count"] ["self"] (defScope (rm 6)):=⟨rfl,rfl,rfl,by decide +kernel,rfl,by decide +kernel,by decide +kernel⟩
end
end K01
end
section
namespace K01
open PySem PySem.Spec PyProof.Rows Tim L2 Wm
theorem BrV.sx {H H':Hp} {x:Addr} (hn:∀ l,H x≠some (.tup l)) (s:SX x H H'):∀ {b:Br Str} {v:V},BrV H b v→BrV H' b v:=by
  intro b
  induction b with
  | leaf y=>intro v h;exact h
  | node a b i1 i2 =>
    rintro v ⟨p,u,w,e,h,h1,h2⟩
    exact ⟨p,u,w,e,s p _ (fun z=>hn _ (by rw [← z];exact h)) h,i1 h1,i2 h2⟩
theorem ins_nt {H:Hp} {x C dx:Addr} {fs:List (Str×V)} (h:H x=some (.ins C dx fs)):∀ l,H x≠some (.tup l):=fun l z=>by rw [h] at z;cases z
theorem lst_nt {H:Hp} {x:Addr} {ys:List V} (h:H x=some (.lst ys)):∀ l,H x≠some (.tup l):=fun l z=>by rw [h] at z;cases z
noncomputable def LET:List Str:=[Str.ofString "a",Str.ofString "b",Str.ofString "c"]
theorem one_abc {x:Str} (h1:x.length=1) (h2:Abc x):∃ c,(c=97∨c=98∨c=99)∧Ls x=[c]∧x=mk [c]:=by
  have hl:=len_Ls x
  rw [h1] at hl
  cases e:Ls x with
  | nil=>rw [e] at hl;cases hl
  | cons c r =>
    rw [e] at hl
    have hr:r=[]:=List.eq_nil_of_length_eq_zero (by rw [List.length_cons] at hl;omega)
    subst hr
    exact ⟨c,h2 c (by rw [show x.cps.toList=Ls x from rfl,e];exact List.mem_cons_self),rfl,str_ext (by rw [e,Ls_mk])⟩
theorem let_in {c:Nat} (h:c=97∨c=98∨c=99):inV (V.str (mk [c])) (LET.map V.str)=true:=by rcases h with rfl | rfl | rfl <;> decide +kernel
theorem let_flat:(LET.map V.str).all flatV=true:=by decide +kernel
noncomputable def Brok (b:Br Str):Prop:=b.ok (fun y=>y.length=1)∧b.ok Abc
theorem Brok.l {a b:Br Str} (h:Brok (.node a b)):Brok a:=⟨h.1.1,h.2.1⟩
theorem Brok.r {a b:Br Str} (h:Brok (.node a b)):Brok b:=⟨h.1.2,h.2.2⟩
theorem bt_beg {b:Br Str} (h:Brok b):∃ c r,bt b=c :: r∧Beg c:=by
  cases b with
  | leaf x =>
    obtain ⟨c,hc,e,_⟩:=one_abc h.1 h.2
    exact ⟨c,[],e,.inr hc⟩
  | node a b=>exact ⟨91,_,rfl,.inl rfl⟩
section
variable {P:Program} {w:World} {K:PySem.W.Frag} {mg:Str→Option Value} {base:Heap} {f fe fi fh ft fw fg fc fb fq aL C:Addr} {fd ed id' hd td wd gd cd bd qd:FuncData}
theorem scTb:FnScope ["self","depth","sign","first","second"] ["self","depth"] (defScope (rm 8)):=⟨rfl,rfl,rfl,by decide +kernel,rfl,by decide +kernel,by decide +kernel⟩
theorem scTt:FnScope ["self","count","bracket"] ["self"] (defScope (rm 5)):=⟨rfl,rfl,rfl,by decide +kernel,rfl,by decide +kernel,by decide +kernel⟩
end
end K01
end
section
namespace K01
open PySem PySem.Spec PyProof.Rows Tim L2 Wm
theorem sxt_cons (y:Int×Br Str) (T:List (Int×Br Str)):sxt (y :: T)=tt y++sxt T:=by unfold sxt;rw [List.flatMap_cons]
theorem tt_head (y:Int×Br Str):∃ c r,tt y=c :: r∧(c=45∨c=43):=by
  refine ⟨_,_,rfl,?_⟩
  by_cases h:y.1 < 0
  · exact .inl (if_pos h)
  · exact .inr (if_neg h)
section
variable {P:Program} {w:World} {K:PySem.W.Frag} {mg:Str→Option Value} {base:Heap} {f fe fi ft C:Addr} {fd ed id' td:FuncData}
theorem scRe:FnScope ["text","reader","total"] ["text"] (defScope (top 12)):=⟨rfl,rfl,rfl,by decide +kernel,rfl,by decide +kernel,by decide +kernel⟩
end
end K01
end
section
namespace K01
open PySem PySem.Spec PyProof.Rows Tim L2 Wm
theorem bt_uni:∀ {a b:Br Str} {r r':List Nat},Brok a→Brok b→bt a++r=bt b++r'→a=b∧r=r':=by
  intro a
  induction a with
  | leaf x =>
    intro b r r' ha hb h
    obtain ⟨c,hc,e1,e2⟩:=one_abc ha.1 ha.2
    rw [show bt (.leaf x)=[c] from e1] at h
    cases b with
    | leaf y =>
      obtain ⟨c',hc',e1',e2'⟩:=one_abc hb.1 hb.2
      rw [show bt (.leaf y)=[c'] from e1'] at h
      have:=List.cons.inj h
      rw [e2,e2',this.1]
      exact ⟨rfl,this.2⟩
    | node a b =>
      have:=(List.cons.inj (show c :: r=91 :: _ from h)).1
      omega
  | node a1 a2 i1 i2 =>
    intro b r r' ha hb h
    cases b with
    | leaf y =>
      obtain ⟨c',hc',e1',e2'⟩:=one_abc hb.1 hb.2
      rw [show bt (.leaf y)=[c'] from e1'] at h
      have:=(List.cons.inj (show 91 :: _=c' :: r' from h)).1
      omega
    | node b1 b2 =>
      have e:∀ (x y:Br Str) (t:List Nat),bt (.node x y)++t=91 :: (bt x++(44 :: (bt y++(93 :: t)))):=fun x y t=>by simp [bt]
      rw [e,e] at h
      obtain ⟨h1,h2⟩:=i1 ha.l hb.l (List.cons.inj h).2
      obtain ⟨h3,h4⟩:=i2 ha.r hb.r (List.cons.inj h2).2
      rw [h1,h3]
      exact ⟨rfl,(List.cons.inj h4).2⟩
noncomputable def Dig (c:Nat):Prop:=48≤c∧c≤57
theorem beg_nd {c:Nat} (h:Beg c):¬ Dig c:=by unfold Beg at h;unfold Dig;omega
theorem dig_uni:∀ {d e:List Nat} {c c':Nat} {r r':List Nat},PySem.NumText.AllDigits d→PySem.NumText.AllDigits e→¬ Dig c→¬ Dig c'→d++c :: r=e++c' :: r'→d=e∧c=c'∧r=r':=by
  intro d
  induction d with
  | nil =>
    intro e c c' r r' hd he hc hc' h
    cases e with
    | nil=>have:=List.cons.inj h;exact ⟨rfl,this.1,this.2⟩
    | cons x e=>have:=(List.cons.inj h).1;rw [this] at hc;exact absurd he.head hc
  | cons x d ih =>
    intro e c c' r r' hd he hc hc' h
    cases e with
    | nil=>have:=(List.cons.inj h).1;rw [← this] at hc';exact absurd hd.head hc'
    | cons y e =>
      have:=List.cons.inj h
      obtain ⟨h1,h2,h3⟩:=ih hd.tail he.tail hc hc' this.2
      rw [this.1,h1]
      exact ⟨rfl,h2,h3⟩
theorem nt_inj {m n:Nat} (h:nt m=nt n):m=n:=by
  rw [← PySem.W.KIN.val_back m,← PySem.W.KIN.val_back n]
  exact congrArg PySem.NumText.digitsVal h
theorem ct_inj {m n:Int} (h1:(if m < 0 then 45 else 43:Nat)=if n < 0 then 45 else 43) (h2:nt m.natAbs=nt n.natAbs):m=n:=by
  have:=nt_inj h2
  split at h1 <;> split at h1 <;> omega
theorem ct_uni {m n:Int} {c c':Nat} {r r':List Nat} (hc:¬ Dig c) (hc':¬ Dig c') (h:ct m++c :: r=ct n++c' :: r'):m=n∧c=c'∧r=r':=by
  have:=List.cons.inj (show (if m < 0 then 45 else 43:Nat) :: (nt m.natAbs++c :: r)=(if n < 0 then 45 else 43) :: (nt n.natAbs++c' :: r') from h)
  obtain ⟨h1,h2,h3⟩:=dig_uni nt_dig nt_dig hc hc' this.2
  exact ⟨ct_inj this.1 h1,h2,h3⟩
noncomputable def Tok (y:Int×Br Str):Prop:=Brok y.2∧y.2.wt≤8∧y.1.natAbs < 10 ^ 30
theorem tt_uni {y y':Int×Br Str} {r r':List Nat} (hy:Brok y.2) (hy':Brok y'.2) (h:tt y++r=tt y'++r'):y=y'∧r=r':=by
  obtain ⟨c,t,e,hb⟩:=bt_beg hy
  obtain ⟨c',t',e',hb'⟩:=bt_beg hy'
  have h2:ct y.1++(bt y.2++r)=ct y'.1++(bt y'.2++r'):=by unfold tt at h;rw [← List.append_assoc,← List.append_assoc];exact h
  have h3:=h2
  rw [e,e',List.cons_append,List.cons_append] at h3
  obtain ⟨e1,e2,e3⟩:=ct_uni (beg_nd hb) (beg_nd hb') h3
  rw [e1] at h2
  have h4:=List.append_cancel_left h2
  obtain ⟨e4,e5⟩:=bt_uni hy hy' h4
  exact ⟨Prod.ext e1 e4,e5⟩
theorem sxt_pre:∀ {A T:List (Int×Br Str)} {r:List Nat},(∀ y∈A,Brok y.2)→(∀ y∈T,Brok y.2)→sxt A++r=sxt T→∃ B,T=A++B∧r=sxt B:=by
  intro A
  induction A with
  | nil=>intro T r _ _ h;exact ⟨T,rfl,h⟩
  | cons y A ih =>
    intro T r hA hT h
    rw [sxt_cons,List.append_assoc] at h
    cases T with
    | nil =>
      obtain ⟨c,t,e,_⟩:=tt_head y
      rw [e] at h
      cases h
    | cons u T =>
      rw [sxt_cons] at h
      obtain ⟨e1,e2⟩:=tt_uni (hA y List.mem_cons_self) (hT u List.mem_cons_self) h
      obtain ⟨B,h1,h2⟩:=ih (fun x hx=>hA x (List.mem_cons_of_mem _ hx)) (fun x hx=>hT x (List.mem_cons_of_mem _ hx)) e2
      exact ⟨B,by rw [e1,h1];rfl,h2⟩
noncomputable def Wr (l:List Nat) (T:List (Int×Br Str)):Prop:=(T=[]∧l=[48])∨(T≠[]∧T.length≤12∧(∀ y∈T,Tok y)∧l=sxt T)
theorem Wr.tok {l:List Nat} {T:List (Int×Br Str)} (h:Wr l T):∀ y∈T,Tok y:=by
  rcases h with ⟨rfl,_⟩ | ⟨_,_,h,_⟩
  · intro y hy;cases hy
  · exact h
theorem sxt_ne48 {T:List (Int×Br Str)}:sxt T≠[48]:=by
  cases T with
  | nil=>intro h;cases h
  | cons y T =>
    obtain ⟨c,t,e,hc⟩:=tt_head y
    rw [sxt_cons,e]
    intro h
    have:=(List.cons.inj h).1
    omega
theorem dv_lt:∀ {n:Nat} {ds:List Nat},ds.length=n→PySem.NumText.AllDigits ds→PySem.NumText.digitsVal ds < 10 ^ n:=by
  intro n
  induction n with
  | zero=>intro ds h _;rw [List.eq_nil_of_length_eq_zero h];decide
  | succ n ih =>
    intro ds h hd
    have hne:ds≠[]:=by intro e;rw [e] at h;cases h
    have e:=List.dropLast_concat_getLast hne
    have hl:ds.dropLast.length=n:=by rw [List.length_dropLast,h];rfl
    have hA:PySem.NumText.AllDigits ds.dropLast:=fun c hc=>hd c ((List.dropLast_sublist ds).mem hc)
    have hc:=hd _ (List.getLast_mem hne)
    have:=ih hl hA
    rw [← e,PySem.NumText.digitsVal_snoc,Nat.pow_succ]
    omega
theorem nt_of {ds:List Nat} (hA:PySem.NumText.AllDigits ds) (hne:ds≠[]) (h30:ds.length≤30) (h0:∀ r,ds=48 :: r→r=[]):∃ m,m < 10 ^ 30∧ds=nt m:=by
  refine ⟨PySem.NumText.digitsVal ds,Nat.lt_of_lt_of_le (dv_lt rfl hA) (Nat.pow_le_pow_right (by decide) h30),?_⟩
  cases ds with
  | nil=>exact absurd rfl hne
  | cons c r =>
    have e:=PySem.NumText.toDigits_digitsVal r.length (c :: r) rfl hA (by
      by_cases hc:c=48
      · left;rw [h0 r (by rw [hc])];rfl
      · right;have:=hA.head;exact ⟨c,r,rfl,by omega⟩)
    unfold nt
    rw [e,List.map_map]
    have:∀ x∈c :: r,(Char.toNat ∘ Char.ofNat) x=x:=fun x hx=>by
      have:=hA x hx
      show (Char.ofNat x).toNat=x
      have key:∀ k:Nat,k < 10→(Char.ofNat (48 + k)).toNat=48 + k:=by decide
      have:=key (x - 48) (by omega)
      rwa [show 48 + (x - 48)=x by omega] at this
    rw [List.map_congr_left this,List.map_id']
theorem dig_run (l:List Nat):∃ ds r,l=ds++r∧PySem.NumText.AllDigits ds∧(r=[]∨∃ c r',r=c :: r'∧¬ Dig c):=by
  induction l with
  | nil=>exact ⟨[],[],rfl,fun c h=>(by cases h),.inl rfl⟩
  | cons c l ih =>
    by_cases h:Dig c
    · obtain ⟨ds,r,e,hA,hr⟩:=ih
      exact ⟨c :: ds,r,by rw [e];rfl,fun x hx=>by rcases List.mem_cons.mp hx with rfl | z;exact h;exact hA x z,hr⟩
    · exact ⟨[],c :: l,rfl,fun c h=>(by cases h),.inr ⟨c,l,rfl,h⟩⟩
noncomputable def ht:Br Str→Nat
  | .leaf _=>0
  | .node a b=>1 + max (ht a) (ht b)
theorem ht_wt (b:Br Str):ht b + 1≤b.wt:=by
  induction b with
  | leaf x=>exact Nat.le_refl _
  | node a b i1 i2 =>
    have:=br_wt_pos a
    have:=br_wt_pos b
    show 1 + max (ht a) (ht b) + 1≤a.wt + b.wt
    omega
theorem bt_pos {b:Br Str} (h:Brok b):1≤(bt b).length:=by
  obtain ⟨c,r,e,_⟩:=bt_beg h
  rw [e];simp
end K01
end
section
namespace K01
open PySem PySem.Spec PyProof.Rows Tim L2 Wm
noncomputable def RA (C x dx:Addr) (z:Str) (p:Nat) (H:Hp):Prop:=H x=some (.ins C dx (fl z p))∧z.length≤100000∧p≤z.length∧∀ c∈Ls z,c < 128
theorem RA.on {C x dx:Addr} {z:Str} {p n:Nat} {H H':Hp} (h:RA C x dx z p H) (e:H' x=some (.ins C dx (fl z n))) (hn:n≤z.length):RA C x dx z n H':=⟨e,h.2.1,hn,h.2.2.2⟩
theorem RA.lt {C x dx:Addr} {z:Str} {p:Nat} {H:Hp} (h:RA C x dx z p H) {c:Nat} {l r:List Nat} (e:(Ls z).drop p=l++c :: r):c < 128:=h.2.2.2 c (List.mem_of_mem_drop (i:=p) (by rw [e];simp))
theorem drop_le {z:Str} {p:Nat} {l r:List Nat} (hp:p≤z.length) (h:(Ls z).drop p=l++r):p + l.length≤z.length:=by
  have:=congrArg List.length h
  rw [List.length_drop,len_Ls,List.length_append] at this
  omega
theorem mk_small {c:Nat} (h:c < 128):∀ k∈(mk [c]).cps.toList,k < 16 ^ 8:=fun k hk=>by
  have hk:k∈Ls (mk [c]):=hk
  rw [Ls_mk] at hk
  have:k=c:=by simpa using hk
  rw [this]
  exact Nat.lt_trans h (by decide)
theorem mk1_len (c:Nat):(mk [c]).length≤1000:=by rw [len_mk];show 1≤1000;decide
theorem ap_len {a b:Str} {m n:Nat} (h1:a.length≤m) (h2:b.length≤n):(a++b).length≤m + n:=by
  have:(a++b).length=a.length + b.length:=PySem.Str.length_append a b
  omega
theorem em_len:Str.empty.length≤0:=by decide +kernel
theorem sz_of {a:Str} {m:Nat} (h:a.length≤m) (hm:m≤100000):a.length≤sizeLine:=by
  have hz:=sizeLine_eq
  omega
section
variable {P:Program} {w:World} {K:PySem.W.Frag} {mg:Str→Option Value} {base:Heap} {f fe fh ft fw fg fc fb fq aL C N:Addr} {fd ed hd td wd gd cd bd qd:FuncData}
noncomputable def spHeE (C N:Addr):Sp:=fun vs H Q E=>∃ (x dx:Addr) (z:Str) (p:Nat),vs=[.ref x]∧RA C x dx z p H∧(∀ c r,(Ls z).drop p=c :: r→Q (.str (mk [c])) H)∧((Ls z).drop p=[]→E (.ref N) none H)
theorem ok_heE (T:Blt mg) (R:Rdr K C) (XN:ExcAt K mg "NotRead" N) (F:MAt K C "sign_here" "Reader.sign_here" (rm 2) ["self"] f fd) (FE:MAt K C "at_end" "Reader.at_end" (rm 1) ["self"] fe ed):FnOk P w K mg base (CXE P w) 2 f fd ["self"] (spHeE C N):=by
  have GE:FnOk P w K mg base CX0 1 fe ed ["self"] (spEn C):=ok_en T R FE
  refine F.fn.okE scHe (fun vs H Q E h=>?_) (fun cdv A outer s H vs Q E hr h=>?_)
  · obtain ⟨x,dx,z,p,rfl,_⟩:=h
    rfl
  obtain ⟨x,dx,z,p,rfl,⟨hx,hl,hp,ha⟩,q1,q2⟩:=h
  refine ⟨_,pss_cons (ps_if (pt_val (pe_meth0 (pv 0) R.cl FE.m GE hr FE.b .nil pass0)) (pss_one (ps_raise hr.hd XN rfl (pa_cons pe_str pa_nil))) pss_nil)
    (pss_one (ps_ret (pe_item_str (pe_fld (pv 0) rfl) (pe_fld (pv 0) rfl) (fun _ _=>rfl)))),?_⟩
  refine ⟨_,rfl,x,dx,_,rfl,hx,fl_no z p (by decide +kernel) (by decide +kernel),x,dx,z,p,rfl,hx,hl,_,rfl,?_⟩
  by_cases h:p=z.length
  · rw [decide_eq_true h]
    refine iteT ⟨(by show 1≤sizeLine;decide),q2 (List.drop_eq_nil_of_le (by rw [len_Ls];omega))⟩
  · rw [decide_eq_false h]
    refine iteF ?_
    obtain ⟨c,hc⟩:∃ c,(Ls z).drop p=c :: (Ls z).drop (p + 1):=⟨_,List.drop_eq_getElem_cons (by rw [len_Ls];omega)⟩
    obtain ⟨d1,d2,d3⟩:=drop_at hc
    exact ⟨_,rfl,x,C,dx,_,_,rfl,hx,R.cl,R.nT,fl_text z p,_,rfl,x,C,dx,_,_,rfl,hx,R.cl,R.nP,fl_place z p,z,_,c,rfl,rfl,by omega,by omega,by omega,d1,q1 c _ hc⟩
noncomputable def spTkE (C N:Addr):Sp:=fun vs H Q E=>∃ (x dx:Addr) (z:Str) (p:Nat),vs=[.ref x]∧RA C x dx z p H∧(∀ c r,(Ls z).drop p=c :: r→∀ H',SX x H H'→H' x=some (.ins C dx (fl z (p + 1)))→Q (.str (mk [c])) H')∧((Ls z).drop p=[]→E (.ref N) none H)
theorem ok_tkE (R:Rdr K C) (F:MAt K C "take" "Reader.take" (rm 3) ["self"] f fd) (FH:MAt K C "sign_here" "Reader.sign_here" (rm 2) ["self"] fh hd) (GH:FnOk P w K mg base (CXE P w) 2 fh hd ["self"] (spHeE C N)):FnOk P w K mg base (CXE P w) 3 f fd ["self"] (spTkE C N):=by
  refine F.fn.okE scTk (fun vs H Q E h=>?_) (fun cdv A outer s H vs Q E hr h=>?_)
  · obtain ⟨x,dx,z,p,rfl,_⟩:=h
    rfl
  obtain ⟨x,dx,z,p,rfl,hA,q1,q2⟩:=h
  have hx:=hA.1
  refine ⟨_,pss_cons (ps_set (i:=1) scTk.nd rfl (Or.inl rfl) (pe_meth0 (pv 0) R.cl FH.m GH hr FH.b .nil passE))
    (pss_cons (ps_fld (pv 0) (pe_op op_add (pe_fld (pv 0) rfl) pe_int) rfl)
    (pss_one (ps_ret (pv 1)))),?_⟩
  refine ⟨_,rfl,x,dx,_,rfl,hx,fl_no z p (by decide +kernel) (by decide +kernel),x,dx,z,p,rfl,hA,fun c r hd=>?_,q2⟩
  refine ⟨_,rfl,x,C,dx,_,_,rfl,hx,R.cl,R.nP,fl_place z p,_,_,rfl,rfl,_,rfl,x,C,dx,_,rfl,hx,R.cl,R.nP,fl_len z p,?_⟩
  exact ⟨_,rfl,q1 c r hd _ sx_upd (Eq.trans upd_same (congrArg (fun l=>some (HO.ins C dx l)) (fl_put z p (p + 1))))⟩
noncomputable def spWaE (C N:Addr):Sp:=fun vs H Q E=>∃ (x dx:Addr) (z:Str) (p c:Nat),vs=[.ref x,.str (mk [c])]∧c < 128∧RA C x dx z p H∧(∀ r,(Ls z).drop p=c :: r→∀ H',SX x H H'→H' x=some (.ins C dx (fl z (p + 1)))→Q .non H') ∧
  ((¬ ∃ r,(Ls z).drop p=c :: r)→∀ H',SX x H H'→E (.ref N) none H')
theorem ok_waE (R:Rdr K C) (XN:ExcAt K mg "NotRead" N) (F:MAt K C "take_wanted" "Reader.take_wanted" (rm 4) ["self","wanted"] f fd) (FT:MAt K C "take" "Reader.take" (rm 3) ["self"] ft td) (GT:FnOk P w K mg base (CXE P w) 3 ft td ["self"] (spTkE C N)):FnOk P w K mg base (CXE P w) 4 f fd ["self","wanted"] (spWaE C N):=by
  refine F.fn.okE scWa (fun vs H Q E h=>?_) (fun cdv A outer s H vs Q E hr h=>?_)
  · obtain ⟨x,dx,z,p,c,rfl,_⟩:=h
    rfl
  obtain ⟨x,dx,z,p,c,rfl,hc,hA,q1,q2⟩:=h
  refine ⟨_,pss_cons (ps_set (i:=2) scWa.nd rfl (Or.inl rfl) (pe_meth0 (pv 0) R.cl FT.m GT hr FT.b .nil passE))
    (pss_one (ps_if (pt_cmpR op_ne (pv 2) (pv 1) (nomark _)) (pss_one (ps_raise hr.hd XN rfl (pa_cons (pe_join (pj_cons (pe_fmtR (pv 2)) (pj_cons pe_str (pj_cons (pe_fmtR (pv 1)) (pj_cons pe_str pj_nil))))) pa_nil))) pss_nil)),?_⟩
  refine ⟨_,rfl,x,dx,_,rfl,hA.1,fl_no z p (by decide +kernel) (by decide +kernel),x,dx,z,p,rfl,hA,fun c' r hd H1 s1 h1=>?_,fun hn=>q2 (fun ⟨r,e⟩=>by rw [hn] at e;cases e) H (fun _ _ _ e=>e)⟩
  refine ⟨_,rfl,_,rfl,rfl,_,rfl,?_⟩
  by_cases e:c'=c
  · subst e
    rw [decide_eq_true rfl]
    exact iteF (q1 r hd _ s1 h1)
  · rw [decide_eq_false (fun g=>e (List.cons.inj (mk_inj (V.str.inj g))).1)]
    refine iteT ?_
    have hE:=q2 (fun ⟨r',e'⟩=>e (by rw [hd] at e';exact (List.cons.inj e').1)) H1 s1
    have l1:(Str.ofString " stands where ").length≤20:=by decide +kernel
    have l2:(Str.ofString " should").length≤20:=by decide +kernel
    refine ⟨_,rfl,_,rfl,mk1_len _,mk_small (hA.lt (l:=[]) hd),fun y1 hy1=>⟨y1,rfl,sz_of (ap_len em_len hy1) (by decide),_,rfl,sz_of (ap_len (ap_len em_len hy1) l1) (by decide),?_⟩⟩
    refine ⟨_,rfl,_,rfl,mk1_len _,mk_small hc,fun y2 hy2=>⟨y2,rfl,sz_of (ap_len (ap_len (ap_len em_len hy1) l1) hy2) (by decide),_,rfl,sz_of (ap_len (ap_len (ap_len (ap_len em_len hy1) l1) hy2) l2) (by decide),sz_of (ap_len (ap_len (ap_len (ap_len em_len hy1) l1) hy2) l2) (by decide),?_⟩⟩
    exact ⟨(by show 1≤sizeLine;decide),hE⟩
noncomputable def GoodF (ds:List Nat):Prop:=ds≠[]∧ds.length≤30∧∀ r,ds=48 :: r→r=[]
noncomputable def FigAt (l:List Nat) (ds:List Nat) (c:Nat) (r:List Nat):Prop:=l=ds++c :: r∧PySem.NumText.AllDigits ds∧¬ Dig c
theorem fig_is {c:Nat} (h:c < 128):(!(Builtin.Str.occurrences FIG (mk [c]) 0 FIG.length 1).isEmpty)=decide (48≤c∧c≤57):=by
  have key:∀ c:Nat,c < 128→(!(Builtin.Str.occurrences FIG (mk [c]) 0 FIG.length 1).isEmpty)=decide (48≤c∧c≤57):=by decide +kernel
  exact key c h
noncomputable def spFgE (C N:Addr):Sp:=fun vs H Q E=>∃ (x dx:Addr) (z:Str) (p:Nat),vs=[.ref x]∧RA C x dx z p H∧(∀ ds c r,FigAt ((Ls z).drop p) ds c r→GoodF ds→∀ H',SX x H H'→H' x=some (.ins C dx (fl z (p + ds.length)))→Q (.str (mk ds)) H') ∧
  ((¬ ∃ ds c r,FigAt ((Ls z).drop p) ds c r∧GoodF ds)→∀ H',SX x H H'→E (.ref N) none H')
theorem ok_fgE (T:Blt mg) (R:Rdr K C) (XN:ExcAt K mg "NotRead" N) (F:MAt K C "take_figures" "Reader.take_figures" (rm 7) ["self"] f fd) (FH:MAt K C "sign_here" "Reader.sign_here" (rm 2) ["self"] fh hd) (FT:MAt K C "take" "Reader.take" (rm 3) ["self"] ft td)
    (GH:FnOk P w K mg base (CXE P w) 2 fh hd ["self"] (spHeE C N)) (GT:FnOk P w K mg base (CXE P w) 3 ft td ["self"] (spTkE C N)) {tF tM:PySem.Tok} (hF:mg "FIGURES" = some (.str (Str.ofString "0123456789") tF)) (hM:mg "MOST_FIGURES" = some (.int 30 tM)) :
    FnOk P w K mg base (CXE P w) 4 f fd ["self"] (spFgE C N):=by
  refine F.fn.okE scFg (fun vs H Q E h=>?_) (fun cdv A outer s H vs Q E hr h=>?_)
  · obtain ⟨x,dx,z,p,rfl,_⟩:=h
    rfl
  obtain ⟨x,dx,z,p,rfl,hA,q1,q2⟩:=h
  have hx:=hA.1
  have hl:=hA.2.1
  have hp:=hA.2.2.1
  have hr2:Room 2 _:=hr.mono (by omega)
  refine ⟨_,pss_cons (ps_set (i:=1) scFg.nd rfl (Or.inl rfl) (pe_fld (pv 0) rfl))
    (pss_cons (ps_while PassesOwn.leaving (pt_cmpR op_in_str (pe_meth0 (pv 0) R.cl FH.m GH hr2 FH.b .nil passE) (pe_glob (v:=.str FIG) rfl hF ⟨tF,rfl⟩) (by with_unfolding_all rfl))
      (pss_one (ps_expr (pe_meth0 (pv 0) R.cl FT.m GT hr FT.b .nil passE))))
    (pss_cons (ps_set (i:=2) scFg.nd rfl (Or.inl rfl) (pe_slice sl_str (pe_fld (pv 0) rfl) (po_some (pv 1)) (po_some (pe_fld (pv 0) rfl))))
    (pss_cons (ps_if (pt_cmpR op_eq (pv 2) pe_str (nomark _)) (pss_one (ps_raise hr.hd XN rfl (pa_cons pe_str pa_nil))) pss_nil)
    (pss_cons (ps_if (PW.pt (pw_and (pt_val (pe_bm PySem.F.plainAttrs_str PySem.F.slot_str_startswith PySem.F.type_str_startswith mt_starts (pv 2) (pa_cons pe_str pa_nil))) (pw_and1 (pt_cmpR op_ne (pv 2) pe_str (nomark _))))) (pss_one (ps_raise hr.hd XN rfl (pa_cons pe_str pa_nil))) pss_nil)
    (pss_cons (ps_if (pt_cmpR op_gt (pe_callB call_len_str rfl T.len PySem.boot_len (pa_cons (pv 2) pa_nil)) (pe_glob (v:=.int 30) rfl hM ⟨tM,rfl⟩) (nomark _)) (pss_one (ps_raise hr.hd XN rfl (pa_cons (pe_join (pj_cons pe_str (pj_cons (pe_fmt (pe_glob (v:=.int 30) rfl hM ⟨tM,rfl⟩)) (pj_cons pe_str pj_nil)))) pa_nil))) pss_nil)
    (pss_one (ps_ret (pv 2)))))))),?_⟩
  have hz:=sizeLine_eq
  obtain ⟨l,rest,hd,hAd,hrest⟩:=dig_run ((Ls z).drop p)
  have hlen:=drop_le hp hd
  refine ⟨_,rfl,x,C,dx,_,_,rfl,hx,R.cl,R.nP,fl_place z p,?_⟩
  refine ⟨fun m σ Hx=>∃ k,m=l.length - k∧k≤l.length∧σ=[some (.ref x),some (.int p),none]∧SX x H Hx∧Hx x=some (.ins C dx (fl z (p + k))),⟨_,0,rfl,Nat.zero_le _,rfl,fun b o _ e=>e,hx⟩,?_⟩
  rintro m σ Hx ⟨k,rfl,hk,rfl,sx,xx⟩
  have dk:(Ls z).drop (p + k)=l.drop k++rest:=by
    rw [← List.drop_drop,hd,List.drop_append_of_le_length hk]
  have hAk:=hA.on xx (by omega)
  by_cases hlt:k < l.length
  · obtain ⟨d,hdk⟩:∃ d,l.drop k=d :: l.drop (k + 1):=⟨_,List.drop_eq_getElem_cons hlt⟩
    have hdm:d∈l:=List.mem_of_mem_drop (i:=k) (by rw [hdk];exact List.mem_cons_self)
    have dk':=dk
    rw [hdk,List.cons_append] at dk'
    refine ⟨_,rfl,x,dx,_,rfl,xx,fl_no _ _ (by decide +kernel) (by decide +kernel),x,dx,z,p + k,rfl,hAk,fun c r e=>?_,fun e=>by rw [dk'] at e;cases e⟩
    rw [dk'] at e
    obtain ⟨rfl,rfl⟩:=List.cons.inj e
    refine ⟨_,_,rfl,rfl,_,rfl,?_⟩
    rw [fig_in (hAd d hdm)]
    refine iteT ⟨fun σ' H'=>∃ k',k < k'∧k'≤l.length∧σ'=[some (.ref x),some (.int p),none]∧SX x H H'∧H' x=some (.ins C dx (fl z (p + k'))),fun σ' H' ⟨k',h1,h2,h3,h4,h5⟩=>⟨l.length - k',by omega,k',rfl,h2,h3,h4,h5⟩,?_⟩
    refine ⟨_,rfl,x,dx,_,rfl,xx,fl_no _ _ (by decide +kernel) (by decide +kernel),x,dx,z,p + k,rfl,hAk,fun c r e H1 s1 h1=>?_,fun e=>by rw [dk'] at e;cases e⟩
    exact ⟨k + 1,Nat.lt_succ_self _,hlt,rfl,sx.trans s1,h1⟩
  · have e:k=l.length:=by omega
    subst e
    rw [List.drop_length,List.nil_append] at dk
    have bad:(∀ c r,rest=c :: r→¬ GoodF l)→∀ H',SX x H H'→E (.ref N) none H':=fun hb=>q2 (fun ⟨ds,c,r,⟨g1,g2,g3⟩,g4⟩=>by
      rw [hd] at g1
      rcases hrest with hr0 | ⟨c',r',hr1,hr2⟩
      · rw [hr0,List.append_nil] at g1
        exact g3 (hAd c (by rw [g1];simp))
      · rw [hr1] at g1
        obtain ⟨e1,e2,e3⟩:=dig_uni hAd g2 hr2 g3 g1
        exact hb _ _ hr1 (by rw [e1];exact g4))
    refine ⟨_,rfl,x,dx,_,rfl,xx,fl_no _ _ (by decide +kernel) (by decide +kernel),x,dx,z,_,rfl,hAk,fun c r e=>?_,fun e=>bad (fun c r h=>by rw [dk] at e;rw [e] at h;cases h) _ sx⟩
    rw [dk] at e
    have hcn:¬ Dig c:=by
      rcases hrest with hr0 | ⟨c',r',hr1,hr2⟩
      · rw [hr0] at e;cases e
      · rw [hr1] at e;rw [← (List.cons.inj e).1];exact hr2
    have c128:c < 128:=hA.lt (l:=l) (by rw [hd,e])
    refine ⟨_,_,rfl,rfl,_,rfl,?_⟩
    rw [fig_is c128,decide_eq_false (show ¬ (48≤c∧c≤57) from hcn)]
    refine iteF ?_
    have es:Txt.slice z (some (p:Int)) (some ((p + l.length:Nat):Int))=mk l:=by
      apply str_ext
      rw [Ls_mk]
      have:=sl_mid (x:=z) (i:=(p:Int)) (j:=((p + l.length:Nat):Int)) ⟨by omega,by omega,by omega⟩
      rw [show Ls (Txt.slice z (some (p:Int)) (some ((p + l.length:Nat):Int)))=_ from this]
      rw [show ((p:Int)).toNat=p by omega,show (((p + l.length:Nat):Int) - (p:Int)).toNat=l.length by omega]
      rw [show z.cps.toList=Ls z from rfl,hd,List.take_left]
    refine ⟨_,rfl,x,C,dx,_,_,rfl,xx,R.cl,R.nT,fl_text _ _,_,rfl,_,rfl,_,rfl,x,C,dx,_,_,rfl,xx,R.cl,R.nP,fl_place _ _,_,rfl,z,rfl,by omega,?_⟩
    rw [es]
    refine ⟨_,rfl,rfl,_,rfl,?_⟩
    by_cases hne:l=[]
    · rw [L_em,hne,decide_eq_true rfl]
      refine iteT ⟨(by show 1≤sizeLine;decide),bad (fun _ _ _ g=>g.1 hne) _ sx⟩
    rw [L_em,decide_eq_false (fun g=>hne (mk_inj (V.str.inj g)))]
    refine iteF ?_
    refine ⟨_,rfl,rfl,_,_,rfl,rfl,_,rfl,?_⟩
    have fin:(∀ r,l=48 :: r→r=[])→tTest (tOp (rI0 fun i j=>V.bl (decide (j < i))) (tCB (fun xs H Q=>∃ z,xs=[V.str z]∧z.length≤sizeLine∧Q (.int z.length) H) (tCons (tVar 2) tNil)) (tC (.int 30))) [some (.ref x),some (.int p),some (.str (mk l))] Hx
        (fun c H1=>if c=true then tRaise N E (tCons ((jCons (tC (.str (Str.ofString "a count of more than "))) (jCons (tFmt (tC (.int 30))) (jCons (tC (.str (Str.ofString " figures"))) jNil))) Str.empty) tNil) { nx:=fun _ H'=>Q .non H',rt:=Q } [some (.ref x),some (.int p),some (.str (mk l))] H1 else ∃ v,[some (V.ref x),some (.int p),some (.str (mk l))][2]? = some (some v)∧Q v H1):=by
      intro h0
      refine ⟨_,rfl,_,rfl,by rw [len_mk];omega,_,_,rfl,rfl,_,rfl,?_⟩
      rw [len_mk]
      refine ite2 (fun g=>?_) (fun g=>?_)
      · have g:(30:Int) < (l.length:Int):=of_decide_eq_true g
        have l1:(Str.ofString "a count of more than ").length≤30:=by decide +kernel
        have l2:(Str.ofString " figures").length≤20:=by decide +kernel
        have l3:(Str.ofString (toString (30:Int))).length≤20:=by decide +kernel
        refine ⟨_,rfl,sz_of (ap_len em_len l1) (by decide),.inr ⟨30,rfl,by decide,_,rfl,sz_of (ap_len (ap_len em_len l1) l3) (by decide),_,rfl,sz_of (ap_len (ap_len (ap_len em_len l1) l3) l2) (by decide),sz_of (ap_len (ap_len (ap_len em_len l1) l3) l2) (by decide),?_⟩⟩
        exact ⟨(by show 1≤sizeLine;decide),bad (fun _ _ _ g'=>by have:=g'.2.1;omega) _ sx⟩
      · have g:¬ (30:Int) < (l.length:Int):=of_decide_eq_false (Bool.eq_false_iff.mpr g)
        exact ⟨_,rfl,q1 l c r ⟨by rw [hd,e],hAd,hcn⟩ ⟨hne,by omega,h0⟩ _ sx xx⟩
    cases hb:Txt.startswith (mk l) (Str.ofString "0") with
    | false =>
      refine iteF (iteF (fin fun r' er=>?_))
      exfalso
      rw [er] at hb
      have:Txt.startswith (mk (48 :: r')) (Str.ofString "0")=true:=by
        unfold Txt.startswith
        rw [L_no,StrLaws.subAt_eq,len_mk,len_mk,show (mk [48]).cps.toList=[48] from Ls_mk _,show (mk (48 :: r')).cps.toList=48 :: r' from Ls_mk _]
        simp
      rw [this] at hb
      cases hb
    | true =>
      obtain ⟨r',er⟩:=starts0 hb
      refine iteT ⟨_,rfl,rfl,_,rfl,?_⟩
      by_cases r0:r'=[]
      · rw [decide_eq_true (show V.str (mk l)=V.str (Str.ofString "0") by rw [er,r0,L_no])]
        exact iteF (fin fun r'' er'=>by rw [er,r0] at er';exact (List.cons.inj er').2.symm)
      · rw [decide_eq_false (fun g=>r0 (by rw [L_no] at g;have g:=mk_inj (V.str.inj g);rw [er] at g;exact (List.cons.inj g).2))]
        refine iteT ⟨(by show 1≤sizeLine;decide),bad (fun _ _ _ g=>r0 (g.2.2 r' er)) _ sx⟩
end
end K01
end
section
namespace K01
open PySem PySem.Spec PyProof.Rows Tim L2 Wm
noncomputable def CtAt (l:List Nat) (n:Int) (c:Nat) (r:List Nat):Prop:=l=ct n++c :: r∧¬ Dig c∧n.natAbs < 10 ^ 30
theorem pm_in {c:Nat} (h:c=43∨c=45):inV (V.str (mk [c])) [V.str (Str.ofString "+"),V.str (Str.ofString "-")]=true:=by rcases h with rfl | rfl <;> decide +kernel
theorem inV_str {c:Nat} {l:List Str}:inV (V.str (mk [c])) (l.map V.str)=true→mk [c]∈l:=by
  intro h
  unfold inV at h
  rw [List.any_map,List.any_eq_true] at h
  obtain ⟨y,hy,e⟩:=h
  have e:(y == mk [c])=true:=e
  rw [← eq_of_beq e]
  exact hy
theorem pm_out {c:Nat} (h:¬ (c=43∨c=45)):inV (V.str (mk [c])) [V.str (Str.ofString "+"),V.str (Str.ofString "-")]=false:=by
  refine Bool.eq_false_iff.mpr fun g=>h ?_
  have:=inV_str (l:=[Str.ofString "+",Str.ofString "-"]) g
  rw [L_pl,L_mi] at this
  simp only [List.mem_cons,List.not_mem_nil,or_false] at this
  rcases this with e | e
  · exact .inl (List.cons.inj (mk_inj e)).1
  · exact .inr (List.cons.inj (mk_inj e)).1
theorem let_no {c:Nat} (h:¬ (c=97∨c=98∨c=99)):inV (V.str (mk [c])) (LET.map V.str)=false:=by
  refine Bool.eq_false_iff.mpr fun g=>h ?_
  have:=inV_str g
  have ea:Str.ofString "a" = mk [97]:=str_ext (by decide +kernel)
  have eb:Str.ofString "b" = mk [98]:=str_ext (by decide +kernel)
  have ec:Str.ofString "c" = mk [99]:=str_ext (by decide +kernel)
  unfold LET at this
  rw [ea,eb,ec] at this
  simp only [List.mem_cons,List.not_mem_nil,or_false] at this
  rcases this with e | e | e
  · exact .inl (List.cons.inj (mk_inj e)).1
  · exact .inr (.inl (List.cons.inj (mk_inj e)).1)
  · exact .inr (.inr (List.cons.inj (mk_inj e)).1)
section
variable {P:Program} {w:World} {K:PySem.W.Frag} {mg:Str→Option Value} {base:Heap} {f fe fh ft fw fg fc fb fq aL C N:Addr} {fd ed hd td wd gd cd bd qd:FuncData}
noncomputable def spCoE (C N:Addr):Sp:=fun vs H Q E=>∃ (x dx:Addr) (z:Str) (p:Nat),vs=[.ref x]∧RA C x dx z p H∧(∀ n c r,CtAt ((Ls z).drop p) n c r→∀ H',SX x H H'→H' x=some (.ins C dx (fl z (p + (ct n).length)))→Q (.int n) H') ∧
  ((¬ ∃ n c r,CtAt ((Ls z).drop p) n c r)→∀ H',SX x H H'→E (.ref N) none H')
theorem ok_coE (T:Blt mg) (R:Rdr K C) (XN:ExcAt K mg "NotRead" N) (F:MAt K C "take_count" "Reader.take_count" (rm 6) ["self"] f fd) (FT:MAt K C "take" "Reader.take" (rm 3) ["self"] ft td) (FG:MAt K C "take_figures" "Reader.take_figures" (rm 7) ["self"] fg gd)
    (GT:FnOk P w K mg base (CXE P w) 3 ft td ["self"] (spTkE C N)) (GG:FnOk P w K mg base (CXE P w) 4 fg gd ["self"] (spFgE C N)):FnOk P w K mg base (CXE P w) 5 f fd ["self"] (spCoE C N):=by
  refine F.fn.okE scCo (fun vs H Q E h=>?_) (fun cdv A outer s H vs Q E hr h=>?_)
  · obtain ⟨x,dx,z,p,rfl,_⟩:=h
    rfl
  obtain ⟨x,dx,z,p,rfl,hA,q1,q2⟩:=h
  have hr3:Room 3 _:=hr.mono (by omega)
  refine ⟨_,pss_cons (ps_set (i:=1) scCo.nd rfl (Or.inl rfl) (pe_meth0 (pv 0) R.cl FT.m GT hr3 FT.b .nil passE))
    (pss_cons (ps_if (pt_cmpR op_notIn_seq (pv 1) (pe_tup (pa_cons pe_str (pa_cons pe_str pa_nil))) (by with_unfolding_all rfl)) (pss_one (ps_raise hr.hd XN rfl (pa_cons (pe_join (pj_cons (pe_fmtR (pv 1)) (pj_cons pe_str pj_nil))) pa_nil))) pss_nil)
    (pss_cons (ps_set (i:=2) scCo.nd rfl (Or.inl rfl) (pe_meth0 (pv 0) R.cl FG.m GG hr FG.b .nil passE))
    (pss_cons (ps_if (PW.pt (pw_and (pt_cmpR op_eq (pv 2) pe_str (nomark _)) (pw_and1 (pt_cmpR op_eq (pv 1) pe_str (nomark _))))) (pss_one (ps_raise hr.hd XN rfl (pa_cons pe_str pa_nil))) pss_nil)
    (pss_cons (ps_set (i:=3) scCo.nd rfl (Or.inl rfl) (pe_callTy call_intT rfl T.int bt_int (pa_cons (pv 2) pa_nil)))
    (pss_one (ps_ret (pe_ifExp (pt_cmpR op_eq (pv 1) pe_str (nomark _)) (pe_un un_neg (pv 3)) (pv 3)))))))),?_⟩
  refine ⟨_,rfl,x,dx,_,rfl,hA.1,fl_no _ _ (by decide +kernel) (by decide +kernel),x,dx,z,p,rfl,hA,fun sg r hd H1 s1 h1=>?_,fun hn=>q2 (fun ⟨n,c,r,e,_⟩=>by rw [hn] at e;cases e) H (fun _ _ _ e=>e)⟩
  have d1:=(drop_at hd).2.2
  have hA1:=hA.on h1 (drop_at hd).2.1
  refine ⟨_,rfl,(by show 2≤sizeLine;decide),fun a na=>⟨a,_,rfl,.inr (.inl (.inl upd_same)),rfl,rfl,_,rfl,?_⟩⟩
  have nxa:x≠a:=ne_of_none h1 na
  have s2:=s1.trans (new_same na (.tup [V.str (Str.ofString "+"),V.str (Str.ofString "-")])).sx
  have h2:upd H1 a (.tup [V.str (Str.ofString "+"),V.str (Str.ofString "-")]) x=some (.ins C dx (fl z (p + 1))):=by rw [upd_ne nxa];exact h1
  have hA2:=hA.on h2 (drop_at hd).2.1
  by_cases hsg:sg=43∨sg=45
  · rw [pm_in hsg]
    refine iteF ?_
    refine ⟨_,rfl,x,dx,_,rfl,h2,fl_no _ _ (by decide +kernel) (by decide +kernel),x,dx,z,p + 1,rfl,hA2,fun ds c r' hF hG H3 s3 h3=>?_,fun hn H3 s3=>q2 (fun ⟨n,c,r',e1,e2,e3⟩=>hn ?_) H3 (s2.trans s3)⟩
    · obtain ⟨m,hm,em⟩:=nt_of hF.2.1 hG.1 hG.2.1 hG.2.2
      obtain ⟨hF1,hF2,hF3⟩:=hF
      have hall:(Ls z).drop p=sg :: (ds++c :: r'):=by rw [hd];rw [d1] at hF1;rw [hF1]
      have l30:=hG.2.1
      have hl:(mk ds).length≤640:=by rw [len_mk];omega
      have hi:intText? (mk ds)=some (m:Int):=by rw [em];exact nt_reads hm
      by_cases neg:sg=45
      · have e45:decide (V.str (mk [sg])=V.str (Str.ofString "-"))=true:=decide_eq_true (by rw [neg,L_mi])
        refine ⟨_,rfl,rfl,_,rfl,?_⟩
        by_cases z0:m=0
        · have:mk ds=Str.ofString "0":=by rw [em,z0,L_no];rfl
          rw [decide_eq_true (show V.str (mk ds)=V.str (Str.ofString "0") by rw [this])]
          refine iteT ⟨_,rfl,rfl,_,rfl,?_⟩
          rw [e45]
          refine iteT ⟨(by show 1≤sizeLine;decide),q2 (fun ⟨n,c2,r2,e1,e2,e3⟩=>?_) H3 (s2.trans s3)⟩
          rw [hall] at e1
          have e1:sg :: (ds++c :: r')=(if n < 0 then 45 else 43) :: (nt n.natAbs++c2 :: r2):=e1
          obtain ⟨i1,i2⟩:=List.cons.inj e1
          obtain ⟨i3,_,_⟩:=dig_uni hF2 nt_dig hF3 e2 i2
          rw [em] at i3
          have:=nt_inj i3
          rw [neg] at i1
          split at i1
          · omega
          · omega
        · have nz:decide (V.str (mk ds)=V.str (Str.ofString "0"))=false:=decide_eq_false fun g=>by
            rw [L_no] at g
            have g:=mk_inj (V.str.inj g)
            rw [em] at g
            exact z0 (nt_inj (g.trans (by decide:[48]=nt 0)))
          rw [nz]
          refine iteF (iteF ?_)
          refine ⟨_,rfl,mk ds,(m:Int),rfl,hi,hl,?_⟩
          refine ⟨_,rfl,rfl,_,rfl,?_⟩
          rw [e45]
          refine iteT ⟨_,rfl,_,rfl,?_⟩
          have ec:ct (-(m:Int))=sg :: ds:=by
            unfold ct
            rw [if_pos (by omega),neg,em]
            congr 2
            omega
          refine q1 (-(m:Int)) c r' ⟨by rw [ec,hall];rfl,hF3,by omega⟩ H3 (s2.trans s3) ?_
          rw [h3,ec]
          congr 3
          show p + 1 + ds.length=p + (ds.length + 1)
          omega
      · have e43:sg=43:=by omega
        have nm:decide (V.str (mk [sg])=V.str (Str.ofString "-"))=false:=decide_eq_false fun g=>by
          rw [L_mi] at g
          exact neg (List.cons.inj (mk_inj (V.str.inj g))).1
        have ec:ct (m:Int)=sg :: ds:=by
          unfold ct
          rw [if_neg (by omega),e43,em]
          rfl
        have fin:=q1 (m:Int) c r' ⟨by rw [ec,hall];rfl,hF3,by omega⟩ H3 (s2.trans s3) (by
          rw [h3,ec]
          congr 3
          show p + 1 + ds.length=p + (ds.length + 1)
          omega)
        refine ⟨_,rfl,rfl,_,rfl,?_⟩
        cases hb:decide (V.str (mk ds)=V.str (Str.ofString "0")) with
        | true =>
          refine iteT ⟨_,rfl,rfl,_,rfl,?_⟩
          rw [nm]
          refine iteF ?_
          refine ⟨_,rfl,mk ds,(m:Int),rfl,hi,hl,?_⟩
          refine ⟨_,rfl,rfl,_,rfl,?_⟩
          rw [nm]
          exact iteF ⟨_,rfl,fin⟩
        | false =>
          refine iteF (iteF ?_)
          refine ⟨_,rfl,mk ds,(m:Int),rfl,hi,hl,?_⟩
          refine ⟨_,rfl,rfl,_,rfl,?_⟩
          rw [nm]
          exact iteF ⟨_,rfl,fin⟩
    · rw [hd] at e1
      have e1:sg :: r=(if n < 0 then 45 else 43) :: (nt n.natAbs++c :: r'):=e1
      refine ⟨nt n.natAbs,c,r',⟨by rw [d1];exact (List.cons.inj e1).2,nt_dig,e2⟩,fun g=>by have:=nt_pos n.natAbs;rw [g] at this;exact absurd this (by decide),nt_len e3,fun r e=>nt_zero e⟩
  · rw [pm_out hsg]
    refine iteT ?_
    have hE:=q2 (fun ⟨n,c,r',e1,e2,e3⟩=>hsg (by
      rw [hd] at e1
      have e1:sg :: r=(if n < 0 then 45 else 43) :: (nt n.natAbs++c :: r'):=e1
      have:=(List.cons.inj e1).1
      split at this
      · exact .inr this
      · exact .inl this)) _ s2
    have l1:(Str.ofString " stands where a sign + or - should").length≤50:=by decide +kernel
    refine ⟨_,rfl,_,rfl,mk1_len _,mk_small (hA.lt (l:=[]) hd),fun y1 hy1=>⟨y1,rfl,sz_of (ap_len em_len hy1) (by decide),_,rfl,sz_of (ap_len (ap_len em_len hy1) l1) (by decide),sz_of (ap_len (ap_len em_len hy1) l1) (by decide),?_⟩⟩
    exact ⟨(by show 1≤sizeLine;decide),hE⟩
noncomputable def BrAt (n:Nat) (l:List Nat) (b:Br Str) (r:List Nat):Prop:=l=bt b++r∧Brok b∧ht b < n
noncomputable def spTbE (C N:Addr) (n:Nat):Sp:=fun vs H Q E=>∃ (x dx:Addr) (z:Str) (p d:Nat),vs=[.ref x,.int d]∧d + n=8∧1≤n∧RA C x dx z p H∧(∀ b r,BrAt n ((Ls z).drop p) b r→∀ v H',SX x H H'→H' x=some (.ins C dx (fl z (p + (bt b).length)))→BrV H' b v→Q v H') ∧
  ((¬ ∃ b r,BrAt n ((Ls z).drop p) b r)→∀ H',SX x H H'→E (.ref N) none H')
theorem ok_tbE (R:Rdr K C) (XN:ExcAt K mg "NotRead" N) (F:MAt K C "take_bracket" "Reader.take_bracket" (rm 8) ["self","depth"] f fd) (FT:MAt K C "take" "Reader.take" (rm 3) ["self"] ft td) (FW:MAt K C "take_wanted" "Reader.take_wanted" (rm 4) ["self","wanted"] fw wd)
    (GT:FnOk P w K mg base (CXE P w) 3 ft td ["self"] (spTkE C N)) (GW:FnOk P w K mg base (CXE P w) 4 fw wd ["self","wanted"] (spWaE C N)) {tG:PySem.Tok} (hL:mg "LETTERS" = some (.ref aL)) (uL:TupK K aL LET) (hG:mg "GREATEST_WEIGHT" = some (.int 8 tG)) :
    ∀ n:Nat,FnOk P w K mg base (CXE P w) (n + 4) f fd ["self","depth"] (spTbE C N n)
  | 0=>⟨fun vs H Q E h=>by obtain ⟨x,dx,z,p,d,_,_,h,_⟩:=h;omega,fun A outer s H args us vs Q E _ _ _ _ h=>by obtain ⟨x,dx,z,p,d,_,_,h,_⟩:=h;omega⟩
  | n + 1=>by
    have G:=ok_tbE R XN F FT FW GT GW hL uL hG n
    refine F.fn.okE scTb (fun vs H Q E h=>?_) (fun cdv A outer s H vs Q E hr h=>?_)
    · obtain ⟨x,dx,z,p,d,rfl,_⟩:=h
      rfl
    obtain ⟨x,dx,z,p,d,rfl,hdn,hn1,hA,q1,q2⟩:=h
    have hr3:Room 3 _:=hr.mono (by omega)
    have hr4:Room 4 _:=hr.mono (by omega)
    refine ⟨_,pss_cons (ps_set (i:=2) scTb.nd rfl (Or.inl rfl) (pe_meth0 (pv 0) R.cl FT.m GT hr3 FT.b .nil passE))
      (pss_cons (ps_if (pt_cmpR op_in_seq (pv 2) (pe_glob (v:=.ref aL) rfl hL rfl) (by with_unfolding_all rfl)) (pss_one (ps_ret (pv 2))) pss_nil)
      (pss_cons (ps_if (pt_cmpR op_ne (pv 2) pe_str (nomark _)) (pss_one (ps_raise hr.hd XN rfl (pa_cons (pe_join (pj_cons (pe_fmtR (pv 2)) (pj_cons pe_str pj_nil))) pa_nil))) pss_nil)
      (pss_cons (ps_if (pt_cmpR op_ge (pe_op op_add (pv 1) pe_int) (pe_glob (v:=.int 8) rfl hG ⟨tG,rfl⟩) (nomark _)) (pss_one (ps_raise hr.hd XN rfl (pa_cons (pe_join (pj_cons pe_str (pj_cons (pe_fmt (pe_glob (v:=.int 8) rfl hG ⟨tG,rfl⟩)) pj_nil))) pa_nil))) pss_nil)
      (pss_cons (ps_set (i:=3) scTb.nd rfl (Or.inl rfl) (pe_meth (pv 0) R.cl F.m G hr F.b .nil passE (pa_cons (pe_op op_add (pv 1) pe_int) pa_nil)))
      (pss_cons (ps_expr (pe_meth (pv 0) R.cl FW.m GW hr4 FW.b .nil passE (pa_cons pe_str pa_nil)))
      (pss_cons (ps_set (i:=4) scTb.nd rfl (Or.inl rfl) (pe_meth (pv 0) R.cl F.m G hr F.b .nil passE (pa_cons (pe_op op_add (pv 1) pe_int) pa_nil)))
      (pss_cons (ps_expr (pe_meth (pv 0) R.cl FW.m GW hr4 FW.b .nil passE (pa_cons pe_str pa_nil)))
      (pss_one (ps_ret (pe_tup (pa_cons (pv 3) (pa_cons (pv 4) pa_nil)))))))))))),?_⟩
    refine ⟨_,rfl,x,dx,_,rfl,hA.1,fl_no _ _ (by decide +kernel) (by decide +kernel),x,dx,z,p,rfl,hA,fun c r hd H1 s1 h1=>?_,fun hn=>q2 (fun ⟨b,r,e,hk,_⟩=>by
      obtain ⟨c,r',e',_⟩:=bt_beg hk
      rw [hn,e'] at e
      cases e) H (fun _ _ _ e=>e)⟩
    have d1:=(drop_at hd).2.2
    have hA1:=hA.on h1 (drop_at hd).2.1
    refine ⟨_,rfl,aL,_,rfl,.inr (uL.sq _),rfl,let_flat,_,rfl,?_⟩
    by_cases hc:c=97∨c=98∨c=99
    · rw [if_neg Bool.false_ne_true,let_in hc]
      refine iteT ⟨_,rfl,?_⟩
      have hab:Brok (.leaf (mk [c])):=⟨len_mk _,fun k hk=>by
        have hk:k∈Ls (mk [c]):=hk
        rw [Ls_mk] at hk
        have:k=c:=by simpa using hk
        rw [this];exact hc⟩
      have eb:bt (.leaf (mk [c]))=[c]:=Ls_mk _
      exact q1 (.leaf (mk [c])) r ⟨by rw [eb,hd];rfl,hab,hn1⟩ _ _ s1 (by rw [eb];exact h1) ⟨rfl,hab.1,hab.2⟩
    rw [if_neg Bool.false_ne_true,let_no hc]
    refine iteF ⟨_,rfl,rfl,_,rfl,?_⟩
    have shape:∀ b r',BrAt (n + 1) ((Ls z).drop p) b r'→∃ a1 a2,b = .node a1 a2∧c=91∧r=bt a1++(44 :: (bt a2++(93 :: r')))∧Brok a1∧Brok a2∧ht a1 < n∧ht a2 < n:=by
      rintro b r' ⟨e,hk,hh⟩
      rw [hd] at e
      cases b with
      | leaf y =>
        obtain ⟨c',hc',e1,e2⟩:=one_abc hk.1 hk.2
        rw [show bt (.leaf y)=[c'] from e1] at e
        exact absurd (by rw [(List.cons.inj e).1];exact hc') hc
      | node a1 a2 =>
        have e:c :: r=91 :: ((bt a1++44 :: (bt a2++[93]))++r'):=e
        have hh:1 + max (ht a1) (ht a2) < n + 1:=hh
        exact ⟨a1,a2,rfl,(List.cons.inj e).1,by rw [(List.cons.inj e).2];simp,hk.l,hk.r,by omega,by omega⟩
    by_cases c91:c=91
    · rw [decide_eq_true (show V.str (mk [c])=V.str (Str.ofString "[") by rw [c91,L_lb])]
      refine iteF ?_
      refine ⟨_,rfl,_,_,rfl,rfl,_,_,rfl,rfl,_,rfl,?_⟩
      refine ite2 (fun g=>?_) (fun g=>?_)
      · have g:(8:Int)≤(d:Int) + 1:=of_decide_eq_true g
        have hE:=q2 (fun ⟨b,r',hb⟩=>by
          obtain ⟨a1,a2,_,_,_,_,_,g1,g2⟩:=shape b r' hb
          omega) _ s1
        have l1:(Str.ofString "a bracket of a weight above ").length≤50:=by decide +kernel
        have l3:(Str.ofString (toString (8:Int))).length≤20:=by decide +kernel
        refine ⟨_,rfl,sz_of (ap_len em_len l1) (by decide),.inr ⟨8,rfl,by decide,_,rfl,sz_of (ap_len (ap_len em_len l1) l3) (by decide),sz_of (ap_len (ap_len em_len l1) l3) (by decide),?_⟩⟩
        exact ⟨(by show 1≤sizeLine;decide),hE⟩
      · have g:¬ (8:Int)≤(d:Int) + 1:=of_decide_eq_false (Bool.eq_false_iff.mpr g)
        refine ⟨_,rfl,x,dx,_,rfl,h1,fl_no _ _ (by decide +kernel) (by decide +kernel),_,rfl,_,_,rfl,rfl,x,dx,z,p + 1,d + 1,rfl,by omega,by omega,hA1,fun a r1 hB1 v1 H2 s2 h2 b1=>?_,fun hn H2 s2=>q2 (fun ⟨b,r',hb⟩=>by
          obtain ⟨a1,a2,_,_,e1,k1,_,g1,_⟩:=shape b r' hb
          exact hn ⟨a1,_,by rw [d1,e1],k1,g1⟩) H2 (s1.trans s2)⟩
        obtain ⟨hB1,hka,hha⟩:=hB1
        have d2:=drop_on hB1
        have hA2:=hA.on h2 (drop_le hA1.2.2.1 hB1)
        rw [d1] at hB1
        refine ⟨_,rfl,x,dx,_,rfl,h2,fl_no _ _ (by decide +kernel) (by decide +kernel),x,dx,z,_,44,(by rw [L_cm];rfl),by decide,hA2,fun r2 hd2 H3 s3 h3=>?_,fun hn H3 s3=>q2 (fun ⟨b,r',hb⟩=>by
          obtain ⟨a1,a2,_,_,e1,k1,_,g1,_⟩:=shape b r' hb
          rw [hB1] at e1
          obtain ⟨_,e2⟩:=bt_uni hka k1 e1
          exact hn ⟨_,by rw [d2,e2]⟩) H3 (s1.trans (s2.trans s3))⟩
        have d3:=(drop_at hd2).2.2
        have hA3:=hA.on h3 (drop_at hd2).2.1
        rw [d2] at hd2
        refine ⟨_,rfl,x,dx,_,rfl,h3,fl_no _ _ (by decide +kernel) (by decide +kernel),_,rfl,_,_,rfl,rfl,x,dx,z,_,d + 1,rfl,by omega,by omega,hA3,fun b r3 hB3 v2 H4 s4 h4 b2=>?_,fun hn H4 s4=>q2 (fun ⟨b,r',hb⟩=>by
          obtain ⟨a1,a2,_,_,e1,k1,k2,g1,g2⟩:=shape b r' hb
          rw [hB1] at e1
          obtain ⟨_,e2⟩:=bt_uni hka k1 e1
          rw [hd2] at e2
          exact hn ⟨a2,_,by rw [d3,(List.cons.inj e2).2],k2,g2⟩) H4 (s1.trans (s2.trans (s3.trans s4)))⟩
        obtain ⟨hB3,hkb,hhb⟩:=hB3
        have d4:=drop_on hB3
        have hA4:=hA.on h4 (drop_le hA3.2.2.1 hB3)
        rw [d3] at hB3
        refine ⟨_,rfl,x,dx,_,rfl,h4,fl_no _ _ (by decide +kernel) (by decide +kernel),x,dx,z,_,93,(by rw [L_rb];rfl),by decide,hA4,fun r4 hd4 H5 s5 h5=>?_,fun hn H5 s5=>q2 (fun ⟨b',r',hb⟩=>by
          obtain ⟨a1,a2,_,_,e1,k1,k2,g1,g2⟩:=shape b' r' hb
          rw [hB1] at e1
          obtain ⟨_,e2⟩:=bt_uni hka k1 e1
          rw [hd2] at e2
          have e3:=(List.cons.inj e2).2
          rw [hB3] at e3
          obtain ⟨_,e4⟩:=bt_uni hkb k2 e3
          exact hn ⟨_,by rw [d4,e4]⟩) H5 (s1.trans (s2.trans (s3.trans (s4.trans s5))))⟩
        rw [d4] at hd4
        refine ⟨_,rfl,_,rfl,(by show 2≤sizeLine;decide),fun t nt=>?_⟩
        have s6:=new_same nt (.tup [v1,v2])
        have nxt:x≠t:=ne_of_none h5 nt
        have c1:=(((b1.sx (ins_nt h2) s3).sx (ins_nt h3) s4).sx (ins_nt h4) s5).same s6
        have c2:=(b2.sx (ins_nt h4) s5).same s6
        refine q1 (.node a b) r4 ⟨?_,⟨⟨hka.1,hkb.1⟩,⟨hka.2,hkb.2⟩⟩,by show 1 + max (ht a) (ht b) < n + 1;omega⟩ (.ref t) _ (s1.trans (s2.trans (s3.trans (s4.trans (s5.trans s6.sx))))) ?_ ⟨t,v1,v2,rfl,upd_same,c1,c2⟩
        · rw [hd,c91,hB1,hd2,hB3,hd4]
          simp [bt]
        · rw [upd_ne nxt,h5]
          congr 3
          show _=p + (91 :: (bt a++44 :: (bt b++[93]))).length
          simp only [List.length_cons,List.length_append,List.length_nil]
          omega
    · rw [decide_eq_false (fun g=>c91 (by rw [L_lb] at g;exact (List.cons.inj (mk_inj (V.str.inj g))).1))]
      refine iteT ?_
      have hE:=q2 (fun ⟨b,r',hb⟩=>by
        obtain ⟨a1,a2,_,g,_⟩:=shape b r' hb
        exact c91 g) _ s1
      have l1:(Str.ofString " stands where a bracket should").length≤50:=by decide +kernel
      refine ⟨_,rfl,_,rfl,mk1_len _,mk_small (hA.lt (l:=[]) hd),fun y1 hy1=>⟨y1,rfl,sz_of (ap_len em_len hy1) (by decide),_,rfl,sz_of (ap_len (ap_len em_len hy1) l1) (by decide),sz_of (ap_len (ap_len em_len hy1) l1) (by decide),?_⟩⟩
      exact ⟨(by show 1≤sizeLine;decide),hE⟩
end
end K01
end
section
namespace K01
open PySem PySem.Spec PyProof.Rows Tim L2 Wm
section
variable {P:Program} {w:World} {K:PySem.W.Frag} {mg:Str→Option Value} {base:Heap} {f fe fi fh ft fw fg fc fb fq aL C N:Addr} {fd ed id' hd td wd gd cd bd qd:FuncData}
noncomputable def spWtH (n:Nat):Sp:=fun vs H Q _=>∃ (b:Br Str) (v:V),vs=[v]∧BrV H b v∧ht b < n∧Q (.int b.wt) H
theorem ok_wtH (T:Blt mg) (F:At K mg "weight" (top 3) ["bracket"] f fd):∀ n:Nat,FnOk P w K mg base CX0 n f fd ["bracket"] (spWtH n)
  | 0=>fn_zero fun vs H Q E h=>by
    obtain ⟨b,v,_,_,h,_⟩:=h
    omega
  | n + 1=>by
    have G:=ok_wtH T F n
    refine F.fn.ok scWtP (fun vs H Q E h=>?_) (fun cdv A outer s H vs Q E hr h=>?_)
    · obtain ⟨b,v,rfl,_⟩:=h
      rfl
    obtain ⟨b,v,rfl,hb,hn,q⟩:=h
    refine ⟨_,pss_cons (ps_if (pt_val (pe_callB call_isi rfl T.isi boot_isi (pa_cons (pv 0) (pa_cons (pe_ty rfl T.str bt_str) pa_nil)))) (pss_one (ps_ret pe_int)) pss_nil)
      (pss_one (ps_ret (pe_op op_add (pe_call G hr rfl F.m F.k F.b .nil pass0 (pa_cons (pe_ix ix_tup (pv 0) pe_int (fun _ _=>rfl)) pa_nil)) (pe_call G hr rfl F.m F.k F.b .nil pass0 (pa_cons (pe_ix ix_tup (pv 0) pe_int (fun _ _=>rfl)) pa_nil))))),?_⟩
    cases b with
    | leaf x =>
      obtain ⟨rfl,hx⟩:=hb
      refine ⟨_,rfl,_,_,_,rfl,.ss x,_,rfl,?_⟩
      exact iteT q
    | node a b =>
      obtain ⟨p,u,w,rfl,hp,h1,h2⟩:=hb
      have hn:1 + max (ht a) (ht b) < n + 1:=hn
      refine ⟨_,rfl,_,_,_,rfl,.ts hp,_,rfl,?_⟩
      refine iteF ?_
      refine ⟨_,rfl,p,_,_,_,rfl,rfl,.inl (.inl hp),rfl,a,u,rfl,h1,by omega,?_⟩
      exact ⟨_,rfl,p,_,_,_,rfl,rfl,.inl (.inl hp),rfl,b,w,rfl,h2,by omega,_,_,rfl,rfl,q⟩
noncomputable def TtAt (l:List Nat) (y:Int×Br Str) (r:List Nat):Prop:=l=tt y++r∧Tok y
noncomputable def spTtE (C N:Addr):Sp:=fun vs H Q E=>∃ (x dx:Addr) (z:Str) (p:Nat),vs=[.ref x]∧RA C x dx z p H∧(∀ y r,TtAt ((Ls z).drop p) y r→∀ t v H',SX x H H'→H' x=some (.ins C dx (fl z (p + (tt y).length)))→H' t=some (.tup [.int y.1,v])→BrV H' y.2 v→Q (.ref t) H') ∧
  ((¬ ∃ y r,TtAt ((Ls z).drop p) y r)→∀ H',SX x H H'→E (.ref N) none H')
theorem ok_ttE (T:Blt mg) (R:Rdr K C) (XN:ExcAt K mg "NotRead" N) (F:MAt K C "take_tuple" "Reader.take_tuple" (rm 5) ["self"] f fd) (FC:MAt K C "take_count" "Reader.take_count" (rm 6) ["self"] fc cd) (FB:MAt K C "take_bracket" "Reader.take_bracket" (rm 8) ["self","depth"] fb bd) (FQ:At K mg "weight" (top 3) ["bracket"] fq qd)
    (GC:FnOk P w K mg base (CXE P w) 5 fc cd ["self"] (spCoE C N)) (GB:FnOk P w K mg base (CXE P w) 12 fb bd ["self","depth"] (spTbE C N 8)) {tG:PySem.Tok} (hG:mg "GREATEST_WEIGHT" = some (.int 8 tG)):FnOk P w K mg base (CXE P w) 13 f fd ["self"] (spTtE C N):=by
  have GQ:FnOk P w K mg base CX0 8 fq qd ["bracket"] (spWtH 8):=ok_wtH T FQ 8
  refine F.fn.okE scTt (fun vs H Q E h=>?_) (fun cdv A outer s H vs Q E hr h=>?_)
  · obtain ⟨x,dx,z,p,rfl,_⟩:=h
    rfl
  obtain ⟨x,dx,z,p,rfl,hA,q1,q2⟩:=h
  have hr5:Room 5 _:=hr.mono (by omega)
  have hr8:Room 8 _:=hr.mono (by omega)
  refine ⟨_,pss_cons (ps_set (i:=1) scTt.nd rfl (Or.inl rfl) (pe_meth0 (pv 0) R.cl FC.m GC hr5 FC.b .nil passE))
    (pss_cons (ps_set (i:=2) scTt.nd rfl (Or.inl rfl) (pe_meth (pv 0) R.cl FB.m GB hr FB.b .nil passE (pa_cons pe_int pa_nil)))
    (pss_cons (ps_if (pt_cmpR op_gt (pe_call GQ hr8 rfl FQ.m FQ.k FQ.b .nil pass0 (pa_cons (pv 2) pa_nil)) (pe_glob (v:=.int 8) rfl hG ⟨tG,rfl⟩) (nomark _)) (pss_one (ps_raise hr.hd XN rfl (pa_cons (pe_join (pj_cons pe_str (pj_cons (pe_fmt (pe_glob (v:=.int 8) rfl hG ⟨tG,rfl⟩)) pj_nil))) pa_nil))) pss_nil)
    (pss_one (ps_ret (pe_tup (pa_cons (pv 1) (pa_cons (pv 2) pa_nil))))))),?_⟩
  refine ⟨_,rfl,x,dx,_,rfl,hA.1,fl_no _ _ (by decide +kernel) (by decide +kernel),x,dx,z,p,rfl,hA,fun n c r hC H1 s1 h1=>?_,fun hn H1 s1=>q2 (fun ⟨y,r,e,⟨k1,k2,k3⟩⟩=>hn (by
    obtain ⟨c,r',eb,hb⟩:=bt_beg k1
    exact ⟨y.1,c,r'++r,by rw [e];unfold tt;rw [eb];simp,beg_nd hb,k3⟩)) H1 s1⟩
  obtain ⟨c1,c2,c3⟩:=hC
  have d1:=drop_on c1
  have hA1:=hA.on h1 (drop_le hA.2.2.1 c1)
  refine ⟨_,rfl,x,dx,_,rfl,h1,fl_no _ _ (by decide +kernel) (by decide +kernel),x,dx,z,_,0,rfl,rfl,by decide,hA1,fun b r' hB v H2 s2 h2 b2=>?_,fun hn H2 s2=>q2 (fun ⟨y,r2,e,⟨k1,k2,k3⟩⟩=>hn (by
    obtain ⟨c',r',eb,hb⟩:=bt_beg k1
    have e':(Ls z).drop p=ct y.1++c' :: (r'++r2):=by rw [e];unfold tt;rw [eb];simp
    rw [c1] at e'
    obtain ⟨g1,g2,g3⟩:=ct_uni c2 (beg_nd hb) e'
    have:=ht_wt y.2
    exact ⟨y.2,r2,by rw [d1,g2,g3,eb];rfl,k1,by omega⟩)) H2 (s1.trans s2)⟩
  obtain ⟨hB,hk,hh⟩:=hB
  rw [d1] at hB
  have eall:(Ls z).drop p=tt (n,b)++r':=by rw [c1,hB];unfold tt;simp
  refine ⟨_,rfl,b,v,rfl,b2,hh,_,_,rfl,rfl,_,rfl,?_⟩
  refine ite2 (fun g=>?_) (fun g=>?_)
  · have g:(8:Int) < (b.wt:Int):=of_decide_eq_true g
    have hE:=q2 (fun ⟨y,r2,e,⟨k1,k2,k3⟩⟩=>by
      rw [eall] at e
      obtain ⟨e1,e2⟩:=tt_uni hk k1 e
      rw [← e1] at k2
      have k2:b.wt≤8:=k2
      omega) _ (s1.trans s2)
    have l1:(Str.ofString "a bracket of a weight above ").length≤50:=by decide +kernel
    have l3:(Str.ofString (toString (8:Int))).length≤20:=by decide +kernel
    refine ⟨_,rfl,sz_of (ap_len em_len l1) (by decide),.inr ⟨8,rfl,by decide,_,rfl,sz_of (ap_len (ap_len em_len l1) l3) (by decide),sz_of (ap_len (ap_len em_len l1) l3) (by decide),?_⟩⟩
    exact ⟨(by show 1≤sizeLine;decide),hE⟩
  · have g:¬ (8:Int) < (b.wt:Int):=of_decide_eq_false (Bool.eq_false_iff.mpr g)
    refine ⟨_,rfl,_,rfl,(by show 2≤sizeLine;decide),fun t nt=>?_⟩
    have s6:=new_same nt (.tup [.int n,v])
    have nxt:x≠t:=ne_of_none h2 nt
    refine q1 (n,b) r' ⟨eall,hk,by show b.wt≤8;omega,c3⟩ t v _ (s1.trans (s2.trans s6.sx)) ?_ upd_same (b2.same s6)
    have hl2:(tt (n,b)).length=(ct n).length + (bt b).length:=by unfold tt;rw [List.length_append]
    rw [upd_ne nxt,h2,hl2,Nat.add_assoc]
noncomputable def spReE (K:PySem.W.Frag) (N:Addr):Sp:=fun vs H Q E=>∃ z:Str,vs=[.str z]∧z.length≤100000∧(∀ c∈Ls z,c < 128) ∧
  (∀ T,Wr (Ls z) T→∀ t ps H',H t=none→Same H H'→H' t=some (.lst ps)→TotV K H' t ps T→Q (.ref t) H')∧((¬ ∃ T,Wr (Ls z) T)→∀ H',Same H H'→E (.ref N) none H')
theorem ok_reE (T:Blt mg) (R:Rdr K C) (XN:ExcAt K mg "NotRead" N) (hC:mg "Reader" = some (.ref C)) (F:At K mg "read" (top 12) ["text"] f fd) (M:Mk K C fi) (bI:Binds K id' ["self","text"] []) (GI:FnOk P w K mg base CX0 1 fi id' ["self","text"] (spIn C))
    (FE:MAt K C "at_end" "Reader.at_end" (rm 1) ["self"] fe ed) (GE:FnOk P w K mg base CX0 1 fe ed ["self"] (spEn C)) (FT:MAt K C "take_tuple" "Reader.take_tuple" (rm 5) ["self"] ft td) (GT:FnOk P w K mg base (CXE P w) 13 ft td ["self"] (spTtE C N))
    {tM:PySem.Tok} (hM:mg "MOST_TUPLES" = some (.int 12 tM)):FnOk P w K mg base (CXE P w) 14 f fd ["text"] (spReE K N):=by
  refine F.fn.okE scRe (fun vs H Q E h=>?_) (fun cdv A outer s H vs Q E hr h=>?_)
  · obtain ⟨z,rfl,_⟩:=h
    rfl
  obtain ⟨z,rfl,hz,hasc,q1,q2⟩:=h
  have hr1:Room 1 _:=hr.mono (by omega)
  have hr2:Room 2 _:=hr.mono (by omega)
  refine ⟨_,pss_cons (ps_if (pt_cmpR op_eq (pv 0) pe_str (nomark _)) (pss_one (ps_ret (pe_lst pa_nil))) pss_nil)
    (pss_cons (ps_set (i:=1) scRe.nd rfl (Or.inl rfl) (pe_make M GI hr2 rfl hC bI .nil pass0 (pa_cons (pv 0) pa_nil)))
    (pss_cons (ps_set (i:=2) scRe.nd rfl (Or.inl rfl) (pe_lst (pa_cons (pe_meth0 (pv 1) R.cl FT.m GT hr FT.b .nil passE) pa_nil)))
    (pss_cons (ps_while PassesOwn.leaving (pt_not (pt_val (pe_meth0 (pv 1) R.cl FE.m GE hr1 FE.b .nil pass0)))
      (pss_one (ps_expr (pe_bm PySem.F.plainAttrs_list PySem.F.slot_list_append PySem.F.type_list_append mt_append (pv 2) (pa_cons (pe_meth0 (pv 1) R.cl FT.m GT hr FT.b .nil passE) pa_nil)))))
    (pss_cons (ps_if (pt_cmpR op_gt (pe_callB call_len_seq rfl T.len PySem.boot_len (pa_cons (pv 2) pa_nil)) (pe_glob (v:=.int 12) rfl hM ⟨tM,rfl⟩) (nomark _)) (pss_one (ps_raise hr.hd XN rfl (pa_cons (pe_join (pj_cons pe_str (pj_cons (pe_fmt (pe_glob (v:=.int 12) rfl hM ⟨tM,rfl⟩)) (pj_cons pe_str pj_nil)))) pa_nil))) pss_nil)
    (pss_one (ps_ret (pv 2))))))),?_⟩
  have hsz:=sizeLine_eq
  refine ⟨_,rfl,rfl,_,rfl,?_⟩
  by_cases z0:Ls z=[48]
  · have e:z=Str.ofString "0":=str_ext (by rw [z0,L_no,Ls_mk])
    rw [e,decide_eq_true rfl]
    refine iteT ⟨by show 0≤sizeLine;decide,fun t nt=>?_⟩
    exact q1 [] (.inl ⟨rfl,z0⟩) t [] _ nt (new_same nt _) upd_same ⟨.inl (.inl upd_same),rfl,fun i x e=>by cases e⟩
  · have nz:decide (V.str z=V.str (Str.ofString "0"))=false:=decide_eq_false fun g=>z0 (by rw [V.str.inj g,L_no,Ls_mk])
    rw [nz]
    refine iteF ?_
    refine ⟨_,rfl,?_⟩
    intro x dx nx ndx nex
    have s0:Same H (upd (upd H dx (.own x)) x (.ins C dx [])):=fun b o e=>by
      rw [upd_ne (ne_of_none e nx),upd_ne (ne_of_none e ndx)]
      exact e
    refine ⟨x,dx,z,rfl,upd_same,fun H1 s1 h1=>⟨rfl,?_⟩⟩
    have s1:Same H H1:=SX.same s0 nx s1
    have hA1:RA C x dx z 0 H1:=⟨h1,hz,Nat.zero_le _,hasc⟩
    have only:∀ (A:List (Int×Br Str)) (r:List Nat),(∀ y∈A,Tok y)→Ls z=sxt A++r→∀ U,Wr (Ls z) U→∃ B,U=A++B∧r=sxt B∧(∀ y∈B,Tok y)∧U≠[]:=by
      intro A r hA e U hU
      rcases hU with ⟨_,g⟩ | ⟨g1,g2,g3,g4⟩
      · exact absurd g z0
      · rw [e] at g4
        obtain ⟨B,b1,b2⟩:=sxt_pre (fun y hy=>(hA y hy).1) (fun y hy=>(g3 y hy).1) g4
        exact ⟨B,b1,b2,fun y hy=>g3 y (by rw [b1];exact List.mem_append_right _ hy),g1⟩
    refine ⟨_,rfl,x,dx,_,rfl,h1,fl_no _ _ (by decide +kernel) (by decide +kernel),x,dx,z,0,rfl,hA1,fun y r0 hy a v H2 s2 h2 ea bv=>?_,fun hn H2 s2=>q2 (fun ⟨U,hU⟩=>hn (by
      obtain ⟨B,b1,b2,b3,b4⟩:=only [] (Ls z) (fun y hy=>by cases hy) rfl U hU
      cases B with
      | nil=>exact absurd b1 b4
      | cons y B=>exact ⟨y,sxt B,by rw [List.drop_zero,b2,sxt_cons],b3 y List.mem_cons_self⟩)) H2 (SX.same s1 nx s2)⟩
    obtain ⟨hy1,hy2⟩:=hy
    rw [List.drop_zero] at hy1
    have s2:Same H H2:=SX.same s1 nx s2
    refine ⟨by show 1≤sizeLine;decide,fun t nt=>?_⟩
    have nxt:x≠t:=ne_of_none h2 nt
    have s3':=new_same nt (.lst [.ref a])
    have s3:=s2.trans s3'
    have ntH:H t=none:=s2.free nt
    have hk1:∀ y'∈[y],Tok y':=fun y' hy'=>by
      have:y'=y:=by simpa using hy'
      rw [this];exact hy2
    refine ⟨fun m σ Hx=>∃ (A:List (Int×Br Str)) (r:List Nat) (ps:List V),m=r.length∧A≠[]∧(∀ y∈A,Tok y)∧Ls z=sxt A++r∧σ=[some (.str z),some (.ref x),some (.ref t)]∧Same H Hx∧Hx x=some (.ins C dx (fl z (sxt A).length))∧Hx t=some (.lst ps)∧TotV K Hx t ps A,⟨_,[y],r0,[.ref a],rfl,by simp,hk1,by rw [hy1,sxt_cons];simp [sxt],rfl,s3,?_,upd_same,?_⟩,?_⟩
    · rw [upd_ne nxt,h2]
      have:(sxt [y]).length=0 + (tt y).length:=by rw [sxt_cons,List.length_append];simp [sxt]
      rw [this]
    · refine ⟨.inl (.inl upd_same),rfl,fun i u e=>?_⟩
      cases i with
      | zero=>cases e;exact ⟨a,v,rfl,s3' _ _ ea,bv.same s3'⟩
      | succ i=>cases e
    rintro m σ Hx ⟨A,r,ps,rfl,hAne,hAk,hAs,rfl,sx,xx,xt,tv⟩
    have lz:(Ls z).length=(sxt A).length + r.length:=by rw [hAs,List.length_append]
    rw [len_Ls] at lz
    have hAx:RA C x dx z (sxt A).length Hx:=⟨xx,hz,by omega,hasc⟩
    have hdrop:(Ls z).drop (sxt A).length=r:=by rw [hAs,List.drop_left]
    have lA:A.length≤(sxt A).length:=by
      have key:∀ B:List (Int×Br Str),B.length≤(sxt B).length:=by
        intro B
        induction B with
        | nil=>exact Nat.le_refl _
        | cons u B ih =>
          obtain ⟨c,t,e,_⟩:=tt_head u
          rw [sxt_cons,e,List.length_append,List.length_cons,List.length_cons]
          omega
      exact key A
    have lps:ps.length=A.length:=tv.2.1
    refine ⟨_,rfl,x,dx,_,rfl,xx,fl_no _ _ (by decide +kernel) (by decide +kernel),x,dx,z,_,rfl,xx,hz,_,rfl,?_⟩
    by_cases hlt:r=[]
    · rw [hlt] at lz hAs
      rw [List.append_nil] at hAs
      rw [decide_eq_true (by rw [lz];rfl:(sxt A).length=z.length)]
      refine iteF ?_
      refine ⟨_,rfl,t,ps,rfl,.inl (.inl (.inl xt)),_,_,rfl,rfl,_,rfl,?_⟩
      rw [lps]
      refine ite2 (fun g=>?_) (fun g=>?_)
      · have g:(12:Int) < (A.length:Int):=of_decide_eq_true g
        have hE:=q2 (fun ⟨U,hU⟩=>by
          obtain ⟨B,b1,b2,b3,b4⟩:=only A [] hAk (by rw [hAs,List.append_nil]) U hU
          rcases hU with ⟨g1,_⟩ | ⟨_,g2,_,_⟩
          · exact b4 g1
          · rw [b1,List.length_append] at g2;omega) Hx sx
        have l1:(Str.ofString "more than ").length≤50:=by decide +kernel
        have l2:(Str.ofString " tuples").length≤50:=by decide +kernel
        have l3:(Str.ofString (toString (12:Int))).length≤20:=by decide +kernel
        refine ⟨_,rfl,sz_of (ap_len em_len l1) (by decide),.inr ⟨12,rfl,by decide,_,rfl,sz_of (ap_len (ap_len em_len l1) l3) (by decide),_,rfl,sz_of (ap_len (ap_len (ap_len em_len l1) l3) l2) (by decide),sz_of (ap_len (ap_len (ap_len em_len l1) l3) l2) (by decide),?_⟩⟩
        exact ⟨(by show 1≤sizeLine;decide),hE⟩
      · have g:¬ (12:Int) < (A.length:Int):=of_decide_eq_false (Bool.eq_false_iff.mpr g)
        exact ⟨_,rfl,q1 A (.inr ⟨hAne,by omega,hAk,hAs⟩) t ps Hx ntH sx xt tv⟩
    · have lr:r.length≠0:=fun g=>hlt (List.eq_nil_of_length_eq_zero g)
      rw [decide_eq_false (by omega:¬ (sxt A).length=z.length)]
      refine iteT ⟨fun σ' H'=>∃ (A':List (Int×Br Str)) (r':List Nat) (ps':List V),r'.length < r.length∧A'≠[]∧(∀ y∈A',Tok y)∧Ls z=sxt A'++r'∧σ'=[some (.str z),some (.ref x),some (.ref t)]∧Same H H'∧H' x=some (.ins C dx (fl z (sxt A').length))∧H' t=some (.lst ps')∧TotV K H' t ps' A',fun σ' H' ⟨A',r',ps',g0,g1,g2,g3,g4,g5,g6,g7,g8⟩=>⟨r'.length,g0,A',r',ps',rfl,g1,g2,g3,g4,g5,g6,g7,g8⟩,?_⟩
      refine ⟨_,rfl,.inl ⟨rfl,_,.inl (.inl xt)⟩,_,rfl,x,dx,_,rfl,xx,fl_no _ _ (by decide +kernel) (by decide +kernel),x,dx,z,_,rfl,hAx,fun u r' hu a' v' H4 s4 h4 ea' bv'=>?_,fun hn H4 s4=>q2 (fun ⟨U,hU⟩=>hn (by
        obtain ⟨B,b1,b2,b3,b4⟩:=only A r hAk hAs U hU
        cases B with
        | nil=>exact absurd b2 hlt
        | cons y B=>exact ⟨y,sxt B,by rw [hdrop,b2,sxt_cons],b3 y List.mem_cons_self⟩)) H4 (SX.same sx nx s4)⟩
      obtain ⟨hu1,hu2⟩:=hu
      rw [hdrop] at hu1
      have nxt:t≠x:=fun g=>by rw [g,xx] at xt;cases xt
      have xt4:=s4 t _ nxt xt
      refine ⟨t,ps,_,rfl,rfl,xt4,by omega,?_⟩
      have sAll:Same H (upd H4 t (.lst (ps++[.ref a']))):=upd_same2 (SX.same sx nx s4) ntH
      have sT:SX t H4 (upd H4 t (.lst (ps++[.ref a']))):=sx_upd
      have esx:sxt (A++[u])=sxt A++tt u:=by unfold sxt;rw [List.flatMap_append];simp
      obtain ⟨c1,t1,et1,_⟩:=tt_head u
      refine ⟨A++[u],r',ps++[.ref a'],?_,by simp,fun y' hy'=>?_,?_,rfl,sAll,?_,upd_same,.inl (.inl upd_same),?_,fun j w e=>?_⟩
      · rw [hu1,et1,List.length_append,List.length_cons];omega
      · rcases List.mem_append.mp hy' with g | g
        · exact hAk y' g
        · have:y'=u:=by simpa using g
          rw [this];exact hu2
      · rw [hAs,esx,hu1,List.append_assoc]
      · rw [upd_ne nxt.symm,h4,esx,List.length_append]
      · rw [List.length_append,lps,List.length_append];rfl
      · by_cases hj:j < A.length
        · rw [List.getElem?_append_left hj] at e
          obtain ⟨p,bw,f1,f2,f3⟩:=tv.2.2 j w e
          have npx:p≠x:=fun g=>by rw [g,xx] at f2;cases f2
          have f2':=s4 p _ npx f2
          have npt:p≠t:=fun g=>by rw [g,xt4] at f2';cases f2'
          refine ⟨p,bw,by rw [List.getElem?_append_left (by rw [lps];exact hj)];exact f1,sT p _ npt f2',(f3.sx (ins_nt xx) s4).sx (lst_nt xt4) sT⟩
        · have hjl:=(List.getElem?_eq_some_iff.mp e).1
          rw [List.length_append,List.length_singleton] at hjl
          have hj2:j=A.length:=by omega
          rw [hj2,List.getElem?_append_right (Nat.le_refl _),Nat.sub_self] at e
          cases e
          have npt:a'≠t:=fun g=>by rw [g,xt4] at ea';cases ea'
          refine ⟨a',v',by rw [List.getElem?_append_right (by rw [lps,hj2];exact Nat.le_refl _),lps,hj2,Nat.sub_self];rfl,sT a' _ npt ea',bv'.sx (lst_nt xt4) sT⟩
end
end K01
end
section
namespace K01
open PySem PySem.Spec PyProof.Rows Tim L2 Wm
noncomputable def d1 (c:Nat):Int:=(if c=91 then 1 else 0) - (if c=93 then 1 else 0)
noncomputable def dsum:List Nat→Int
  | []=>0
  | c :: l=>d1 c + dsum l
theorem dsum_app (a b:List Nat):dsum (a++b)=dsum a + dsum b:=by
  induction a with
  | nil=>show dsum b=0 + dsum b;omega
  | cons c a ih=>show d1 c + dsum (a++b)=d1 c + dsum a + dsum b;omega
theorem d1_44:d1 44=0:=by decide
theorem bt_dsum:∀ {b:Br Str},Brok b→dsum (bt b)=0:=by
  intro b
  induction b with
  | leaf x =>
    intro h
    obtain ⟨c,hc,e1,_⟩:=one_abc h.1 h.2
    rw [show bt (.leaf x)=[c] from e1]
    rcases hc with rfl | rfl | rfl <;> decide
  | node a b i1 i2 =>
    intro h
    show d1 91 + dsum (bt a++44 :: (bt b++[93]))=0
    rw [dsum_app]
    show d1 91 + (dsum (bt a) + (d1 44 + dsum (bt b++[93])))=0
    rw [dsum_app,i1 h.l,i2 h.r]
    decide
theorem bt_front:∀ {b:Br Str} {u v:List Nat},Brok b→bt b=u++v→u≠[]→v≠[]→1≤dsum u:=by
  intro b
  have pre:∀ {a:Br Str} {u v:List Nat},Brok a→(∀ {u v:List Nat},Brok a→bt a=u++v→u≠[]→v≠[]→1≤dsum u)→bt a=u++v→0≤dsum u:=by
    intro a u v ha ih e
    by_cases hu:u=[]
    · rw [hu];exact Int.le_refl _
    · by_cases hv:v=[]
      · rw [hv,List.append_nil] at e;rw [← e,bt_dsum ha];exact Int.le_refl _
      · have:=ih ha e hu hv;omega
  induction b with
  | leaf x =>
    intro u v h e hu hv
    obtain ⟨c,hc,e1,_⟩:=one_abc h.1 h.2
    rw [show bt (.leaf x)=[c] from e1] at e
    cases u with
    | nil=>exact absurd rfl hu
    | cons y u =>
      have:=(List.cons.inj e).2
      cases u with
      | nil=>exact absurd (show []=v from this).symm hv
      | cons _ _=>cases this
  | node a b i1 i2 =>
    intro u v h e hu hv
    cases u with
    | nil=>exact absurd rfl hu
    | cons y u =>
      have e:91 :: (bt a++44 :: (bt b++[93]))=y :: (u++v):=e
      have e0:=(List.cons.inj e).1
      have e:=(List.cons.inj e).2
      rw [← e0]
      show 1≤d1 91 + dsum u
      have d91:d1 91=1:=by decide
      rw [d91]
      have:0≤dsum u:=by
        rcases List.append_eq_append_iff.mp e with ⟨w,e1,e2⟩ | ⟨w,e1,e2⟩
        · -- u=bt a++w
          rw [e1,dsum_app,bt_dsum h.l]
          cases w with
          | nil=>show (0:Int)≤0 + 0;decide
          | cons k w =>
            have e3:=List.cons.inj (show 44 :: (bt b++[93])=k :: (w++v) from e2)
            rw [← e3.1]
            show 0≤0 + (d1 44 + dsum w)
            rw [d1_44]
            have:0≤dsum w:=by
              rcases List.append_eq_append_iff.mp e3.2 with ⟨x,g1,g2⟩ | ⟨x,g1,g2⟩
              · rw [g1,dsum_app,bt_dsum h.r]
                cases x with
                | nil=>show (0:Int)≤0 + 0;decide
                | cons k' x =>
                  have g3:=List.cons.inj (show 93 :: []=k' :: (x++v) from g2)
                  have:x++v=[]:=g3.2.symm
                  exact absurd (List.append_eq_nil_iff.mp this).2 hv
              · exact pre h.r i2 g1
            omega
        · exact pre h.l i1 e1
      omega
theorem bt_comma {b:Br Str} {u v:List Nat} (h:Brok b) (e:bt b=u++44 :: v):1≤dsum u:=by
  refine bt_front h e (fun hu=>?_) (by simp)
  obtain ⟨c,r,e',hb⟩:=bt_beg h
  rw [hu,e'] at e
  have:=(List.cons.inj e).1
  unfold Beg at hb
  omega
noncomputable def Cut (m:List Nat) (i:Nat):Prop:=dsum (m.take (i + 1))=0∧m[i]? = some 44
theorem cut_at {a b:Br Str} (ha:Brok a) {m:List Nat} (e:m=bt a++44 :: bt b):Cut m (bt a).length∧∀ i,i < (bt a).length→¬ Cut m i:=by
  subst e
  refine ⟨⟨?_,by rw [List.getElem?_append_right (Nat.le_refl _),Nat.sub_self];rfl⟩,fun i hi ⟨h1,h2⟩=>?_⟩
  · rw [List.take_append,List.take_of_length_le (by omega),dsum_app,bt_dsum ha,show (bt a).length + 1 - (bt a).length=1 by omega]
    show 0 + (d1 44 + 0)=0
    decide
  · rw [List.getElem?_append_left hi] at h2
    have hs:bt a=(bt a).take i++44 :: (bt a).drop (i + 1):=by
      have:=List.take_append_drop i (bt a)
      rw [List.drop_eq_getElem_cons hi] at this
      rw [List.getElem?_eq_getElem hi] at h2
      rw [Option.some.inj h2] at this
      exact this.symm
    have:=bt_comma ha hs
    rw [List.take_append_of_le_length (by omega),List.take_add_one,h2,dsum_app] at h1
    have:dsum ((some 44:Option Nat).toList)=0:=by decide
    omega
theorem sl1 {z:Str} (h:1≤z.length):Txt.slice z none (some 1)=mk ((Ls z).take 1):=slice_to h
theorem slm1 {z:Str} (h:1≤z.length):Txt.slice z (some (-1)) none=mk ((Ls z).drop (z.length - 1)):=by
  show StrLaws.sliceText z (some (-1)) none=_
  rw [StrLaws.sliceText_neg_lo z none (by decide) (by omega),show (-1:Int) + z.length=((z.length - 1:Nat):Int) by omega]
  exact slice_from (by omega)
theorem slmid {z:Str} {i j:Nat} (h:i≤j) (hj:j≤z.length):Txt.slice z (some (i:Int)) (some (j:Int))=mk (((Ls z).drop i).take (j - i)):=by
  apply str_ext
  rw [Ls_mk]
  have:=sl_mid (x:=z) (i:=(i:Int)) (j:=(j:Int)) ⟨by omega,by omega,by omega⟩
  rw [show Ls (Txt.slice z (some (i:Int)) (some (j:Int)))=_ from this,show ((i:Int)).toNat=i by omega,show ((j:Int) - (i:Int)).toNat=j - i by omega]
theorem slneg {z:Str} {i:Nat} (h:i + 1≤z.length):Txt.slice z (some (i:Int)) (some (-1))=mk (((Ls z).drop i).take (z.length - 1 - i)):=by
  show StrLaws.sliceText z (some (i:Int)) (some (-1))=_
  rw [StrLaws.sliceText_neg_hi z _ (by decide) (by omega),show (-1:Int) + z.length=((z.length - 1:Nat):Int) by omega]
  exact slmid (by omega) (by omega)
theorem di {c k:Nat} {s:Str} (e:s=mk [k]):(if decide (V.str (mk [c])=V.str s)=true then (1:Int) else 0)=if c=k then 1 else 0:=by
  by_cases h:c=k
  · rw [if_pos h,if_pos (decide_eq_true (by rw [e,h]))]
  · rw [if_neg h,if_neg (by rw [decide_eq_false (fun g=>h (by rw [e] at g;exact (List.cons.inj (mk_inj (V.str.inj g))).1))];exact Bool.false_ne_true)]
section
variable {P:Program} {w:World} {K:PySem.W.Frag} {mg:Str→Option Value} {base:Heap} {f:Addr} {fd:FuncData}
noncomputable def spPa (n:Nat):Sp:=fun vs H Q _=>∃ z:Str,vs=[.str z]∧z.length < 2 * n∧z.length≤100000∧(∀ b,Ls z=bt b→Brok b→∀ v H',Same H H'→BrV H' b v→Q v H')∧((¬ ∃ b,Ls z=bt b∧Brok b)→∀ H',Same H H'→Q .non H')
theorem scPa:FnScope ["text","depth","at","first","second"] ["text"] (defScope (top 30)):=⟨rfl,rfl,rfl,by decide +kernel,rfl,by decide +kernel,by decide +kernel⟩
theorem brv_ne {H:Hp} {b:Br Str} {v:V} (h:BrV H b v):decide (v=V.non)=false:=decide_eq_false fun e=>by
  subst e
  cases b with
  | leaf x=>cases h.1
  | node a b=>obtain ⟨p,u,w,e,_⟩:=h;cases e
theorem ok_pa (T:Blt mg) (F:At K mg "_law_parse" (top 30) ["text"] f fd):∀ n:Nat,FnOk P w K mg base CX0 n f fd ["text"] (spPa n)
  | 0=>fn_zero fun vs H Q E h=>by
    obtain ⟨z,_,h,_⟩:=h
    omega
  | n + 1=>by
    have G:=ok_pa T F n
    refine F.fn.ok scPa (fun vs H Q E h=>?_) (fun cdv A outer s H vs Q E hr h=>?_)
    · obtain ⟨z,rfl,_⟩:=h
      rfl
    obtain ⟨z,rfl,hn,hl,q1,q2⟩:=h
    refine ⟨_,@PSsW.out _ _ _ (w_cons ⟨ps_if (pt_cmpR op_eq (pe_callB call_len_str rfl T.len PySem.boot_len (pa_cons (pv 0) pa_nil)) pe_int (nomark _))
        (pss_one (ps_ret (pe_ifExp (pt_cmpR op_in_seq (pv 0) (pe_tup (pa_cons pe_str (pa_cons pe_str (pa_cons pe_str pa_nil)))) (by with_unfolding_all rfl)) (pv 0) pe_non))) pss_nil⟩
      (w_cons ⟨ps_if (PW.pt (pw_or (pt_cmpR op_ne (pe_slice sl_str (pv 0) po_none (po_some pe_int)) pe_str (nomark _)) (pw_or1 (pt_cmpR op_ne (pe_slice sl_str (pv 0) (po_some (pe_un un_neg pe_int)) po_none) pe_str (nomark _))))) (pss_one (ps_ret pe_non)) pss_nil⟩
      (w_cons ⟨ps_set (i:=1) scPa.nd rfl (Or.inl rfl) pe_int⟩
      (w_cons ⟨ps_for PassesOwn.never rfl (pi_range2 rfl T.rng (pa_cons pe_int (pa_cons (pe_op op_sub (pe_callB call_len_str rfl T.len PySem.boot_len (pa_cons (pv 0) pa_nil)) pe_int) pa_nil))) (pg_name (i:=2) scPa.nd rfl (Or.inl rfl))
        (@PSsW.out _ _ _ (w_cons ⟨ps_set (i:=1) scPa.nd rfl (Or.inl rfl) (pe_op op_sub (pe_op op_add (pv 1) (pe_callTy call_int1 rfl T.int bt_int (pa_cons (pe_cmpR op_eq (pe_item_str (pv 0) (pv 2) (fun _ _=>rfl)) pe_str (nomark _)) pa_nil))) (pe_callTy call_int1 rfl T.int bt_int (pa_cons (pe_cmpR op_eq (pe_item_str (pv 0) (pv 2) (fun _ _=>rfl)) pe_str (nomark _)) pa_nil)))⟩
        (w_one ⟨ps_if (PW.pt (pw_and (pt_cmpR op_eq (pv 1) pe_int (nomark _)) (pw_and1 (pt_cmpR op_eq (pe_item_str (pv 0) (pv 2) (fun _ _=>rfl)) pe_str (nomark _)))))
          (@PSsW.out _ _ _ (w_cons ⟨ps_set (i:=3) scPa.nd rfl (Or.inl rfl) (pe_call G hr rfl F.m F.k F.b .nil pass0 (pa_cons (pe_slice sl_str (pv 0) (po_some pe_int) (po_some (pv 2))) pa_nil))⟩
          (w_cons ⟨ps_set (i:=4) scPa.nd rfl (Or.inl rfl) (pe_call G hr rfl F.m F.k F.b .nil pass0 (pa_cons (pe_slice sl_str (pv 0) (po_some (pe_op op_add (pv 2) pe_int)) (po_some (pe_un un_neg pe_int))) pa_nil))⟩
          (w_one ⟨ps_ret (pe_ifExp (PW.pt (pw_or (pt_cmpR op_isN (pv 3) pe_non (nomark _)) (pw_or1 (pt_cmpR op_isN (pv 4) pe_non (nomark _))))) pe_non (pe_tup (pa_cons (pv 3) (pa_cons (pv 4) pa_nil))))⟩)))) pss_nil⟩)))⟩
      (w_one ⟨ps_ret pe_non⟩))))),?_⟩
    have hz:=sizeLine_eq
    have h62:=p62
    have h63:=p63
    have hlz:=len_Ls z
    refine ⟨_,rfl,z,rfl,by omega,rfl,_,rfl,?_⟩
    by_cases l1:z.length=1
    · rw [decide_eq_true (show V.int (z.length:Int)=V.int 1 by rw [l1];rfl)]
      refine iteT ?_
      refine ⟨_,rfl,(by show 3≤sizeLine;decide),fun a na=>⟨a,_,rfl,.inr (.inl (.inl upd_same)),rfl,rfl,_,rfl,?_⟩⟩
      have s1:=new_same na (.tup [V.str (Str.ofString "a"),V.str (Str.ofString "b"),V.str (Str.ofString "c")])
      obtain ⟨c,ec⟩:∃ c,Ls z=[c]:=by
        cases e:Ls z with
        | nil=>rw [e] at hlz;rw [l1] at hlz;cases hlz
        | cons c r=>rw [e,l1] at hlz;exact ⟨c,by rw [List.eq_nil_of_length_eq_zero (by rw [List.length_cons] at hlz;omega:r.length=0)]⟩
      have ez:z=mk [c]:=str_ext (by rw [ec,Ls_mk])
      by_cases hc:c=97∨c=98∨c=99
      · rw [if_neg Bool.false_ne_true,ez,show inV (V.str (mk [c])) [V.str (Str.ofString "a"),V.str (Str.ofString "b"),V.str (Str.ofString "c")]=true from let_in hc]
        refine iteT ⟨_,rfl,?_⟩
        have hab:Brok (.leaf (mk [c])):=⟨len_mk _,fun k hk=>by
          have hk:k∈Ls (mk [c]):=hk
          rw [Ls_mk] at hk
          have:k=c:=by simpa using hk
          rw [this];exact hc⟩
        exact q1 (.leaf (mk [c])) (by rw [ez];rfl) hab _ _ s1 ⟨rfl,hab.1,hab.2⟩
      · rw [if_neg Bool.false_ne_true,ez,show inV (V.str (mk [c])) [V.str (Str.ofString "a"),V.str (Str.ofString "b"),V.str (Str.ofString "c")]=false from let_no hc]
        refine iteF (q2 (fun ⟨b,e,hb⟩=>?_) _ s1)
        rw [ec] at e
        cases b with
        | leaf y =>
          obtain ⟨c',hc',e1,_⟩:=one_abc hb.1 hb.2
          rw [show bt (.leaf y)=[c'] from e1] at e
          exact hc (by rw [(List.cons.inj e).1];exact hc')
        | node x y =>
          have:=congrArg List.length e
          have:1=(91 :: (bt x++44 :: (bt y++[93]))).length:=this
          simp at this
    · rw [decide_eq_false (show ¬ V.int (z.length:Int)=V.int 1 from fun g=>l1 (by have:=V.int.inj g;omega))]
      refine iteF ?_
      have shape:∀ b,Ls z=bt b→Brok b→∃ a1 a2,b = .node a1 a2∧Ls z=91 :: ((bt a1++44 :: bt a2)++[93]):=by
        intro b e hb
        cases b with
        | leaf y=>exact absurd (by rw [← hlz,e,show bt (.leaf y)=Ls y from rfl,len_Ls];exact hb.1) l1
        | node a1 a2=>exact ⟨a1,a2,rfl,by rw [e];simp [bt]⟩
      by_cases l0:z.length=0
      · have ez:z=mk []:=str_ext (by rw [List.eq_nil_of_length_eq_zero (by rw [hlz];exact l0:(Ls z).length=0),Ls_mk])
        have es:Txt.slice (mk []) none (some 1)=mk []:=by decide +kernel
        refine ⟨_,rfl,_,rfl,z,rfl,by omega,rfl,_,rfl,?_⟩
        rw [ez,es,decide_eq_false (show ¬ V.str (mk [])=V.str (Str.ofString "[") from fun g=>by rw [L_lb] at g;exact absurd (mk_inj (V.str.inj g)) (by simp))]
        refine iteT (iteT (q2 (fun ⟨b,e,hb⟩=>?_) _ (Same.refl _)))
        have:=bt_pos hb
        rw [← e,hlz] at this
        omega
      obtain ⟨c,r,ecr⟩:∃ c r,Ls z=c :: r:=by
        cases e:Ls z with
        | nil=>rw [e] at hlz;exact absurd hlz.symm l0
        | cons c r=>exact ⟨c,r,rfl⟩
      refine ⟨_,rfl,_,rfl,z,rfl,by omega,rfl,_,rfl,?_⟩
      rw [sl1 (by omega),ecr,List.take_succ_cons,List.take_zero]
      by_cases c91:c=91
      · rw [decide_eq_true (show V.str (mk [c])=V.str (Str.ofString "[") by rw [c91,L_lb])]
        refine iteF ?_
        refine ⟨_,rfl,_,rfl,_,rfl,z,rfl,by omega,rfl,_,rfl,?_⟩
        rw [slm1 (by omega)]
        obtain ⟨d,ed⟩:∃ d,(Ls z).drop (z.length - 1)=[d]:=by
          have hk:z.length - 1 < (Ls z).length:=by omega
          exact ⟨(Ls z)[z.length - 1],by rw [List.drop_eq_getElem_cons hk,List.drop_eq_nil_of_le (by omega)]⟩
        rw [ed]
        by_cases c93:d=93
        · rw [decide_eq_true (show V.str (mk [d])=V.str (Str.ofString "]") by rw [c93,L_rb])]
          refine iteF ?_
          obtain ⟨m,em⟩:∃ m,Ls z=91 :: (m++[93]):=by
            refine ⟨((Ls z).take (z.length - 1)).drop 1,?_⟩
            have e:=List.take_append_drop (z.length - 1) (Ls z)
            rw [ed,c93] at e
            have e2:(Ls z).take (z.length - 1)=91 :: ((Ls z).take (z.length - 1)).drop 1:=by
              rw [ecr,c91]
              obtain ⟨k,hk⟩:∃ k,z.length - 1=k + 1:=⟨z.length - 2,by omega⟩
              rw [hk,List.take_succ_cons]
              rfl
            rw [← List.cons_append,← e2,e]
          have lm:m.length + 2=z.length:=by rw [← hlz,em];simp
          have mid:∀ i c,m[i]? = some c→z.cps[1 + i]? = some c:=fun i c h=>by
            have:(Ls z)[1 + i]? = some c:=by
              rw [em,Nat.add_comm,List.getElem?_cons_succ,List.getElem?_append_left (List.getElem?_eq_some_iff.mp h).1]
              exact h
            rw [Array.getElem?_toList] at this
            exact this
          have nocut:(∀ b,Ls z=bt b→Brok b→∃ a1 a2,b = .node a1 a2∧Brok a1∧Brok a2∧m=bt a1++44 :: bt a2):=by
            intro b e hb
            obtain ⟨a1,a2,e1,e2⟩:=shape b e hb
            subst e1
            rw [em] at e2
            exact ⟨a1,a2,rfl,hb.l,hb.r,List.append_cancel_right (List.cons.inj e2).2⟩
          refine ⟨_,rfl,z,rfl,by omega,_,_,rfl,rfl,1,(z.length:Int) - 1,rfl,⟨by decide,by decide,by omega,by omega⟩,?_⟩
          rw [show ((z.length:Int) - 1 - 1).toNat=m.length by omega]
          refine for_range (lo:=1) (n:=m.length) (fun i σ Hx=>∃ y2,σ=[some (.str z),some (.int (dsum (m.take i))),y2,none,none]∧Hx=H∧∀ j,j < i→¬ Cut m j) ⟨none,rfl,rfl,fun j hj=>absurd hj (Nat.not_lt_zero _)⟩ ?_ ?_
          · rintro i σ Hx hi ⟨y2,rfl,rfl,hno⟩
            obtain ⟨k,hk⟩:∃ k,m[i]? = some k:=⟨_,List.getElem?_eq_getElem hi⟩
            have hcp:=mid i k hk
            have hix:((1:Int) + (i:Int)).toNat=1 + i:=by omega
            have item:z.cps[((1:Int) + (i:Int)).toNat]? = some k:=by rw [hix];exact hcp
            refine ⟨_,rfl,_,rfl,_,rfl,z,_,k,rfl,rfl,by omega,by omega,by omega,item,rfl,.inr ⟨_,rfl,_,_,rfl,rfl,?_⟩⟩
            refine ⟨_,rfl,_,rfl,z,_,k,rfl,rfl,by omega,by omega,by omega,item,rfl,.inr ⟨_,rfl,_,_,rfl,rfl,?_⟩⟩
            have ed1:dsum (m.take i) + (if decide (V.str (mk [k])=V.str (Str.ofString "["))=true then (1:Int) else 0) - (if decide (V.str (mk [k])=V.str (Str.ofString "]"))=true then (1:Int) else 0)=dsum (m.take (i + 1)):=by
              rw [di L_lb,di L_rb,List.take_add_one,hk,dsum_app]
              show _=dsum (m.take i) + (d1 k + 0)
              unfold d1
              omega
            dsimp only
            rw [show (⟨#[k]⟩:Str)=mk [k] from rfl,ed1]
            have step:¬ Cut m i→∃ y2,([some (V.str z),some (V.int (dsum (m.take (i + 1)))),some (V.int (1 + (i:Int))),none,none]:L2.St)=[some (.str z),some (.int (dsum (m.take (i + 1)))),y2,none,none]∧Hx=Hx∧∀ j,j < i + 1→¬ Cut m j:=fun hc=>⟨_,rfl,rfl,fun j hj=>by
              by_cases e:j=i
              · rw [e];exact hc
              · exact hno j (by omega)⟩
            refine ⟨_,rfl,rfl,_,rfl,?_⟩
            by_cases d0:dsum (m.take (i + 1))=0
            · rw [decide_eq_true (show V.int (dsum (m.take (i + 1)))=V.int 0 by rw [d0])]
              refine iteT ⟨_,rfl,_,rfl,z,_,k,rfl,rfl,by omega,by omega,by omega,item,rfl,_,rfl,?_⟩
              rw [show (⟨#[k]⟩:Str)=mk [k] from rfl]
              by_cases k44:k=44
              · rw [decide_eq_true (show V.str (mk [k])=V.str (Str.ofString ",") by rw [k44,L_cm])]
                refine iteT ?_
                have hcut:Cut m i:=⟨d0,by rw [hk,k44]⟩
                have where_:∀ b,Ls z=bt b→Brok b→∃ a1 a2,b = .node a1 a2∧Brok a1∧Brok a2∧m.take i=bt a1∧m.drop (i + 1)=bt a2:=by
                  intro b e hb
                  obtain ⟨a1,a2,e1,h1,h2,e2⟩:=nocut b e hb
                  obtain ⟨g1,g2⟩:=cut_at (b:=a2) h1 e2
                  have hi2:i=(bt a1).length:=by
                    rcases Nat.lt_trichotomy i (bt a1).length with g | g | g
                    · exact absurd hcut (g2 i g)
                    · exact g
                    · exact absurd g1 (hno _ g)
                  refine ⟨a1,a2,e1,h1,h2,?_,?_⟩
                  · rw [e2,hi2,List.take_left]
                  · rw [e2,hi2,← List.drop_drop,List.drop_left];rfl
                have efirst:Txt.slice z (some 1) (some (1 + (i:Int)))=mk (m.take i):=by
                  have:=slmid (z:=z) (i:=1) (j:=1 + i) (by omega) (by omega)
                  rw [show ((1 + i:Nat):Int)=1 + (i:Int) by omega] at this
                  rw [show Txt.slice z (some 1) (some (1 + (i:Int)))=_ from this,em,List.drop_succ_cons,List.drop_zero,show 1 + i - 1=i by omega,List.take_append_of_le_length (by omega)]
                have esecond:Txt.slice z (some (1 + (i:Int) + 1)) (some (-1))=mk (m.drop (i + 1)):=by
                  have:=slneg (z:=z) (i:=i + 2) (by omega)
                  rw [show ((i + 2:Nat):Int)=1 + (i:Int) + 1 by omega] at this
                  rw [this,em,List.drop_succ_cons,show z.length - 1 - (i + 2)=(m.drop (i + 1)).length by rw [List.length_drop];omega,List.drop_append_of_le_length (by omega),List.take_left]
                have lt1:(m.take i).length≤m.length:=by rw [List.length_take];omega
                have lt2:(m.drop (i + 1)).length≤m.length:=by rw [List.length_drop];omega
                refine ⟨_,rfl,_,rfl,_,rfl,_,rfl,z,rfl,by omega,?_⟩
                rw [efirst]
                have tail:∀ (v1:V) (H1:Hp),Same Hx H1→((∃ b1,m.take i=bt b1∧Brok b1∧BrV H1 b1 v1)∨(v1 = .non∧¬ ∃ b1,m.take i=bt b1∧Brok b1))→∀ (v2:V) (H2:Hp),Same H1 H2→((∃ b2,m.drop (i + 1)=bt b2∧Brok b2∧BrV H2 b2 v2)∨(v2 = .non∧¬ ∃ b2,m.drop (i + 1)=bt b2∧Brok b2)) →
                    tIf (tOr (tTest (tOp (fun x y H Q=>y=V.non∧Q (.bl (decide (x=V.non))) H) (tVar 3) (tC .non))) (tTest (tOp (fun x y H Q=>y=V.non∧Q (.bl (decide (x=V.non))) H) (tVar 4) (tC .non)))) (tC .non) (tTup (tCons (tVar 3) (tCons (tVar 4) tNil))) [some (.str z),some (.int (dsum (m.take (i + 1)))),some (.int (1 + (i:Int))),some v1,some v2] H2 Q:=by
                  intro v1 H1 s1 o1 v2 H2 s2 o2
                  refine ⟨_,rfl,rfl,_,rfl,?_⟩
                  rcases o1 with ⟨b1,e1,k1,w1⟩ | ⟨rfl,n1⟩
                  · rw [brv_ne w1]
                    refine iteF ⟨_,rfl,rfl,_,rfl,?_⟩
                    rcases o2 with ⟨b2,e2,k2,w2⟩ | ⟨rfl,n2⟩
                    · rw [brv_ne w2]
                      refine iteF ⟨_,rfl,_,rfl,(by show 2≤sizeLine;decide),fun p np=>?_⟩
                      have s3:=new_same np (.tup [v1,v2])
                      refine q1 (.node b1 b2) ?_ ⟨⟨k1.1,k2.1⟩,⟨k1.2,k2.2⟩⟩ (.ref p) _ (s1.trans (s2.trans s3)) ⟨p,v1,v2,rfl,upd_same,w1.same (s2.trans s3),w2.same s3⟩
                      have:=List.take_append_drop i m
                      rw [List.drop_eq_getElem_cons hi] at this
                      rw [List.getElem?_eq_getElem hi] at hk
                      rw [Option.some.inj hk,k44,e1,e2] at this
                      rw [em,← this]
                      simp [bt]
                    · rw [decide_eq_true rfl]
                      refine iteT (q2 (fun ⟨b,e,hb⟩=>?_) _ (s1.trans s2))
                      obtain ⟨a1,a2,_,g1,g2,g3,g4⟩:=where_ b e hb
                      exact n2 ⟨a2,g4,g2⟩
                  · rw [decide_eq_true rfl]
                    refine iteT (iteT (q2 (fun ⟨b,e,hb⟩=>?_) _ (s1.trans s2)))
                    obtain ⟨a1,a2,_,g1,g2,g3,g4⟩:=where_ b e hb
                    exact n1 ⟨a1,g3,g1⟩
                have second:∀ (v1:V) (H1:Hp),Same Hx H1→((∃ b1,m.take i=bt b1∧Brok b1∧BrV H1 b1 v1)∨(v1 = .non∧¬ ∃ b1,m.take i=bt b1∧Brok b1)) →
                    tCall (spPa n) [] E0 (tCons (tSl rSlS (tVar 0) (tPart (tOp (rI0 fun i j=>V.int (i + j)) (tVar 2) (tC (.int 1)))) (tPart (tUn (rU fun i=>.int (-i)) (tC (.int 1))))) tNil) [some (.str z),some (.int (dsum (m.take (i + 1)))),some (.int (1 + (i:Int))),some v1,none] H1
                      (fun v2 H2=>tIf (tOr (tTest (tOp (fun x y H Q=>y=V.non∧Q (.bl (decide (x=V.non))) H) (tVar 3) (tC .non))) (tTest (tOp (fun x y H Q=>y=V.non∧Q (.bl (decide (x=V.non))) H) (tVar 4) (tC .non)))) (tC .non) (tTup (tCons (tVar 3) (tCons (tVar 4) tNil))) [some (.str z),some (.int (dsum (m.take (i + 1)))),some (.int (1 + (i:Int))),some v1,some v2] H2 Q):=by
                  intro v1 H1 s1 o1
                  refine ⟨_,rfl,_,rfl,_,_,rfl,rfl,_,rfl,_,rfl,_,rfl,z,rfl,by omega,?_⟩
                  rw [show (-(1:Int)) = -1 from rfl,esecond]
                  exact ⟨mk (m.drop (i + 1)),rfl,by rw [len_mk];omega,by rw [len_mk];omega,fun b2 e2 k2 v2 H2 s2 w2=>tail v1 H1 s1 o1 v2 H2 s2 (.inl ⟨b2,by rw [← e2,Ls_mk],k2,w2⟩),fun hn2 H2 s2=>tail v1 H1 s1 o1 .non H2 s2 (.inr ⟨rfl,fun ⟨b2,e2,k2⟩=>hn2 ⟨b2,by rw [Ls_mk];exact e2,k2⟩⟩)⟩
                exact ⟨mk (m.take i),rfl,by rw [len_mk];omega,by rw [len_mk];omega,fun b1 e1 k1 v1 H1 s1 w1=>second v1 H1 s1 (.inl ⟨b1,by rw [← e1,Ls_mk],k1,w1⟩),fun hn1 H1 s1=>second .non H1 s1 (.inr ⟨rfl,fun ⟨b1,e1,k1⟩=>hn1 ⟨b1,by rw [Ls_mk];exact e1,k1⟩⟩)⟩
              · rw [decide_eq_false (fun g=>k44 (by rw [L_cm] at g;exact (List.cons.inj (mk_inj (V.str.inj g))).1))]
                exact iteF (step fun ⟨_,g⟩=>k44 (by rw [hk] at g;exact Option.some.inj g))
            · rw [decide_eq_false (fun g=>d0 (V.int.inj g))]
              exact iteF (iteF (step fun ⟨g,_⟩=>d0 g))
          · rintro σ Hx ⟨y2,rfl,rfl,hno⟩
            refine q2 (fun ⟨b,e,hb⟩=>?_) _ (Same.refl _)
            obtain ⟨a1,a2,_,h1,h2,e2⟩:=nocut b e hb
            exact hno _ (by rw [e2,List.length_append,List.length_cons];omega) (cut_at (b:=a2) h1 e2).1
        · rw [decide_eq_false (fun g=>c93 (by rw [L_rb] at g;exact (List.cons.inj (mk_inj (V.str.inj g))).1))]
          refine iteT (q2 (fun ⟨b,e,hb⟩=>?_) _ (Same.refl _))
          obtain ⟨a1,a2,_,e2⟩:=shape b e hb
          have lz:z.length - 1=(91 :: (bt a1++44 :: bt a2)).length:=by rw [← hlz,e2];simp;omega
          rw [lz,show Ls z=(91 :: (bt a1++44 :: bt a2))++[93] from e2,List.drop_left] at ed
          exact c93 (List.cons.inj ed).1.symm
      · rw [decide_eq_false (fun g=>c91 (by rw [L_lb] at g;exact (List.cons.inj (mk_inj (V.str.inj g))).1))]
        refine iteT (iteT (q2 (fun ⟨b,e,hb⟩=>?_) _ (Same.refl _)))
        obtain ⟨a1,a2,_,e2⟩:=shape b e hb
        rw [ecr] at e2
        exact c91 (List.cons.inj e2).1
end
end K01
end
section
namespace K01
open PySem PySem.Spec PyProof.Rows Tim L2 Wm
theorem run_uni {p:Nat→Bool}:∀ {d e r r':List Nat},(∀ c∈d,p c=true)→(∀ c∈e,p c=true)→(r=[]∨∃ c t,r=c :: t∧p c=false)→(r'=[]∨∃ c t,r'=c :: t∧p c=false)→d++r=e++r'→d=e∧r=r':=by
  intro d
  induction d with
  | nil =>
    intro e r r' hd he hr hr' h
    cases e with
    | nil=>exact ⟨rfl,h⟩
    | cons x e =>
      have h:r=x :: (e++r'):=h
      rcases hr with g | ⟨c,t,g,g2⟩
      · rw [g] at h;cases h
      · rw [g] at h;have:=(List.cons.inj h).1;rw [this,he x List.mem_cons_self] at g2;cases g2
  | cons x d ih =>
    intro e r r' hd he hr hr' h
    cases e with
    | nil =>
      have h:x :: (d++r)=r':=h
      rcases hr' with g | ⟨c,t,g,g2⟩
      · rw [g] at h;cases h
      · rw [g] at h;have:=(List.cons.inj h).1;rw [← this,hd x List.mem_cons_self] at g2;cases g2
    | cons y e =>
      have h:=List.cons.inj (show x :: (d++r)=y :: (e++r') from h)
      obtain ⟨h1,h2⟩:=ih (fun c hc=>hd c (List.mem_cons_of_mem _ hc)) (fun c hc=>he c (List.mem_cons_of_mem _ hc)) hr hr' h.2
      rw [h.1,h1]
      exact ⟨rfl,h2⟩
noncomputable def sgn (c:Nat):Bool:=decide (c=43∨c=45)
theorem bt_nosg:∀ {b:Br Str},Brok b→∀ c∈bt b,c=91∨c=44∨c=93∨c=97∨c=98∨c=99:=by
  intro b
  induction b with
  | leaf x =>
    intro h c hc
    obtain ⟨k,hk,e1,_⟩:=one_abc h.1 h.2
    rw [show bt (.leaf x)=[k] from e1] at hc
    have:c=k:=by simpa using hc
    rw [this];omega
  | node a b i1 i2 =>
    intro h c hc
    have hc:c∈91 :: (bt a++44 :: (bt b++[93])):=hc
    simp only [List.mem_cons,List.mem_append,List.not_mem_nil,or_false] at hc
    rcases hc with g | g | g | g | g
    · exact .inl g
    · exact i1 h.l c g
    · exact .inr (.inl g)
    · exact i2 h.r c g
    · exact .inr (.inr (.inl g))
theorem tt_tail {y:Int×Br Str} (h:Brok y.2):∃ s t,tt y=s :: t∧sgn s=true∧∀ c∈t,(!sgn c)=true:=by
  refine ⟨_,_,rfl,?_,fun c hc=>?_⟩
  · unfold sgn
    refine decide_eq_true ?_
    by_cases g:y.1 < 0
    · exact .inr (if_pos g)
    · exact .inl (if_neg g)
  · have hc:c∈nt y.1.natAbs++bt y.2:=hc
    rcases List.mem_append.mp hc with g | g
    · have:=nt_dig c g
      unfold sgn
      simp only [Bool.not_eq_true',decide_eq_false_iff_not]
      omega
    · have:=bt_nosg h c g
      unfold sgn
      simp only [Bool.not_eq_true',decide_eq_false_iff_not]
      omega
theorem sxt_beg {B:List (Int×Br Str)}:sxt B=[]∨∃ c t,sxt B=c :: t∧(!sgn c)=false:=by
  cases B with
  | nil=>exact .inl rfl
  | cons y B =>
    obtain ⟨c,t,e,hc⟩:=tt_head y
    refine .inr ⟨c,t++sxt B,by rw [sxt_cons,e];rfl,?_⟩
    unfold sgn
    rw [decide_eq_true (by omega)];rfl
noncomputable def stS (l:List Nat):List Nat:=(List.range l.length).filter fun i=>sgn (l.getD i 0)
theorem stS_lt {l:List Nat} {k i:Nat} (h:(stS l)[k]? = some i):i < l.length∧sgn (l.getD i 0)=true:=by
  have:=List.mem_filter.mp (List.mem_of_getElem? h)
  exact ⟨List.mem_range.mp this.1,this.2⟩
theorem stS_pw (l:List Nat):(stS l).Pairwise (· < ·):=List.Pairwise.filter _ List.pairwise_lt_range
theorem stS_mono {l:List Nat} {k m a b:Nat} (h1:(stS l)[k]? = some a) (h2:(stS l)[m]? = some b) (hab:a < b):k < m:=by
  obtain ⟨l1,e1⟩:=List.getElem?_eq_some_iff.mp h1
  obtain ⟨l2,e2⟩:=List.getElem?_eq_some_iff.mp h2
  rcases Nat.lt_trichotomy k m with g | g | g
  · exact g
  · subst g;rw [e1] at e2;omega
  · have:=List.pairwise_iff_getElem.mp (stS_pw l) m k l2 l1 g
    omega
theorem stS_next {l:List Nat} {k a b:Nat} (h1:(stS l)[k]? = some a) (h2:(stS l++[l.length])[k + 1]? = some b):a < b∧b≤l.length∧(∀ j,a < j→j < b→sgn (l.getD j 0)=false)∧(b=l.length∨sgn (l.getD b 0)=true):=by
  obtain ⟨l1,e1⟩:=List.getElem?_eq_some_iff.mp h1
  have ha:=stS_lt h1
  by_cases hk:k + 1 < (stS l).length
  · rw [List.getElem?_append_left hk] at h2
    have hb:=stS_lt h2
    obtain ⟨l2,e2⟩:=List.getElem?_eq_some_iff.mp h2
    have hab:=List.pairwise_iff_getElem.mp (stS_pw l) k (k + 1) l1 l2 (Nat.lt_succ_self _)
    refine ⟨by omega,by omega,fun j hj1 hj2=>?_,.inr hb.2⟩
    refine Bool.eq_false_iff.mpr fun g=>?_
    obtain ⟨m,hm⟩:=List.mem_iff_getElem?.mp (show j∈stS l from List.mem_filter.mpr ⟨List.mem_range.mpr (by omega),g⟩)
    have g1:=stS_mono h1 hm hj1
    have g2:=stS_mono hm h2 hj2
    omega
  · have e:k + 1=(stS l).length:=by omega
    rw [e,List.getElem?_append_right (Nat.le_refl _),Nat.sub_self] at h2
    have eb:l.length=b:=Option.some.inj h2
    subst eb
    refine ⟨ha.1,Nat.le_refl _,fun j hj1 hj2=>?_,.inl rfl⟩
    refine Bool.eq_false_iff.mpr fun g=>?_
    obtain ⟨m,hm⟩:=List.mem_iff_getElem?.mp (show j∈stS l from List.mem_filter.mpr ⟨List.mem_range.mpr hj2,g⟩)
    have g1:=stS_mono h1 hm hj1
    have:=(List.getElem?_eq_some_iff.mp hm).1
    omega
theorem piece_is {l:List Nat} {k a b:Nat} (h1:(stS l)[k]? = some a) (h2:(stS l++[l.length])[k + 1]? = some b) :
    ∃ s t,(l.drop a).take (b - a)=s :: t∧sgn s=true∧(∀ c∈t,(!sgn c)=true)∧(l.drop b=[]∨∃ c r,l.drop b=c :: r∧(!sgn c)=false)∧l.drop a=(l.drop a).take (b - a)++l.drop b∧l.take b=l.take a++(l.drop a).take (b - a):=by
  obtain ⟨hab,hbl,hno,hend⟩:=stS_next h1 h2
  have ha:=stS_lt h1
  have el:l.drop a=l[a] :: l.drop (a + 1):=List.drop_eq_getElem_cons ha.1
  obtain ⟨d,hd⟩:∃ d,b - a=d + 1:=⟨b - a - 1,by omega⟩
  refine ⟨l[a],(l.drop (a + 1)).take d,by rw [el,hd,List.take_succ_cons],?_,fun c hc=>?_,?_,?_,?_⟩
  · have:=ha.2
    rwa [List.getD_eq_getElem?_getD,List.getElem?_eq_getElem ha.1] at this
  · obtain ⟨j,hj⟩:=List.mem_iff_getElem?.mp hc
    have hjd:j < d:=by have:=(List.getElem?_eq_some_iff.mp hj).1;rw [List.length_take] at this;omega
    rw [List.getElem?_take_of_lt hjd,List.getElem?_drop] at hj
    have:=hno (a + 1 + j) (by omega) (by omega)
    rw [List.getD_eq_getElem?_getD,hj] at this
    have this:sgn c=false:=this
    rw [this];rfl
  · rcases hend with g | g
    · exact .inl (List.drop_eq_nil_of_le (by omega))
    · by_cases gb:b < l.length
      · refine .inr ⟨l[b],l.drop (b + 1),List.drop_eq_getElem_cons gb,?_⟩
        rw [List.getD_eq_getElem?_getD,List.getElem?_eq_getElem gb] at g
        have g:sgn l[b]=true:=g
        rw [g];rfl
      · exact .inl (List.drop_eq_nil_of_le (by omega))
  · have:l.drop b=(l.drop a).drop (b - a):=by rw [List.drop_drop];congr 1;omega
    rw [this,List.take_append_drop]
  · have:b=a + (b - a):=by omega
    conv=>lhs;rw [this]
    rw [List.take_add]
theorem piece_bad {l:List Nat} {A:List (Int×Br Str)} {k a b:Nat} (h1:(stS l)[k]? = some a) (h2:(stS l++[l.length])[k + 1]? = some b) (hA:∀ y∈A,Tok y) (e:sxt A=l.take a) (l0:l≠[48]) (hp:¬ ∃ y,Tok y∧(l.drop a).take (b - a)=tt y):¬ ∃ U,Wr l U:=by
  rintro ⟨U,hU⟩
  obtain ⟨s,t,q1,q2,q3,q4,q5,q6⟩:=piece_is h1 h2
  rcases hU with ⟨_,g⟩ | ⟨g1,g2,g3,g4⟩
  · exact l0 g
  · have e2:sxt A++l.drop a=sxt U:=by rw [e,List.take_append_drop,g4]
    obtain ⟨B,b1,b2⟩:=sxt_pre (fun y hy=>(hA y hy).1) (fun y hy=>(g3 y hy).1) e2
    cases B with
    | nil =>
      have:l.drop a=[]:=b2
      rw [q5,q1] at this
      cases this
    | cons y B =>
      have hy:=g3 y (by rw [b1];exact List.mem_append_right _ List.mem_cons_self)
      obtain ⟨s',t',e3,e4,e5⟩:=tt_tail hy.1
      rw [sxt_cons,q5,q1,e3] at b2
      have b3:=List.cons.inj (show s :: (t++l.drop b)=s' :: (t'++sxt B) from b2)
      obtain ⟨e6,e7⟩:=run_uni (p:=fun c=>!sgn c) q3 e5 q4 sxt_beg b3.2
      exact hp ⟨y,hy,by rw [q1,e3,b3.1,e6]⟩
theorem piece_dec {y:Int×Br Str} {s:Nat} {ds br:List Nat} (hy:Tok y) (hA:PySem.NumText.AllDigits ds) (hb:br=[]∨∃ c r,br=c :: r∧¬ Dig c) (e:s :: (ds++br)=tt y):s=(if y.1 < 0 then 45 else 43)∧ds=nt y.1.natAbs∧br=bt y.2:=by
  obtain ⟨c,r,eb,hB⟩:=bt_beg hy.1
  have e:=List.cons.inj (show s :: (ds++br)=(if y.1 < 0 then 45 else 43) :: (nt y.1.natAbs++bt y.2) from e)
  have pd:∀ {c:Nat},Dig c→(decide (48≤c∧c≤57))=true:=fun h=>decide_eq_true h
  have pn:∀ {c:Nat},¬ Dig c→(decide (48≤c∧c≤57))=false:=fun h=>decide_eq_false h
  obtain ⟨h1,h2⟩:=run_uni (p:=fun c=>decide (48≤c∧c≤57)) (fun c hc=>pd (hA c hc)) (fun c hc=>pd (nt_dig c hc)) (by
    rcases hb with g | ⟨c,r,g,g2⟩
    · exact .inl g
    · exact .inr ⟨c,r,g,pn g2⟩) (.inr ⟨c,r,eb,pn (beg_nd hB)⟩) e.2
  exact ⟨e.1,h1,h2⟩
noncomputable def letr (c:Nat):Bool:=decide (c=97∨c=98∨c=99)
theorem bt_letr:∀ {b:Br Str},Brok b→((bt b).filter letr).length=b.wt:=by
  intro b
  induction b with
  | leaf x =>
    intro h
    obtain ⟨k,hk,e1,_⟩:=one_abc h.1 h.2
    rw [show bt (.leaf x)=[k] from e1]
    rw [List.filter_cons_of_pos (show letr k=true from decide_eq_true hk)]
    rfl
  | node a b i1 i2 =>
    intro h
    have:bt (.node a b)=[91]++(bt a++([44]++(bt b++[93]))):=by simp [bt]
    rw [this,List.filter_append,List.filter_append,List.filter_append,List.filter_append]
    simp only [List.length_append,i1 h.l,i2 h.r]
    have e1:([91].filter letr).length=0:=by decide
    have e2:([44].filter letr).length=0:=by decide
    have e3:([93].filter letr).length=0:=by decide
    show _=a.wt + b.wt
    omega
theorem dig_letr {ds:List Nat} (h:PySem.NumText.AllDigits ds):ds.filter letr=[]:=by
  refine List.filter_eq_nil_iff.mpr fun c hc=>?_
  have:=h c hc
  unfold letr
  simp only [decide_eq_true_eq]
  omega
end K01
end
section
namespace K01
open PySem PySem.Spec PyProof.Rows Tim L2 Wm
theorem letr_in {c:Nat} (h:c < 128):(!(Builtin.Str.occurrences (Str.ofString "abc") (mk [c]) 0 (Str.ofString "abc").length 1).isEmpty)=letr c:=by
  have key:∀ c:Nat,c < 128→(!(Builtin.Str.occurrences (Str.ofString "abc") (mk [c]) 0 (Str.ofString "abc").length 1).isEmpty)=letr c:=by decide +kernel
  exact key c h
theorem pm_is {c:Nat}:inV (V.str (mk [c])) [V.str (Str.ofString "+"),V.str (Str.ofString "-")]=sgn c:=by
  unfold sgn
  by_cases h:c=43∨c=45
  · rw [pm_in h,decide_eq_true h]
  · rw [pm_out h,decide_eq_false h]
theorem str_ne {c k:Nat} {s:Str} (e:s=mk [k]):decide (V.str (mk [c])=V.str s)=decide (c=k):=by
  by_cases h:c=k
  · rw [decide_eq_true h,decide_eq_true (by rw [h,e])]
  · rw [decide_eq_false h,decide_eq_false (fun g=>h (by rw [e] at g;exact (List.cons.inj (mk_inj (V.str.inj g))).1))]
theorem cps_of {z:Str} {l:List Nat} {i c:Nat} (e:Ls z=l) (h:l[i]? = some c):z.cps[i]? = some c:=by
  rw [← e,Array.getElem?_toList] at h
  exact h
theorem stS_head {c:Nat} {t:List Nat} (h:sgn c=true):(stS (c :: t))[0]? = some 0:=by
  unfold stS
  rw [List.length_cons,List.range_succ_eq_map,List.filter_cons_of_pos (p:=fun i=>sgn ((c :: t).getD i 0)) (a:=0) h]
  rfl
theorem wr_head {l:List Nat} (l0:l≠[48]) (h:∃ U,Wr l U):(stS l)[0]? = some 0:=by
  obtain ⟨U,⟨_,g⟩ | ⟨g1,_,_,g4⟩⟩:=h
  · exact absurd g l0
  · cases U with
    | nil=>exact absurd rfl g1
    | cons y U =>
      obtain ⟨c,t,e,hc⟩:=tt_head y
      rw [g4,sxt_cons,e,List.cons_append]
      exact stS_head (decide_eq_true (by omega))
noncomputable def rItem:R2:=fun x y H Q=>∃ z i c,x = .str z∧y = .int i∧0≤i∧i < 2 ^ 63∧i < z.length∧z.cps[i.toNat]? = some c∧Q (.str ⟨#[c]⟩) H
noncomputable def rLenS:List V→Hp→VK→Prop:=fun xs H Q=>∃ z,xs=[V.str z]∧z.length≤sizeLine∧Q (.int z.length) H
noncomputable def rInS:R2:=fun x y H Q=>∃ i j,x = .str i∧y = .str j∧Q (.bl (!(Builtin.Str.occurrences j i 0 j.length 1).isEmpty)) H
theorem fig_test {q ds br:List Nat} {s j:Nat} (hq:q=s :: (ds++br)) (hA:PySem.NumText.AllDigits ds) (hb:br=[]∨∃ c r,br=c :: r∧¬ Dig c) (h128:∀ c∈q,c < 128) (hl:q.length≤1000) {σ:L2.St} {H:Hp} {R:Bool→Hp→Prop} (h5:σ[5]? = some (some (.str (mk q)))) (h6:σ[6]? = some (some (.int (1 + (j:Int))))) (hj:j≤ds.length) (h:R (decide (j < ds.length)) H) :
    tAnd (tTest (tOp (rI0 fun i j=>V.bl (decide (i < j))) (tVar 6) (tCB rLenS (tCons (tVar 5) tNil)))) (tTest (tOp rInS (tOp rItem (tVar 5) (tVar 6)) (tC (.str (Str.ofString "0123456789"))))) σ H R:=by
  have hz:=sizeLine_eq
  have h63:=p63
  have lq:q.length=1 + ds.length + br.length:=by rw [hq,List.length_cons,List.length_append];omega
  refine ⟨_,h6,_,h5,mk q,rfl,by rw [len_mk];omega,_,_,rfl,rfl,_,rfl,?_⟩
  rw [len_mk]
  have item:∀ c,q[1 + j]? = some c→tTest (tOp rInS (tOp rItem (tVar 5) (tVar 6)) (tC (.str (Str.ofString "0123456789")))) σ H R∨¬ R (decide (48≤c∧c≤57)) H:=fun c hc=>by
    by_cases hR:R (decide (48≤c∧c≤57)) H
    · left
      have hlt:1 + j < q.length:=(List.getElem?_eq_some_iff.mp hc).1
      refine ⟨_,h5,_,h6,mk q,_,c,rfl,rfl,by omega,by omega,by rw [len_mk];omega,?_,_,_,rfl,rfl,_,rfl,?_⟩
      · rw [show ((1:Int) + (j:Int)).toNat=1 + j by omega]
        exact cps_of (Ls_mk q) hc
      · have:=fig_is (h128 c (List.mem_of_getElem? hc))
        rw [show (⟨#[c]⟩:Str)=mk [c] from rfl]
        show R (!(Builtin.Str.occurrences FIG (mk [c]) 0 FIG.length 1).isEmpty) H
        rw [this]
        exact hR
    · right;exact hR
  by_cases hlt:j < ds.length
  · rw [decide_eq_true (by omega:(1:Int) + (j:Int) < (q.length:Int))]
    refine iteT ?_
    obtain ⟨c,hc⟩:∃ c,ds[j]? = some c:=⟨_,List.getElem?_eq_getElem hlt⟩
    have hqc:q[1 + j]? = some c:=by rw [hq,Nat.add_comm,List.getElem?_cons_succ,List.getElem?_append_left hlt];exact hc
    rcases item c hqc with g | g
    · exact g
    · exact absurd (by rw [decide_eq_true (hA c (List.mem_of_getElem? hc))];rwa [decide_eq_true hlt] at h) g
  · have ej:j=ds.length:=by omega
    rw [decide_eq_false hlt] at h
    rcases hb with hb | ⟨c,r,hb,hn⟩
    · rw [hb] at lq
      have lq:q.length=1 + ds.length + 0:=lq
      rw [decide_eq_false (by omega:¬ (1:Int) + (j:Int) < (q.length:Int))]
      exact iteF h
    · rw [hb,List.length_cons] at lq
      rw [decide_eq_true (by omega:(1:Int) + (j:Int) < (q.length:Int))]
      refine iteT ?_
      have hqc:q[1 + j]? = some c:=by rw [hq,Nat.add_comm,List.getElem?_cons_succ,ej,List.getElem?_append_right (Nat.le_refl _),Nat.sub_self,hb];rfl
      rcases item c hqc with g | g
      · exact g
      · exact absurd (by rw [decide_eq_false (show ¬ (48≤c∧c≤57) from hn)];exact h) g
noncomputable def GoodW (ds:List Nat) (s:Nat):Prop:=ds≠[]∧ds.length≤30∧¬ (ds[0]? = some 48∧(ds≠[48]∨s=45))
theorem word_test {q ds:List Nat} {s:Nat} {t:List Nat} (hq:q=s :: t) (hl:q.length≤1000) (hd:ds.length≤1000) {σ:L2.St} {H:Hp} {R:Bool→Hp→Prop} (h5:σ[5]? = some (some (.str (mk q)))) (h7:σ[7]? = some (some (.str (mk ds)))) (hT:GoodW ds s→R false H) (hF:¬ GoodW ds s→R true H) :
    tOr (tTest (tOp rEq (tVar 7) (tC (.str (Str.ofString ""))))) (tOr (tTest (tOp (rI0 fun i j=>V.bl (decide (j < i))) (tCB rLenS (tCons (tVar 7) tNil)) (tC (.int 30))))
      (tAnd (tTest (tOp rEq (tOp rItem (tVar 7) (tC (.int 0))) (tC (.str (Str.ofString "0"))))) (tOr (tTest (tOp rNe (tVar 7) (tC (.str (Str.ofString "0"))))) (tTest (tOp rEq (tOp rItem (tVar 5) (tC (.int 0))) (tC (.str (Str.ofString "-")))))))) σ H R:=by
  have hz:=sizeLine_eq
  have h63:=p63
  refine ⟨_,h7,rfl,_,rfl,?_⟩
  cases ds with
  | nil =>
    rw [L_em,decide_eq_true rfl]
    exact iteT (hF fun g=>g.1 rfl)
  | cons d ds =>
    rw [L_em,decide_eq_false (fun g=>by have:=mk_inj (V.str.inj g);cases this)]
    refine iteF ⟨_,h7,_,rfl,by rw [len_mk];omega,_,_,rfl,rfl,_,rfl,?_⟩
    rw [len_mk]
    by_cases g30:(30:Int) < ((d :: ds).length:Int)
    · rw [decide_eq_true g30]
      exact iteT (hF fun g=>by have:=g.2.1;omega)
    · rw [decide_eq_false g30]
      refine iteF ⟨_,h7,mk (d :: ds),0,d,rfl,rfl,by decide,by omega,by rw [len_mk,List.length_cons];omega,cps_of (i:=0) (Ls_mk _) rfl,rfl,_,rfl,?_⟩
      rw [show (⟨#[d]⟩:Str)=mk [d] from rfl,str_ne L_no]
      by_cases d48:d=48
      · rw [decide_eq_true d48]
        refine iteT ⟨_,h7,rfl,_,rfl,?_⟩
        by_cases dn:ds=[]
        · rw [decide_eq_true (show V.str (mk (d :: ds))=V.str (Str.ofString "0") by rw [d48,dn,L_no])]
          refine iteF ⟨_,h5,mk q,0,s,rfl,rfl,by decide,by omega,by rw [len_mk,hq,List.length_cons];omega,cps_of (i:=0) (Ls_mk _) (by rw [hq];rfl),rfl,_,rfl,?_⟩
          rw [show (⟨#[s]⟩:Str)=mk [s] from rfl,str_ne L_mi]
          by_cases s45:s=45
          · rw [decide_eq_true s45]
            exact hF fun g=>g.2.2 ⟨by rw [d48];rfl,.inr s45⟩
          · rw [decide_eq_false s45]
            exact hT ⟨by simp,by omega,fun g=>by
              rcases g.2 with g | g
              · exact g (by rw [d48,dn])
              · exact s45 g⟩
        · rw [decide_eq_false (fun g=>dn (by rw [L_no] at g;exact (List.cons.inj (mk_inj (V.str.inj g))).2))]
          exact iteT (hF fun g=>g.2.2 ⟨by rw [d48];rfl,.inl fun e=>dn (List.cons.inj e).2⟩)
      · rw [decide_eq_false d48]
        exact iteF (hT ⟨by simp,by omega,fun g=>d48 (Option.some.inj g.1)⟩)
section
variable {P:Program} {w:World} {K:PySem.W.Frag} {mg:Str→Option Value} {base:Heap} {f fp:Addr} {fd pd:FuncData}
noncomputable def spDu (K:PySem.W.Frag):Sp:=fun vs H Q _=>∃ z:Str,vs=[.str z]∧z.length≤318∧(∀ c∈Ls z,c < 128)∧(∀ U,Wr (Ls z) U→∀ t ps H',Same H H'→H' t=some (.lst ps)→TotV K H' t ps U→Q (.ref t) H')∧((¬ ∃ U,Wr (Ls z) U)→∀ H',Same H H'→Q .non H')
theorem scDu:FnScope ["text","k","starts","found","start","piece","end","word","bracket"] ["text"] (defScope (top 31)):=⟨rfl,rfl,rfl,by decide +kernel,rfl,by decide +kernel,by decide +kernel⟩
noncomputable def cDu1:Scope:={ kind:=.function,names:=[(Str.ofString ".0",.local),(Str.ofString "k",.local),(Str.ofString "text",.free)],isGenerator:=false,isCoroutine:=false,more:=[] }
noncomputable def cDu2:Scope:={ kind:=.function,names:=[(Str.ofString ".0",.local),(Str.ofString "sign",.local)],isGenerator:=false,isCoroutine:=false,more:=[] }
set_option maxHeartbeats 1000000 in
theorem ok_du (T:Blt mg) (F:At K mg "_law_due" (top 31) ["text"] f fd) (FP:At K mg "_law_parse" (top 30) ["text"] fp pd):FnOk P w K mg base CX0 161 f fd ["text"] (spDu K):=by
  have GP:FnOk P w K mg base CX0 160 fp pd ["text"] (spPa 160):=ok_pa T FP 160
  refine F.fn.ok scDu (fun vs H Q E h=>?_) (fun cdv A outer s H vs Q E hr h=>?_)
  · obtain ⟨z,rfl,_⟩:=h
    rfl
  obtain ⟨z,rfl,hl,hasc,q1,q2⟩:=h
  have O1:CompOk (cxOf CX0 P w K mg base ["text","k","starts","found","start","piece","end","word","bracket"] "_law_due" (defScope (top 31)) f cdv A outer s H E).nox ["k","text"] cDu1 [(Str.ofString "text",s.heap.objs.size + 1)]:={
    clos:=rfl
    nocell:=by decide +kernel
    kind:=rfl
    names:=by decide +kernel
    sub:=fun x c e=>e
    has:=fun x h=>by
      have e:x=Str.ofString "text":=by
        rcases h with h | h
        · exact lk2 h (by decide)
        · exact lk2 h (by decide)
      subst e
      exact ⟨_,rfl⟩ }
  have O2:CompOk (cxOf CX0 P w K mg base ["text","k","starts","found","start","piece","end","word","bracket"] "_law_due" (defScope (top 31)) f cdv A outer s H E).nox ["sign"] cDu2 []:={
    clos:=rfl
    nocell:=by decide +kernel
    kind:=rfl
    names:=by decide +kernel
    sub:=fun x c e=>by cases e
    has:=fun x h=>by
      have e:=lk_has (l:=[(Str.ofString ".0",.local),(Str.ofString "sign",.local)]) (ys:=[]) h (by decide +kernel)
      cases e }
  have nd1:List.Nodup [Str.ofString "k",Str.ofString "text"]:=by decide +kernel
  have nd2:List.Nodup [Str.ofString "sign"]:=by decide +kernel
  refine ⟨_,@PSsW.out _ _ _ (w_cons ⟨ps_if (pt_cmpR op_eq (pv 0) pe_str (nomark _)) (pss_one (ps_ret (pe_lst pa_nil))) pss_nil⟩
    (w_cons ⟨ps_setComp (N':=["k","text"]) (i:=2) scDu.nd rfl rfl rfl O1 (pi_range1 rfl T.rng (pa_cons (pe_callB call_len_str rfl T.len PySem.boot_len (pa_cons (pv 0) pa_nil)) pa_nil)) (fun C s₀ H₀ ex pn xe=>pg_name (i:=0) nd1 rfl (.inl rfl) (.inr rfl))
      (fun C s₀ H₀ ex pn xe=>pifs_one (pt_cmpR (show OpR (compCx _ _ _ _ C s₀ H₀ ex pn xe) (compareOp .In) (rIn K false) from op_in_seq) (pe_item_str (pv 1) (pv 0) (fun _ _=>rfl)) (pe_tup (pa_cons pe_str (pa_cons pe_str pa_nil))) (by with_unfolding_all rfl))) (fun C s₀ H₀ ex pn xe=>pv 0)⟩
    (w_cons ⟨ps_if (PW.pt (pw_or (pt_cmpR op_eqLs (pv 2) (pe_lst pa_nil) (nomark _)) (pw_or1 (pt_cmpR op_ne (pe_ix ix_list (pv 2) pe_int (fun _ _=>rfl)) pe_int (nomark _))))) (pss_one (ps_ret pe_non)) pss_nil⟩
    (w_cons ⟨ps_set (i:=3) scDu.nd rfl (Or.inl rfl) (pe_lst pa_nil)⟩
    (w_cons ⟨ps_for PassesOwn.never rfl (pi_enum rfl T.enm (pa_cons (pv 2) pa_nil)) (pg_tup rfl (pgs_cons (pg_name (i:=1) scDu.nd rfl (Or.inl rfl)) (pgs_cons (pg_name (i:=4) scDu.nd rfl (Or.inl rfl)) pgs_nil)))
      (@PSsW.out _ _ _ (w_cons ⟨ps_set (i:=5) scDu.nd rfl (Or.inl rfl) (pe_slice sl_str (pv 0) (po_some (pv 4)) (po_some (pe_ix ix_list (pe_op op_cat (pv 2) (pe_lst (pa_cons (pe_callB call_len_str rfl T.len PySem.boot_len (pa_cons (pv 0) pa_nil)) pa_nil))) (pe_op op_add (pv 1) pe_int) (fun _ _=>rfl))))⟩
      (w_cons ⟨ps_set (i:=6) scDu.nd rfl (Or.inl rfl) pe_int⟩
      (w_cons ⟨ps_while PassesOwn.never (PW.pt (pw_and (pt_cmpR op_lt (pv 6) (pe_callB call_len_str rfl T.len PySem.boot_len (pa_cons (pv 5) pa_nil)) (nomark _)) (pw_and1 (pt_cmpR op_in_str (pe_item_str (pv 5) (pv 6) (fun _ _=>rfl)) pe_str (by with_unfolding_all rfl))))) (pss_one (ps_set (i:=6) scDu.nd rfl (Or.inl rfl) (pe_op op_add (pv 6) pe_int)))⟩
      (w_cons ⟨ps_set (i:=7) scDu.nd rfl (Or.inl rfl) (pe_slice sl_str (pv 5) (po_some pe_int) (po_some (pv 6)))⟩
      (w_cons ⟨ps_set (i:=8) scDu.nd rfl (Or.inl rfl) (pe_call GP hr rfl FP.m FP.k FP.b .nil pass0 (pa_cons (pe_slice sl_str (pv 5) (po_some (pv 6)) po_none) pa_nil))⟩
      (w_cons ⟨ps_if (PW.pt (pw_or (pt_cmpR op_isN (pv 8) pe_non (nomark _)) (pw_or (pt_cmpR op_eq (pv 7) pe_str (nomark _)) (pw_or (pt_cmpR op_gt (pe_callB call_len_str rfl T.len PySem.boot_len (pa_cons (pv 7) pa_nil)) pe_int (nomark _))
        (pw_or1 (PW.pt (pw_and (pt_cmpR op_eq (pe_item_str (pv 7) pe_int (fun _ _=>rfl)) pe_str (nomark _)) (pw_and1 (PW.pt (pw_or (pt_cmpR op_ne (pv 7) pe_str (nomark _)) (pw_or1 (pt_cmpR op_eq (pe_item_str (pv 5) pe_int (fun _ _=>rfl)) pe_str (nomark _))))))))))))) (pss_one (ps_ret pe_non)) pss_nil⟩
      (w_cons ⟨ps_if (pt_cmpR op_gt (pe_callB call_len_seq rfl T.len PySem.boot_len (pa_cons (pe_compG (N':=["sign"]) rfl O2 (pi_str (pv 5)) (fun C s₀ H₀ ex pn xe=>pg_name (i:=0) nd2 rfl (.inl rfl) (.inr rfl)) (fun C s₀ H₀ ex pn xe=>pifs_one (pt_cmpR op_in_str (pv 0) pe_str (by with_unfolding_all rfl))) (fun C s₀ H₀ ex pn xe=>pv 0)) pa_nil)) pe_int (nomark _)) (pss_one (ps_ret pe_non)) pss_nil⟩
      (w_one ⟨ps_expr (pe_bm PySem.F.plainAttrs_list PySem.F.slot_list_append PySem.F.type_list_append mt_append (pv 3) (pa_cons (pe_tup (pa_cons (pe_ifExp (pt_cmpR op_eq (pe_item_str (pv 5) pe_int (fun _ _=>rfl)) pe_str (nomark _)) (pe_callTy call_intT rfl T.int bt_int (pa_cons (pv 7) pa_nil)) (pe_op op_sub pe_int (pe_callTy call_intT rfl T.int bt_int (pa_cons (pv 7) pa_nil)))) (pa_cons (pv 8) pa_nil))) pa_nil))⟩)))))))))⟩
    (w_cons ⟨ps_if (pt_cmpR op_gt (pe_callB call_len_seq rfl T.len PySem.boot_len (pa_cons (pv 3) pa_nil)) pe_int (nomark _)) (pss_one (ps_ret pe_non)) pss_nil⟩
    (w_one ⟨ps_ret (pv 3)⟩))))))),?_⟩
  have hz:=sizeLine_eq
  have h62:=p62
  have h63:=p63
  have hlz:=len_Ls z
  refine ⟨_,rfl,rfl,_,rfl,?_⟩
  by_cases z0:Ls z=[48]
  · have e:z=Str.ofString "0":=str_ext (by rw [z0,L_no,Ls_mk])
    rw [decide_eq_true (show V.str z=V.str (Str.ofString "0") by rw [e])]
    refine iteT ⟨by show 0≤sizeLine;decide,fun t nt=>?_⟩
    exact q1 [] (.inl ⟨rfl,z0⟩) t [] _ (new_same nt _) upd_same ⟨.inl (.inl upd_same),rfl,fun i x e=>by cases e⟩
  rw [decide_eq_false (show ¬ V.str z=V.str (Str.ofString "0") from fun g=>z0 (by rw [V.str.inj g,L_no,Ls_mk]))]
  refine iteF ?_
  refine ⟨_,rfl,z,rfl,by omega,_,rfl,by omega,by omega,?_⟩
  refine ⟨[none,some (.str z)],⟨rfl,?_⟩,fun D nD=>?_⟩
  · intro i x v e1 e2
    rcases i with _ | _ | i
    · cases e2
    · cases e1
      cases e2
      exact ⟨0,rfl,rfl,rfl,rfl⟩
    · cases e1
  refine comp_rngG (g:=fun i=>.int (i:Int)) (p:=fun i=>sgn ((Ls z).getD i 0)) (by omega) nD (fun i Hx R hi sx hR=>?_) (fun i Hx R hi _ sx hR=>?_) fun H1 s1 xD=>?_
  · have hi':i < (Ls z).length:=by omega
    have hc:(Ls z)[i]? = some ((Ls z).getD i 0):=by rw [List.getD_eq_getElem?_getD,List.getElem?_eq_getElem hi'];rfl
    have e0:((0:Int) + (i:Int)).toNat=i:=by omega
    refine ⟨_,rfl,_,rfl,z,_,(Ls z).getD i 0,rfl,rfl,by omega,by omega,by omega,by rw [e0];exact cps_of rfl hc,(by show 2≤sizeLine;decide),fun a na=>⟨a,_,rfl,.inr (.inl (.inl upd_same)),rfl,rfl,_,rfl,?_⟩⟩
    rw [if_neg Bool.false_ne_true,show (⟨#[(Ls z).getD i 0]⟩:Str)=mk [(Ls z).getD i 0] from rfl,pm_is]
    exact hR _ (new_same na _)
  · refine ⟨_,rfl,?_⟩
    rw [Int.zero_add]
    exact hR _ (Same.refl _)
  rw [show ((z.length:Int)).toNat=(Ls z).length by omega] at xD
  have xD:H1 D=some (.lst ((stS (Ls z)).map fun (i:Nat)=>V.int (i:Int))):=xD
  have lS:(stS (Ls z)).length≤318:=by
    have:=List.length_filter_le (fun i=>sgn ((Ls z).getD i 0)) (List.range (Ls z).length)
    rw [List.length_range] at this
    show ((List.range (Ls z).length).filter _).length≤318
    omega
  generalize hS:stS (Ls z)=S at xD lS
  refine ⟨_,rfl,(by show 0≤sizeLine;decide),fun l0 nl0=>⟨D,l0,_,[],0,fun _=>true,rfl,rfl,.inl (.inl (new_same nl0 _ _ _ xD)),.inl (.inl upd_same),fun _=>⟨fun j u v e1 e2=>by cases e2⟩,un_of (n:=0) hr (by decide),_,rfl,?_⟩⟩
  have s2:Same H (upd H1 l0 (.lst [])):=s1.trans (new_same nl0 _)
  have xD2:upd H1 l0 (.lst []) D=some (.lst (S.map fun (i:Nat)=>V.int (i:Int))):=new_same nl0 _ _ _ xD
  generalize upd H1 l0 (.lst [])=H2 at s2 xD2
  cases S with
  | nil =>
    refine iteT (iteT (q2 (fun g=>?_) _ s2))
    have:=wr_head z0 g
    rw [hS] at this
    cases this
  | cons a0 S' =>
    have eF:lstEq ((a0 :: S').map fun (i:Nat)=>V.int (i:Int)) [] (fun _=>true)=false:=by
      unfold lstEq
      rw [decide_eq_false (by simp)]
      rfl
    rw [eF]
    refine iteF ⟨_,rfl,D,_,0,V.int (a0:Int),rfl,rfl,.inl (.inl xD2),atI_nat (j:=0) rfl,rfl,_,rfl,?_⟩
    by_cases a00:a0=0
    · rw [decide_eq_true (show V.int (a0:Int)=V.int 0 by rw [a00];rfl)]
      refine iteF ?_
      refine ⟨by show 0≤sizeLine;decide,fun t nt0=>?_⟩
      have nDt:D≠t:=ne_of_none xD2 nt0
      have ntH:H t=none:=s2.free nt0
      have s3':=new_same nt0 (.lst [])
      have s3:=s2.trans s3'
      have xD3:=s3' _ _ xD2
      have xt3:upd H2 t (.lst []) t=some (.lst []):=upd_same
      generalize upd H2 t (.lst [])=H3 at s3 xD3 xt3
      have lxs:((a0 :: S').map fun (i:Nat)=>V.int (i:Int)).length=(a0 :: S').length:=List.length_map _
      refine ⟨_,rfl,D,rfl,⟨_,.inl (.inl xD3)⟩,for_enum (K:=K) (l:=D) (xs:=(a0 :: S').map fun (i:Nat)=>V.int (i:Int)) (fun k σ Hx=>∃ (y1 y4 y5 y6 y7 y8:Option V) (A:List (Int×Br Str)) (ps:List V) (a:Nat),σ=[some (.str z),y1,some (.ref D),some (.ref t),y4,y5,y6,y7,y8]∧SX t H3 Hx∧Hx t=some (.lst ps)∧TotV K Hx t ps A∧(∀ y∈A,Tok y)∧A.length=k∧((a0 :: S')++[(Ls z).length])[k]? = some a∧sxt A=(Ls z).take a) ?_ ?_ ?_ ?_⟩
      · exact ⟨none,none,none,none,none,none,[],[],0,rfl,fun _ _ _ e=>e,xt3,⟨.inl (.inl xt3),rfl,fun i x e=>by cases e⟩,(fun y hy=>by cases hy),rfl,(by rw [a00];rfl),rfl⟩
      · rintro k σ Hx _ ⟨y1,y4,y5,y6,y7,y8,A,ps,a,rfl,sx,xt,tv,hA,lA,ha,eA⟩
        exact .inl (.inl (sx _ _ nDt xD3))
      · rintro k x e σ Hx hx ne ⟨y1,y4,y5,y6,y7,y8,A,ps,a,rfl,sx,xt,tv,hA,lA,ha,eA⟩
        have hkl:k < (a0 :: S').length:=by have:=(List.getElem?_eq_some_iff.mp hx).1;rwa [lxs] at this
        rw [List.getElem?_append_left hkl] at ha
        rw [List.getElem?_map,ha] at hx
        cases hx
        have xD4:=sx _ _ nDt xD3
        have s4:=new_same ne (.tup [V.int (k:Int),V.int (a:Int)])
        refine ⟨e,_,rfl,.inl (.inl upd_same),rfl,_,_,rfl,_,_,rfl,rfl,?_⟩
        have sx4:SX t H3 (upd Hx e (.tup [V.int (k:Int),V.int (a:Int)])):=sx.trans s4.sx
        have xt4:=s4 _ _ xt
        have xD5:=s4 _ _ xD4
        have tv4:=tv.same s4
        generalize upd Hx e (.tup [V.int (k:Int),V.int (a:Int)])=H4 at sx4 xt4 xD5 tv4
        obtain ⟨b,hb⟩:∃ b,((a0 :: S')++[(Ls z).length])[k + 1]? = some b:=⟨_,List.getElem?_eq_getElem (by rw [List.length_append,List.length_singleton];omega)⟩
        have ha':(stS (Ls z))[k]? = some a:=by rw [hS];exact ha
        have hb':(stS (Ls z)++[(Ls z).length])[k + 1]? = some b:=by rw [hS];exact hb
        obtain ⟨nab,nbl,_,_⟩:=stS_next ha' hb'
        obtain ⟨sg,tl,p1,p2,p3,p4,p5,p6⟩:=piece_is ha' hb'
        have bad:(¬ ∃ y,Tok y∧((Ls z).drop a).take (b - a)=tt y)→∀ H',Same H H'→Q .non H':=fun g=>q2 (piece_bad ha' hb' hA eA z0 g)
        obtain ⟨ds,br,hdb,hdd,hbr⟩:=dig_run tl
        have hq:((Ls z).drop a).take (b - a)=sg :: (ds++br):=by rw [p1,hdb]
        have lq:(((Ls z).drop a).take (b - a)).length≤318:=by rw [List.length_take,List.length_drop];omega
        have h128:∀ c∈((Ls z).drop a).take (b - a),c < 128:=fun c hc=>hasc c (List.mem_of_mem_drop (List.mem_of_mem_take hc))
        have good:∀ y,Tok y→((Ls z).drop a).take (b - a)=tt y→sg=(if y.1 < 0 then 45 else 43)∧ds=nt y.1.natAbs∧br=bt y.2:=fun y hy g=>piece_dec hy hdd hbr (by rw [← hq];exact g)
        have slq:Txt.slice z (some (a:Int)) (some (b:Int))=mk (((Ls z).drop a).take (b - a)):=slmid (by omega) (by omega)
        have etake:(Ls z).take b=sxt A++((Ls z).drop a).take (b - a):=by rw [eA];exact p6
        generalize ((Ls z).drop a).take (b - a)=q at bad hq lq h128 good slq etake
        refine ⟨_,rfl,_,rfl,_,rfl,_,rfl,_,rfl,z,rfl,by omega,(by show 1≤sizeLine;decide),fun r1 nr1=>?_⟩
        have s5:=new_same nr1 (.lst [V.int (z.length:Int)])
        refine ⟨D,r1,_,_,rfl,rfl,s5 _ _ xD5,upd_same,(by rw [lxs];show (a0 :: S').length + 1≤sizeLine;omega),fun r2 nr2=>?_⟩
        have s6:=new_same nr2 (.lst (((a0 :: S').map fun (i:Nat)=>V.int (i:Int))++[V.int (z.length:Int)]))
        have hat:(((a0 :: S').map fun (i:Nat)=>V.int (i:Int))++[V.int (z.length:Int)])[k + 1]? = some (V.int (b:Int)):=by
          have:((a0 :: S').map fun (i:Nat)=>V.int (i:Int))++[V.int (z.length:Int)]=((a0 :: S')++[(Ls z).length]).map fun (i:Nat)=>V.int (i:Int):=by rw [List.map_append,hlz];rfl
          rw [this,List.getElem?_map,hb]
          rfl
        refine ⟨_,rfl,_,_,rfl,rfl,r2,_,_,V.int (b:Int),rfl,rfl,.inl (.inl upd_same),atI_nat (j:=k + 1) hat,_,rfl,z,rfl,by omega,?_⟩
        rw [slq]
        have sx6:=SX.trans (SX.trans sx4 s5.sx) (s6.sx (x:=t))
        have xt6:=s6 _ _ (s5 _ _ xt4)
        have tv6:=tv4.same (s5.trans s6)
        generalize upd (upd H4 r1 (.lst [V.int (z.length:Int)])) r2 (.lst (((a0 :: S').map fun (i:Nat)=>V.int (i:Int))++[V.int (z.length:Int)]))=H6 at sx6 xt6 tv6
        have sH6:Same H H6:=SX.same s3 ntH sx6
        have lds:ds.length + br.length + 1=q.length:=by rw [hq,List.length_cons,List.length_append]
        refine ⟨fun m σ Hy=>∃ j:Nat,m=ds.length - j∧j≤ds.length∧σ=[some (.str z),some (.int (k:Int)),some (.ref D),some (.ref t),some (.int (a:Int)),some (.str (mk q)),some (.int (1 + (j:Int))),y7,y8]∧Hy=H6,⟨_,0,rfl,Nat.zero_le _,rfl,rfl⟩,?_⟩
        rintro m σ Hy ⟨j,rfl,hj,rfl,rfl⟩
        refine fig_test hq hdd hbr h128 (by omega) rfl rfl hj ?_
        by_cases hjl:j < ds.length
        · rw [decide_eq_true hjl]
          refine iteT ⟨fun σ' H'=>∃ j':Nat,j'=j + 1∧σ'=[some (.str z),some (.int (k:Int)),some (.ref D),some (.ref t),some (.int (a:Int)),some (.str (mk q)),some (.int (1 + (j':Int))),y7,y8]∧H'=Hy,fun σ' H' ⟨j',g1,g2,g3⟩=>⟨ds.length - j',by omega,j',rfl,by omega,g2,g3⟩,?_⟩
          refine ⟨_,rfl,_,_,rfl,rfl,j + 1,rfl,?_,rfl⟩
          show _=_
          rw [show ((j + 1:Nat):Int)=(j:Int) + 1 by omega,← Int.add_assoc]
          rfl
        · rw [decide_eq_false hjl]
          refine iteF ?_
          have ej:j=ds.length:=by omega
          subst ej
          have ew:Txt.slice (mk q) (some 1) (some (1 + (ds.length:Int)))=mk ds:=by
            have:=slmid (z:=mk q) (i:=1) (j:=1 + ds.length) (by omega) (by rw [len_mk];omega)
            rw [show ((1 + ds.length:Nat):Int)=1 + (ds.length:Int) by omega] at this
            rw [show Txt.slice (mk q) (some 1) (some (1 + (ds.length:Int)))=_ from this,Ls_mk,hq,List.drop_succ_cons,List.drop_zero,show 1 + ds.length - 1=ds.length by omega,List.take_left]
          have eb:Txt.slice (mk q) (some (1 + (ds.length:Int))) none=mk br:=by
            have:=slice_from (x:=mk q) (i:=1 + ds.length) (by rw [len_mk];omega)
            rw [show ((1 + ds.length:Nat):Int)=1 + (ds.length:Int) by omega] at this
            rw [this,Ls_mk,hq,Nat.add_comm,List.drop_succ_cons,List.drop_left]
          refine ⟨_,rfl,_,rfl,_,rfl,_,rfl,mk q,rfl,by rw [len_mk];omega,?_⟩
          rw [ew]
          refine ⟨_,rfl,_,rfl,_,rfl,mk q,rfl,by rw [len_mk];omega,?_⟩
          rw [eb]
          refine ⟨mk br,rfl,by rw [len_mk];omega,by rw [len_mk];omega,fun bb ebb kbb v H7 s7 w7=>?_,fun hn H7 s7=>?_⟩
          · rw [Ls_mk] at ebb
            have sH7:=sH6.trans s7
            refine ⟨_,rfl,rfl,_,rfl,?_⟩
            rw [brv_ne w7]
            refine iteF (word_test hq (by omega) (by omega) rfl rfl (fun hG=>?_) (fun hG=>?_))
            · refine iteF ?_
              refine ⟨_,rfl,mk q,rfl,?_,[none],⟨rfl,fun i x v e1 e2=>?_⟩,fun D2 nD2=>?_⟩
              · rw [Array.all_eq_true_iff_forall_mem]
                intro c hc
                have hc:c∈Ls (mk q):=by rw [show Ls (mk q)=(mk q).cps.toList from rfl,Array.mem_toList_iff];exact hc
                rw [Ls_mk] at hc
                exact decide_eq_true (h128 c hc)
              · match i,e1,e2 with
                | 0,e1,e2=>cases e2
                | i + 1,e1,e2=>cases e1
              have lmk:(mk q).length=q.length:=len_mk q
              have emk:(mk q).cps.toList=q:=Ls_mk q
              refine comp_anyG (n:=(mk q).length) (fun i=>.str ⟨#[(mk q).cps.toList.getD i 0]⟩) (fun i=>.str ⟨#[(mk q).cps.toList.getD i 0]⟩) (fun i=>letr (q.getD i 0)) items1_str (by omega) nD2 (fun i Hy R hi sy hR=>?_) (fun i Hy R hi _ sy hR=>⟨_,rfl,hR _ (Same.refl _)⟩) fun H8 s8 xD8=>?_
              · have hi':i < q.length:=by omega
                have hc:q.getD i 0 < 128:=by rw [List.getD_eq_getElem?_getD,List.getElem?_eq_getElem hi'];exact h128 _ (List.getElem_mem hi')
                refine ⟨_,rfl,_,_,rfl,rfl,_,rfl,?_⟩
                rw [emk,show (⟨#[q.getD i 0]⟩:Str)=mk [q.getD i 0] from rfl,letr_in hc]
                exact hR _ (Same.refl _)
              · have sH8:=sH7.trans s8
                refine ⟨D2,_,rfl,.inl (.inl (.inl xD8)),_,_,rfl,rfl,_,rfl,?_⟩
                have elen:(((List.range (mk q).length).filter fun i=>letr (q.getD i 0)).map fun i=>V.str ⟨#[(mk q).cps.toList.getD i 0]⟩).length=bb.wt:=by
                  rw [List.length_map,lmk]
                  have:=congrArg List.length (range_pick q 0 letr id)
                  rw [List.length_map,List.length_map] at this
                  rw [this,hq,List.filter_cons,List.filter_append,dig_letr hdd,List.nil_append,ebb]
                  have:letr sg=false:=by
                    have:=of_decide_eq_true p2
                    exact decide_eq_false (by omega)
                  rw [this,if_neg Bool.false_ne_true,bt_letr kbb]
                rw [elen]
                by_cases g8:(8:Int) < (bb.wt:Int)
                · rw [decide_eq_true g8]
                  refine iteT (bad (fun ⟨y,hy,g⟩=>?_) _ sH8)
                  obtain ⟨_,_,g3⟩:=good y hy g
                  rw [ebb] at g3
                  obtain ⟨e1,_⟩:=bt_uni (r:=[]) (r':=[]) kbb hy.1 (by rw [List.append_nil,List.append_nil];exact g3)
                  have:=hy.2.1
                  rw [← e1] at this
                  omega
                · rw [decide_eq_false g8]
                  refine iteF ?_
                  obtain ⟨m,hm,em⟩:=nt_of hdd hG.1 hG.2.1 (fun r er=>by
                    cases hr0:r with
                    | nil=>rfl
                    | cons _ _=>exact absurd ⟨by rw [er];rfl,.inl (fun g=>by rw [er,hr0] at g;cases g)⟩ hG.2.2)
                  have hi:intText? (mk ds)=some (m:Int):=by rw [em];exact nt_reads hm
                  have ld30:=hG.2.1
                  have xt8:H8 t=some (.lst ps):=s8 _ _ (s7 _ _ xt6)
                  have tv8:=tv6.same (s7.trans s8)
                  have w8:=w7.same s8
                  have sx8:SX t H3 H8:=sx6.trans ((s7.trans s8).sx)
                  have lps:ps.length=A.length:=tv.2.1
                  refine ⟨_,rfl,.inl ⟨rfl,_,.inl (.inl xt8)⟩,_,rfl,mk q,0,sg,rfl,rfl,by decide,by omega,by omega,cps_of (i:=0) (Ls_mk _) (by rw [hq];rfl),rfl,_,rfl,?_⟩
                  rw [show (⟨#[sg]⟩:Str)=mk [sg] from rfl,str_ne L_pl]
                  have fin:∀ n:Int,n.natAbs=m→(if n < 0 then 45 else 43)=sg→tCons (tVar 8) tNil [some (.str z),some (.int (k:Int)),some (.ref D),some (.ref t),some (.int (a:Int)),some (.str (mk q)),some (.int (1 + (ds.length:Int))),some (.str (mk ds)),some v] H8 (fun vs H9=>(V.int n :: vs).length≤sizeLine∧∀ p,H9 p=none→rAppend (.ref t) [.ref p] (upd H9 p (.tup (V.int n :: vs))) fun _ H'=>∃ (y1 y4 y5 y6 y7 y8:Option V) (A:List (Int×Br Str)) (ps:List V) (a':Nat),([some (.str z),some (.int (k:Int)),some (.ref D),some (.ref t),some (.int (a:Int)),some (.str (mk q)),some (.int (1 + (ds.length:Int))),some (.str (mk ds)),some v]:L2.St)=[some (.str z),y1,some (.ref D),some (.ref t),y4,y5,y6,y7,y8]∧SX t H3 H'∧H' t=some (.lst ps)∧TotV K H' t ps A∧(∀ y∈A,Tok y)∧A.length=k + 1∧((a0 :: S')++[(Ls z).length])[k + 1]? = some a'∧sxt A=(Ls z).take a'):=by
                    intro n hn hsn
                    have hy:Tok (n,bb):=⟨kbb,by show bb.wt≤8;omega,by show n.natAbs < 10 ^ 30;rw [hn];exact hm⟩
                    have ey:tt (n,bb)=q:=by
                      show ((if n < 0 then 45 else 43) :: nt n.natAbs)++bt bb=q
                      rw [hsn,hn,hq,em,ebb]
                      rfl
                    refine ⟨_,rfl,(by show 2≤sizeLine;decide),fun p np=>?_⟩
                    have s9:=new_same np (.tup [V.int n,v])
                    have xt9:=s9 _ _ xt8
                    have tv9:=tv8.same s9
                    have w9:=w8.same s9
                    have sT:SX t (upd H8 p (.tup [V.int n,v])) (upd (upd H8 p (.tup [V.int n,v])) t (.lst (ps++[.ref p]))):=sx_upd
                    have npt:p≠t:=fun g=>by rw [g,xt8] at np;cases np
                    refine ⟨t,ps,_,rfl,rfl,xt9,by omega,_,_,_,_,_,_,A++[(n,bb)],ps++[.ref p],b,rfl,(sx8.trans s9.sx).trans sT,upd_same,⟨.inl (.inl upd_same),by rw [List.length_append,lps,List.length_append];rfl,fun i x ex=>?_⟩,fun y hy'=>?_,by rw [List.length_append,lA];rfl,hb,?_⟩
                    · by_cases hj:i < A.length
                      · rw [List.getElem?_append_left hj] at ex
                        obtain ⟨p',bw,f1,f2,f3⟩:=tv9.2.2 i x ex
                        have npt':p'≠t:=fun g=>by rw [g,xt9] at f2;cases f2
                        refine ⟨p',bw,by rw [List.getElem?_append_left (by rw [lps];exact hj)];exact f1,sT p' _ npt' f2,f3.sx (lst_nt xt9) sT⟩
                      · have hjl:=(List.getElem?_eq_some_iff.mp ex).1
                        rw [List.length_append,List.length_singleton] at hjl
                        have hj2:i=A.length:=by omega
                        rw [hj2,List.getElem?_append_right (Nat.le_refl _),Nat.sub_self] at ex
                        cases ex
                        refine ⟨p,v,by rw [List.getElem?_append_right (by rw [lps,hj2];exact Nat.le_refl _),lps,hj2,Nat.sub_self];rfl,sT p _ npt upd_same,w9.sx (lst_nt xt9) sT⟩
                    · rcases List.mem_append.mp hy' with g | g
                      · exact hA y g
                      · have:y=(n,bb):=by simpa using g
                        rw [this];exact hy
                    · have:sxt (A++[(n,bb)])=sxt A++tt (n,bb):=by unfold sxt;rw [List.flatMap_append];simp
                      rw [this,ey,etake]
                  by_cases s43:sg=43
                  · rw [decide_eq_true s43]
                    refine iteT ⟨_,rfl,mk ds,(m:Int),rfl,hi,by rw [len_mk];omega,?_⟩
                    exact fin (m:Int) (by omega) (by rw [if_neg (by omega),s43])
                  · rw [decide_eq_false s43]
                    have s45:sg=45:=by have:=of_decide_eq_true p2;omega
                    have m0:m≠0:=fun g=>hG.2.2 ⟨by rw [em,g];decide,.inr s45⟩
                    refine iteF ⟨_,rfl,mk ds,(m:Int),rfl,hi,by rw [len_mk];omega,_,_,rfl,rfl,?_⟩
                    exact fin (0 - (m:Int)) (by omega) (by rw [if_pos (by omega),s45])
            · refine iteT (bad (fun ⟨y,hy,g⟩=>hG ?_) _ sH7)
              obtain ⟨g1,g2,g3⟩:=good y hy g
              refine ⟨fun e=>?_,?_,fun ⟨e1,e2⟩=>?_⟩
              · have:=nt_pos y.1.natAbs
                rw [← g2,e] at this
                exact absurd this (by decide)
              · rw [g2];exact nt_len hy.2.2
              · cases ds with
                | nil=>cases e1
                | cons d ds' =>
                  have:d=48:=Option.some.inj e1
                  subst this
                  have hd0:=nt_zero g2.symm
                  subst hd0
                  rcases e2 with e2 | e2
                  · exact e2 rfl
                  · have h0:y.1.natAbs=0:=nt_inj (g2.symm.trans (by decide:[48]=nt 0))
                    rw [if_neg (by omega)] at g1
                    omega
          · refine ⟨_,rfl,rfl,_,rfl,?_⟩
            rw [decide_eq_true rfl]
            refine iteT (iteT (bad (fun ⟨y,hy,g⟩=>?_) _ (sH6.trans s7)))
            obtain ⟨_,_,g3⟩:=good y hy g
            exact hn ⟨y.2,by rw [Ls_mk];exact g3,hy.1⟩
      · rintro σ Hx ⟨y1,y4,y5,y6,y7,y8,A,ps,a,rfl,sx,xt,tv,hA,lA,ha,eA⟩
        rw [lxs,List.getElem?_append_right (Nat.le_refl _),Nat.sub_self] at ha
        have ha:(Ls z).length=a:=Option.some.inj ha
        rw [← ha,List.take_length] at eA
        have sH:Same H Hx:=SX.same s3 ntH sx
        refine ⟨_,rfl,t,ps,rfl,.inl (.inl (.inl xt)),_,_,rfl,rfl,_,rfl,?_⟩
        have lps:ps.length=A.length:=tv.2.1
        have Ane:A≠[]:=fun g=>by rw [g,lxs] at lA;cases lA
        rw [lps]
        by_cases g12:(12:Int) < (A.length:Int)
        · rw [decide_eq_true g12]
          refine iteT (q2 (fun ⟨U,hU⟩=>?_) _ sH)
          rcases hU with ⟨_,g⟩ | ⟨g1,g2,g3,g4⟩
          · exact z0 g
          · obtain ⟨B,b1,b2⟩:=sxt_pre (r:=[]) (fun y hy=>(hA y hy).1) (fun y hy=>(g3 y hy).1) (by rw [List.append_nil,eA,g4])
            rw [b1,List.length_append] at g2
            omega
        · rw [decide_eq_false g12]
          exact iteF ⟨_,rfl,q1 A (.inr ⟨Ane,by omega,hA,eA.symm⟩) t ps Hx sH xt tv⟩
    · rw [decide_eq_false (show ¬ V.int (a0:Int)=V.int 0 from fun g=>a00 (by have:=V.int.inj g;omega))]
      refine iteT (q2 (fun g=>?_) _ s2)
      have:=wr_head z0 g
      rw [hS] at this
      exact a00 (Option.some.inj this)
end
end K01
end
section
namespace K01
open PySem PySem.Spec PyProof.Rows Tim L2 Wm
noncomputable def Txo (n:Nat) (z:Str):Prop:=z.length≤n∧∀ c∈Ls z,c < 128
noncomputable instance (n:Nat) (z:Str):Decidable (Txo n z):=by unfold Txo;infer_instance
theorem Txo.mono {m n:Nat} {z:Str} (h:Txo m z) (e:m≤n):Txo n z:=⟨Nat.le_trans h.1 e,h.2⟩
theorem Txo.cat {m n:Nat} {x y:Str} (h:Txo m x) (g:Txo n y):Txo (m + n) (x++y):=by
  refine ⟨?_,fun c hc=>?_⟩
  · have:=h.1;have:=g.1
    have e:(x++y).length=x.length + y.length:=PySem.Str.length_append x y
    omega
  · rw [Ls_cat] at hc
    rcases List.mem_append.mp hc with q | q
    · exact h.2 c q
    · exact g.2 c q
theorem txo_mk {n:Nat} {l:List Nat} (h1:l.length≤n) (h2:∀ c∈l,c < 128):Txo n (mk l):=⟨by rw [len_mk];exact h1,by rw [Ls_mk];exact h2⟩
theorem from_any (z:Str) (i:Nat):Txt.slice z (some (i:Int)) none=mk ((Ls z).drop i):=by
  by_cases h:i≤z.length
  · exact slice_from h
  · rw [slice_beyond (by omega),List.drop_eq_nil_of_le (by rw [len_Ls];omega)]
    exact mk_empty
noncomputable instance (x:Str) (n:Int):Decidable (MulOk x n):=by unfold MulOk;infer_instance
noncomputable def rMulS:R2:=fun x y H Q=>∃ (z:Str) (n:Int),x = .str z∧y = .int n∧MulOk z n∧Q (.str (Txt.mul z n)) H
theorem op_mulS {X:Cx}:OpR X (binaryOp .Mult) rMulS:=by
  intro pins s σ H x y v u Q I rx ry h
  obtain ⟨z,n,rfl,rfl,hm,q⟩:=h
  obtain ⟨t,rfl⟩:=rx
  obtain ⟨t',rfl⟩:=ry
  exact SB.mul hm fun t' k=>⟨.str _,H,I.tok _,⟨_,rfl⟩,q⟩
section
variable {P:Program} {w:World} {K:PySem.W.Frag} {mg:Str→Option Value} {base:Heap} {f fr fdr:Addr} {fd rd drd:FuncData}
noncomputable def spCh (n:Nat):Sp:=fun vs H Q _=>∃ (z:Str) (c:Int),vs=[.str z,.int c]∧Txo n z∧∀ z',Txo (n + 1) z'→Q (.str z') H
theorem scCh:FnScope ["text","cell","at","sign","mode"] ["text","cell"] (defScope (top 26)):=⟨rfl,rfl,rfl,by decide +kernel,rfl,by decide +kernel,by decide +kernel⟩
theorem sign_at {i:Int} (h0:0≤i) (h:i < 17):∃ c,(Str.ofString "+-0123[],abcd A.\t").cps[i.toNat]? = some c∧c < 128:=by
  have key:∀ k:Nat,k < 17→∃ c,c < 128∧(Str.ofString "+-0123[],abcd A.\t").cps[k]? = some c:=by decide +kernel
  obtain ⟨c,h1,h2⟩:=key i.toNat (by omega)
  exact ⟨c,h2,h1⟩
theorem ok_ch (T:Blt mg) (F:At K mg "_law_changed" (top 26) ["text","cell"] f fd) (n:Nat) (hn:n≤1000):FnOk P w K mg base CX0 1 f fd ["text","cell"] (spCh n):=by
  refine F.fn.ok scCh (fun vs H Q E h=>?_) (fun cdv A outer s H vs Q E hr h=>?_)
  · obtain ⟨z,c,rfl,_⟩:=h
    rfl
  obtain ⟨z,c,rfl,hz,q⟩:=h
  refine ⟨_,pss_cons (ps_set (i:=2) scCh.nd rfl (Or.inl rfl) (pe_op op_mod (pv 1) (pe_op op_add (pe_callB call_len_str rfl T.len PySem.boot_len (pa_cons (pv 0) pa_nil)) pe_int)))
    (pss_cons (ps_set (i:=3) scCh.nd rfl (Or.inl rfl) (pe_item_str pe_str (pe_op op_mod (pe_op op_fdiv (pv 1) pe_int) pe_int) (fun _ _=>rfl)))
    (pss_cons (ps_set (i:=4) scCh.nd rfl (Or.inl rfl) (pe_op op_mod (pe_op op_fdiv (pv 1) pe_int) pe_int))
    (pss_cons (ps_if (pt_cmpR op_eq (pv 4) pe_int (nomark _)) (pss_one (ps_ret (pe_op op_add_str (pe_slice sl_str (pv 0) po_none (po_some (pv 2))) (pe_slice sl_str (pv 0) (po_some (pe_op op_add (pv 2) pe_int)) po_none)))) pss_nil)
    (pss_cons (ps_if (pt_cmpR op_eq (pv 4) pe_int (nomark _)) (pss_one (ps_ret (pe_op op_add_str (pe_op op_add_str (pe_slice sl_str (pv 0) po_none (po_some (pv 2))) (pv 3)) (pe_slice sl_str (pv 0) (po_some (pv 2)) po_none)))) pss_nil)
    (pss_one (ps_ret (pe_op op_add_str (pe_op op_add_str (pe_slice sl_str (pv 0) po_none (po_some (pv 2))) (pv 3)) (pe_slice sl_str (pv 0) (po_some (pe_op op_add (pv 2) pe_int)) po_none)))))))),?_⟩
  have hsz:=sizeLine_eq
  have h63:=p63
  have hl:=hz.1
  have m1:=mod_lt (i:=c) (j:=(z.length:Int) + 1) (by omega)
  have m2:=mod_lt (i:=c / 4096) (j:=17) (by decide)
  obtain ⟨k,hk,hk2⟩:=sign_at m2.1 m2.2
  have l17:(Str.ofString "+-0123[],abcd A.\t").length=17:=by decide +kernel
  refine ⟨_,rfl,_,rfl,z,rfl,by omega,_,_,rfl,rfl,_,_,rfl,rfl,(by show 0 < (z.length:Int) + 1;omega),?_⟩
  refine ⟨_,rfl,_,_,rfl,rfl,⟨by decide,by decide⟩,_,_,rfl,rfl,(by show (0:Int) < 17;decide),_,_,k,rfl,rfl,m2.1,by omega,(by rw [l17];exact m2.2),hk,?_⟩
  refine ⟨_,rfl,_,_,rfl,rfl,⟨by decide,by decide⟩,_,_,rfl,rfl,(by show (0:Int) < 3;decide),?_⟩
  obtain ⟨a,ha⟩:∃ a:Nat,(a:Int)=c % ((z.length:Int) + 1):=⟨(c % ((z.length:Int) + 1)).toNat,by omega⟩
  rw [← ha] at m1
  dsimp only
  rw [← ha]
  have e1:Txt.slice z none (some (a:Int))=mk ((Ls z).take a):=slice_to (by omega)
  have e2:Txt.slice z (some ((a:Int) + 1)) none=mk ((Ls z).drop (a + 1)):=from_any z (a + 1)
  have e3:Txt.slice z (some (a:Int)) none=mk ((Ls z).drop a):=from_any z a
  have lz:=len_Ls z
  have t1:Txo a (mk ((Ls z).take a)):=txo_mk (by rw [List.length_take];omega) fun c hc=>hz.2 c (List.mem_of_mem_take hc)
  have t2:Txo (n - a) (mk ((Ls z).drop (a + 1))):=txo_mk (by rw [List.length_drop];omega) fun c hc=>hz.2 c (List.mem_of_mem_drop hc)
  have t3:Txo (n - a) (mk ((Ls z).drop a)):=txo_mk (by rw [List.length_drop];omega) fun c hc=>hz.2 c (List.mem_of_mem_drop hc)
  have tk:Txo 1 (⟨#[k]⟩:Str):=txo_mk (l:=[k]) (Nat.le_refl _) fun c hc=>by
    have:c=k:=by simpa using hc
    rw [this];exact hk2
  refine ⟨_,rfl,rfl,_,rfl,?_⟩
  refine ite2 (fun _=>?_) (fun _=>?_)
  · refine ⟨_,rfl,_,rfl,_,rfl,z,rfl,by omega,?_⟩
    rw [e1]
    refine ⟨_,rfl,_,rfl,_,_,rfl,rfl,_,rfl,z,rfl,by omega,?_⟩
    rw [e2]
    exact ⟨_,_,rfl,rfl,by have:=t1.1;have:=t2.1;omega,q _ ((t1.cat t2).mono (by omega))⟩
  · refine ⟨_,rfl,rfl,_,rfl,?_⟩
    refine ite2 (fun _=>?_) (fun _=>?_)
    · refine ⟨_,rfl,_,rfl,_,rfl,z,rfl,by omega,?_⟩
      rw [e1]
      refine ⟨_,rfl,_,_,rfl,rfl,by have:=t1.1;have:=tk.1;omega,_,rfl,_,rfl,_,rfl,z,rfl,by omega,?_⟩
      rw [e3]
      exact ⟨_,_,rfl,rfl,by have:=(t1.cat tk).1;have:=t3.1;omega,q _ (((t1.cat tk).cat t3).mono (by omega))⟩
    · refine ⟨_,rfl,_,rfl,_,rfl,z,rfl,by omega,?_⟩
      rw [e1]
      refine ⟨_,rfl,_,_,rfl,rfl,by have:=t1.1;have:=tk.1;omega,_,rfl,_,rfl,_,_,rfl,rfl,_,rfl,z,rfl,by omega,?_⟩
      rw [e2]
      exact ⟨_,_,rfl,rfl,by have:=(t1.cat tk).1;have:=t2.1;omega,q _ (((t1.cat tk).cat t2).mono (by omega))⟩
noncomputable def spMkT:Sp:=fun vs H Q _=>∃ c:Int,vs=[.int c]∧∀ z' H',Same H H'→Txo 318 z'→Q (.str z') H'
theorem scLo:FnScope ["cell"] ["cell"] (defScope (top 27)):=⟨rfl,rfl,rfl,by decide +kernel,rfl,by decide +kernel,by decide +kernel⟩
theorem two (i:Int) (h:0≤i∧i < 2):i=0∨i=1:=by omega
theorem ok_lo (F:At K mg "_law_long" (top 27) ["cell"] f fd):FnOk P w K mg base CX0 1 f fd ["cell"] spMkT:=by
  refine F.fn.ok scLo (fun vs H Q E h=>?_) (fun cdv A outer s H vs Q E hr h=>?_)
  · obtain ⟨c,rfl,_⟩:=h
    rfl
  obtain ⟨c,rfl,q⟩:=h
  refine ⟨_,pss_cons (ps_if (pt_cmpR op_eq (pe_op op_mod (pv 0) pe_int) pe_int (nomark _)) (pss_one (ps_ret (pe_op op_mulS pe_str (pe_op op_add pe_int (pe_op op_mod (pe_op op_fdiv (pv 0) pe_int) pe_int))))) pss_nil)
    (pss_one (ps_ret (pe_op op_add_str (pe_op op_add_str pe_str (pe_op op_mulS pe_str (pe_op op_add pe_int (pe_op op_mod (pe_op op_fdiv (pv 0) pe_int) pe_int)))) pe_str))),?_⟩
  have m1:=mod_lt (i:=c / 2) (j:=2) (by decide)
  refine ⟨_,rfl,_,_,rfl,rfl,(by show (0:Int) < 2;decide),rfl,_,rfl,?_⟩
  refine ite2 (fun _=>?_) (fun _=>?_)
  · refine ⟨_,rfl,_,_,rfl,rfl,⟨by decide,by decide⟩,_,_,rfl,rfl,(by show (0:Int) < 2;decide),_,_,rfl,rfl,_,_,rfl,rfl,?_⟩
    rcases two _ m1 with e | e
    · rw [e];exact ⟨by decide +kernel,q _ _ (Same.refl _) (by decide +kernel)⟩
    · rw [e];exact ⟨by decide +kernel,q _ _ (Same.refl _) (by decide +kernel)⟩
  · refine ⟨_,rfl,_,_,rfl,rfl,⟨by decide,by decide⟩,_,_,rfl,rfl,(by show (0:Int) < 2;decide),_,_,rfl,rfl,_,_,rfl,rfl,?_⟩
    rcases two _ m1 with e | e
    · rw [e];exact ⟨by decide +kernel,_,_,rfl,rfl,by decide +kernel,_,_,rfl,rfl,by decide +kernel,q _ _ (Same.refl _) (by decide +kernel)⟩
    · rw [e];exact ⟨by decide +kernel,_,_,rfl,rfl,by decide +kernel,_,_,rfl,rfl,by decide +kernel,q _ _ (Same.refl _) (by decide +kernel)⟩
theorem scDe:FnScope ["cell","text","k"] ["cell"] (defScope (top 28)):=⟨rfl,rfl,rfl,by decide +kernel,rfl,by decide +kernel,by decide +kernel⟩
theorem ok_de (T:Blt mg) (F:At K mg "_law_deep" (top 28) ["cell"] f fd) (FD:At K mg "_law_draw" (top 18) ["cell","k","bound"] fdr drd):FnOk P w K mg base CX0 2 f fd ["cell"] spMkT:=by
  have GD:FnOk P w K mg base CX0 1 fdr drd ["cell","k","bound"] spDraw:=ok_draw FD
  refine F.fn.ok scDe (fun vs H Q E h=>?_) (fun cdv A outer s H vs Q E hr h=>?_)
  · obtain ⟨c,rfl,_⟩:=h
    rfl
  obtain ⟨c,rfl,q⟩:=h
  refine ⟨_,pss_cons (ps_set (i:=1) scDe.nd rfl (Or.inl rfl) pe_str)
    (pss_cons (ps_for PassesOwn.never rfl (pi_range1 rfl T.rng (pa_cons (pe_op op_add pe_int (pe_op op_mod (pv 0) pe_int)) pa_nil)) (pg_name (i:=2) scDe.nd rfl (Or.inl rfl))
      (pss_one (ps_set (i:=1) scDe.nd rfl (Or.inl rfl) (pe_ix ix_list (pe_lst (pa_cons (pe_op op_add_str (pe_op op_add_str pe_str (pv 1)) pe_str) (pa_cons (pe_op op_add_str (pe_op op_add_str pe_str (pv 1)) pe_str) pa_nil))) (pe_call GD hr rfl FD.m FD.k FD.b .nil pass0 (pa_cons (pe_op op_fdiv (pv 0) pe_int) (pa_cons (pv 2) (pa_cons pe_int pa_nil)))) (fun _ _=>rfl)))))
    (pss_one (ps_ret (pe_op op_add_str pe_str (pv 1))))),?_⟩
  have hsz:=sizeLine_eq
  have h62:=p62
  have m1:=mod_lt (i:=c) (j:=2) (by decide)
  refine ⟨_,rfl,_,_,rfl,rfl,(by show (0:Int) < 2;decide),_,_,rfl,rfl,7 + c % 2,rfl,by omega,by omega,?_⟩
  refine for_range (lo:=0) (n:=(7 + c % 2).toNat) (fun i σ Hx=>∃ y2 z,σ=[some (.int c),some (.str z),y2]∧Same H Hx∧Txo (1 + 4 * i) z) ⟨none,_,rfl,Same.refl _,by decide +kernel⟩ ?_ ?_
  · rintro i σ Hx hi ⟨y2,z,rfl,sx,hz⟩
    have hl:=hz.1
    have a1:Txo 1 (Str.ofString "["):=by decide +kernel
    have a2:Txo 3 (Str.ofString ",a]"):=by decide +kernel
    have b1:Txo 3 (Str.ofString "[b,"):=by decide +kernel
    have b2:Txo 1 (Str.ofString "]"):=by decide +kernel
    have t1:Txo (1 + 4 * (i + 1)) (Str.ofString "["++z++Str.ofString ",a]"):=((a1.cat hz).cat a2).mono (by omega)
    have t2:Txo (1 + 4 * (i + 1)) (Str.ofString "[b,"++z++Str.ofString "]"):=((b1.cat hz).cat b2).mono (by omega)
    refine ⟨_,rfl,_,_,rfl,rfl,by have:=a1.1;omega,_,_,rfl,rfl,by have:=(a1.cat hz).1;have:=a2.1;omega,_,rfl,_,_,rfl,rfl,by have:=b1.1;omega,_,_,rfl,rfl,by have:=(b1.cat hz).1;have:=b2.1;omega,(by show 2≤sizeLine;decide),fun l nl=>?_⟩
    refine ⟨_,rfl,_,_,rfl,rfl,⟨by decide,by decide⟩,_,rfl,_,_,2,rfl,by decide,fun j j0 j2=>?_⟩
    rcases two j ⟨j0,j2⟩ with e | e
    · subst e
      exact ⟨l,_,0,_,rfl,rfl,.inl (.inl upd_same),atI_nat (j:=0) rfl,_,_,rfl,sx.trans (new_same nl _),t1⟩
    · subst e
      exact ⟨l,_,1,_,rfl,rfl,.inl (.inl upd_same),atI_nat (j:=1) rfl,_,_,rfl,sx.trans (new_same nl _),t2⟩
  · rintro σ Hx ⟨y2,z,rfl,sx,hz⟩
    have c1:Txo 2 (Str.ofString "+2"):=by decide +kernel
    have hl:=hz.1
    exact ⟨_,rfl,_,_,rfl,rfl,by have:=c1.1;omega,q _ _ sx ((c1.cat hz).mono (by omega))⟩
end
end K01
end
section
namespace K01
open PySem PySem.Spec PyProof.Rows Tim L2 Wm
structure Defs (K:PySem.W.Frag) (mg:Str→Option Value):Prop where
  t:Blt mg
  d_weight:∃ f fd,At K mg "weight" (top 3) ["bracket"] f fd
  d_read:∃ f fd,At K mg "read" (top 12) ["text"] f fd
  d__law_stir:∃ f fd,At K mg "_law_stir" (top 15) ["cell"] f fd
  d__law_cell:∃ f fd,At K mg "_law_cell" (top 16) ["script","k"] f fd
  d__law_whole:∃ f fd,At K mg "_law_whole" (top 17) ["found"] f fd
  d__law_draw:∃ f fd,At K mg "_law_draw" (top 18) ["cell","k","bound"] f fd
  d__law_raw:∃ f fd,At K mg "_law_raw" (top 19) ["script","k"] f fd
  d__law_by_digits:∃ f fd,At K mg "_law_by_digits" (top 20) ["cell","many"] f fd
  d__law_mixed:∃ f fd,At K mg "_law_mixed" (top 21) ["cell","many","k"] f fd
  d__law_bracket:∃ f fd,At K mg "_law_bracket" (top 22) ["script","at","most"] f fd
  d__law_sum:∃ f fd,At K mg "_law_sum" (top 23) ["script","at","tuples","most"] f fd
  d__law_bracket_text:∃ f fd,At K mg "_law_bracket_text" (top 24) ["bracket"] f fd
  d__law_text:∃ f fd,At K mg "_law_text" (top 25) ["total"] f fd
  d__law_changed:∃ f fd,At K mg "_law_changed" (top 26) ["text","cell"] f fd
  d__law_long:∃ f fd,At K mg "_law_long" (top 27) ["cell"] f fd
  d__law_deep:∃ f fd,At K mg "_law_deep" (top 28) ["cell"] f fd
  d__law_odd:∃ f fd,At K mg "_law_odd" (top 29) ["cell"] f fd
  d__law_parse:∃ f fd,At K mg "_law_parse" (top 30) ["text"] f fd
  d__law_due:∃ f fd,At K mg "_law_due" (top 31) ["text"] f fd
  d__law_told:∃ f fd,At K mg "_law_told" (top 32) ["text"] f fd
  ex:∃ C_TwistError C_NotRead C_NoSum:Addr,ExcAt K mg "TwistError" C_TwistError∧ExcAt K mg "NotRead" C_NotRead∧ExcAt K mg "NoSum" C_NoSum∧PySem.W.mroIn K C_NotRead (.ref C_TwistError)=some true∧PySem.W.mroIn K C_NoSum (.ref C_TwistError)=some true∧ExcIs K C_NotRead (.ref C_NotRead) true∧ExcIs K C_NotRead (.type "ValueError") true∧ExcIs K C_NotRead (.ref C_NoSum) false
  c_GREATEST_WEIGHT:∃ t,mg "GREATEST_WEIGHT" = some (.int 8 t)
  c_MOST_FIGURES:∃ t,mg "MOST_FIGURES" = some (.int 30 t)
  c_MOST_TUPLES:∃ t,mg "MOST_TUPLES" = some (.int 12 t)
  c_FIGURES:∃ t,mg "FIGURES" = some (.str (Str.ofString "0123456789") t)
  c_LETTERS:∃ a,mg "LETTERS" = some (.ref a)∧TupK K a [Str.ofString "a",Str.ofString "b",Str.ofString "c"]
  rd:∃ (C:Addr) (f___init__:Addr) (fd___init__:FuncData) (f_at_end:Addr) (fd_at_end:FuncData) (f_sign_here:Addr) (fd_sign_here:FuncData) (f_take:Addr) (fd_take:FuncData) (f_take_wanted:Addr) (fd_take_wanted:FuncData) (f_take_tuple:Addr) (fd_take_tuple:FuncData) (f_take_count:Addr) (fd_take_count:FuncData) (f_take_figures:Addr) (fd_take_figures:FuncData) (f_take_bracket:Addr) (fd_take_bracket:FuncData),Rdr K C∧mg "Reader" = some (.ref C)∧Mk K C f___init__∧Fun K "__init__" "Reader.__init__" (rm 0) f___init__ fd___init__∧Binds K fd___init__ ["self","text"] []∧MAt K C "at_end" "Reader.at_end" (rm 1) ["self"] f_at_end fd_at_end∧MAt K C "sign_here" "Reader.sign_here" (rm 2) ["self"] f_sign_here fd_sign_here∧MAt K C "take" "Reader.take" (rm 3) ["self"] f_take fd_take∧MAt K C "take_wanted" "Reader.take_wanted" (rm 4) ["self","wanted"] f_take_wanted fd_take_wanted∧MAt K C "take_tuple" "Reader.take_tuple" (rm 5) ["self"] f_take_tuple fd_take_tuple∧MAt K C "take_count" "Reader.take_count" (rm 6) ["self"] f_take_count fd_take_count∧MAt K C "take_figures" "Reader.take_figures" (rm 7) ["self"] f_take_figures fd_take_figures∧MAt K C "take_bracket" "Reader.take_bracket" (rm 8) ["self","depth"] f_take_bracket fd_take_bracket
theorem at_mk {K:PySem.W.Frag} {mg:Str→Option Value} {h:Heap} {x:Str} {st:Stmt} {ps:List Str} {f:Addr} {oc:Value} {od an:Option Addr} {osl:Array (Option Value)} {kV doc pm cdv ct:Value} (X:K.In h) (G:h.Ns mainGlobals mg)
    (a:PySem.W.nsIn K mainGlobals x=some (some (.ref f))) (l:K.lookup f=some ⟨oc,od,.func (PySem.W.fnOf x x (defArgs st) (defBody st) (defScope st) .none kV doc pm an cdv ct),osl⟩) (c:PySem.W.codeIn K cdv x=true) (k:PySem.W.keepIn K (.ref f)=true)
    (hb:∀ (kV doc pm:Value) (an:Option Addr) (cdv ct:Value) (us:List Value),us.length=ps.length→bindArgs (PySem.W.fnOf x x (defArgs st) (defBody st) (defScope st) .none kV doc pm an cdv ct) ⟨us,[]⟩=pure (ps.zip us)) :
    At K mg x st ps f (PySem.W.fnOf x x (defArgs st) (defBody st) (defScope st) .none kV doc pm an cdv ct):=⟨fun_mk l c k,(fun_mk l c k).binds hb,PySem.W.mg_of X G a⟩
end K01
end
section
namespace K01
open PySem PySem.Spec PyProof.Rows Tim L2 Wm
noncomputable def spLaw (K:PySem.W.Frag):Sp:=fun vs H Q _=>∃ (a:Addr) (ns:List Int),vs=[.ref a]∧SqL K H a (ns.map V.int)∧ns.length≤63∧∀ H',Q (.bl true) H'
theorem eqv_tot {K:PySem.W.Frag} {H:Hp} {t1 t2:Addr} {ps1 ps2:List V} {T:List (Int×Br Str)} (h1:TotV K H t1 ps1 T) (h2:TotV K H t2 ps2 T) (hw:∀ x∈T,x.2.wt≤8):Items K H 9 ps1 ps2 (fun _=>true):=⟨fun j u v e1 e2=>by
  obtain ⟨x,p,bv,ex,rfl,hp,hb⟩:=h1.at e1
  obtain ⟨y,p',bv',ey,rfl,hp',hb'⟩:=h2.at e2
  rw [ex] at ey
  cases ey
  have w8:=hw x (List.mem_of_getElem? ex)
  by_cases z:p=p'
  · subst z;exact EqV.same _ _
  · exact EqV.tup (K:=K) (H:=H) (n:=8) (e:=fun _=>true) z (xs:=[.int x.1,bv]) (ys:=[.int x.1,bv']) (.inl (.inl hp)) (.inl (.inl hp')) (fun j u v e1 e2=>by
      rcases j with _ | _ | j
      · cases e1;cases e2;exact eqv_self (.inl ⟨_,rfl⟩)
      · cases e1;cases e2;exact eqv_mono' (eqv_br' hb hb') _ (by omega)
      · cases e1)⟩
theorem bt_ve:bootBuiltins "ValueError" = some (.type "ValueError"):=by decide +kernel
noncomputable def ODD:List Str:=[Str.ofString "",Str.ofString "0",Str.ofString "00",Str.ofString "a",Str.ofString "+a",Str.ofString "1a",Str.ofString "+0a",Str.ofString "-0a",Str.ofString "+01a",Str.ofString "+1",Str.ofString "+1[a]",Str.ofString "+1[a,b",Str.ofString "+1[a,b]]",Str.ofString "+1(a,b)",Str.ofString "+1[,a]",Str.ofString "+1[a,b,c]"]
theorem odd_ok:∀ z∈ODD,Txo 318 z:=by decide +kernel
theorem sxt_lenk {k:Nat} {T:List (Int×Br Str)} (h:∀ x∈T,(tt x).length≤k):(sxt T).length≤T.length * k:=by
  induction T with
  | nil=>exact Nat.le_trans (Nat.le_refl _) (Nat.zero_le _)
  | cons x T ih =>
    have h1:=h x List.mem_cons_self
    have h2:=ih fun y hy=>h y (List.mem_cons_of_mem _ hy)
    rw [sxt_cons,List.length_append,List.length_cons,Nat.add_mul]
    omega
section
variable {P:Program} {w:World} {K:PySem.W.Frag} {mg:Str→Option Value} {base:Heap} {f fr:Addr} {fd rd:FuncData}
theorem scOd:FnScope ["cell","some"] ["cell"] (defScope (top 29)):=⟨rfl,rfl,rfl,by decide +kernel,rfl,by decide +kernel,by decide +kernel⟩
theorem ok_od (F:At K mg "_law_odd" (top 29) ["cell"] f fd):FnOk P w K mg base CX0 1 f fd ["cell"] spMkT:=by
  refine F.fn.ok scOd (fun vs H Q E h=>?_) (fun cdv A outer s H vs Q E hr h=>?_)
  · obtain ⟨c,rfl,_⟩:=h
    rfl
  obtain ⟨c,rfl,q⟩:=h
  refine ⟨_,@PSsW.out _ _ _ (w_cons (w_set (i:=1) scOd.nd rfl (Or.inl rfl) (w_lst (wa_cons ⟨pe_str⟩ (wa_cons ⟨pe_str⟩ (wa_cons ⟨pe_str⟩ (wa_cons ⟨pe_str⟩ (wa_cons ⟨pe_str⟩ (wa_cons ⟨pe_str⟩ (wa_cons ⟨pe_str⟩ (wa_cons ⟨pe_str⟩ (wa_cons ⟨pe_str⟩ (wa_cons ⟨pe_str⟩ (wa_cons ⟨pe_str⟩ (wa_cons ⟨pe_str⟩ (wa_cons ⟨pe_str⟩ (wa_cons ⟨pe_str⟩ wa_nil))))))))))))))))
    (w_one ⟨ps_ret (pe_ix ix_list (pe_op op_cat (pv 1) (pe_lst (pa_cons pe_str (pa_cons pe_str pa_nil)))) (pe_op op_mod (pv 0) pe_int) (fun _ _=>rfl))⟩)),?_⟩
  have hsz:=sizeLine_eq
  have m1:=mod_lt (i:=c) (j:=16) (by decide)
  refine ⟨(by show 14≤sizeLine;decide),fun l nl=>⟨_,rfl,(by show 2≤sizeLine;decide),fun l2 nl2=>?_⟩⟩
  have s1:=new_same nl (.lst (ODD.take 14 |>.map V.str))
  refine ⟨l,l2,_,_,rfl,rfl,new_same nl2 _ _ _ upd_same,upd_same,(by show 14 + 2≤sizeLine;decide),fun l3 nl3=>?_⟩
  obtain ⟨j,hj⟩:∃ j:Nat,(j:Int)=c % 16:=⟨(c % 16).toNat,by omega⟩
  have hj16:j < ODD.length:=by show j < 16;omega
  refine ⟨_,rfl,_,_,rfl,rfl,(by show (0:Int) < 16;decide),l3,ODD.map V.str,(j:Int),V.str ODD[j],rfl,by rw [hj],.inl (.inl upd_same),atI_nat (by rw [List.getElem?_map,List.getElem?_eq_getElem hj16];rfl),?_⟩
  refine q _ _ (fun b o e=>?_) (odd_ok _ (List.getElem_mem hj16))
  exact new_same nl3 _ _ _ (new_same nl2 _ _ _ (new_same nl _ _ _ e))
noncomputable def spTo (K:PySem.W.Frag):Sp:=fun vs H Q E=>∃ z:Str,vs=[.str z]∧z.length≤100000∧(∀ c∈Ls z,c < 128)∧(∀ T,Wr (Ls z) T→∀ t ps H',H t=none→Same H H'→H' t=some (.lst ps)→TotV K H' t ps T→Q (.ref t) H') ∧
  ((¬ ∃ T,Wr (Ls z) T)→∀ p H',Same H H'→H' p=some (.tup [.bl true,.bl true,.bl false])→Q (.ref p) H')
theorem scTo:FnScope ["text","e"] ["text"] (defScope (top 32)):=⟨rfl,rfl,rfl,by decide +kernel,rfl,by decide +kernel,by decide +kernel⟩
theorem ok_to {Tw N M:Addr} (T:Blt mg) (F:At K mg "_law_told" (top 32) ["text"] f fd) (FC:At K mg "read" (top 12) ["text"] fr rd) (GC:FnOk P w K mg base (CXE P w) 14 fr rd ["text"] (spReE K N))
    (XT:ExcAt K mg "TwistError" Tw) (XN:ExcAt K mg "NotRead" N) (XM:ExcAt K mg "NoSum" M) (hm:PySem.W.mroIn K N (.ref Tw)=some true) (i1:ExcIs K N (.ref N) true) (i2:ExcIs K N (.type "ValueError") true) (i3:ExcIs K N (.ref M) false) :
    FnOk P w K mg base CX0 15 f fd ["text"] (spTo K):=by
  refine F.fn.ok scTo (fun vs H Q E h=>?_) (fun cdv A outer s H vs Q E hr h=>?_)
  · obtain ⟨z,rfl,_⟩:=h
    rfl
  obtain ⟨z,rfl,hz,ha,q1,q2⟩:=h
  refine ⟨_,pss_one (ps_try (X:=(cxOf CX0 P w K mg base ["text","e"] "_law_told" (defScope (top 32)) f cdv A outer s H E).nox) (i:=1) (n:="e") (x:="TwistError") (Tw:=Tw)
    (tb:=fun Eσ=>tRet (tCallS (spReE K N) Eσ (tCons (tVar 0) tNil)))
    (ts:=fun a C'=>fun D σ H=>C'=N∧tRet (tTup (tCons (fun σ H Q=>σ[1]? = some (some (.ref a))∧Q (.bl true) H) (tCons (fun σ H Q=>σ[1]? = some (some (.ref a))∧Q (.bl true) H) (tCons (fun σ H Q=>σ[1]? = some (some (.ref a))∧Q (.bl false) H) tNil)))) D σ H)
    rfl rfl scTo.nd rfl rfl rfl XT.m XT.f (fun pn xe Eσ hp=>pss_one (ps_ret (pe_callS GC hr rfl FC.m FC.k FC.b hp (pa_cons (pv 0) pa_nil))))
    (fun pn a C' oe vs hin hc hd=>pss_when fun e=>by
      subst e
      exact pss_one (ps_ret (pe_tup (pa_cons (pe_isiC hin hc hd XN.f i1 rfl T.isi (pv 1) rfl XN.m) (pa_cons (pe_isiT hin hc hd XN.f i2 rfl T.isi (pv 1) rfl T.ve bt_ve) (pa_cons (pe_isiC hin hc hd XN.f i3 rfl T.isi (pv 1) rfl XM.m) pa_nil)))))) ),?_⟩
  refine ⟨_,rfl,z,rfl,hz,ha,q1,fun hn H1 s1=>⟨N,rfl,XN.f,hm,fun a na=>⟨rfl,?_⟩⟩⟩
  refine ⟨rfl,rfl,rfl,(by show 3≤sizeLine;decide),fun p np=>?_⟩
  exact q2 hn p _ (s1.trans (new_same np _)) upd_same
theorem scLaw:FnScope ["script","text","mode","due","told"] ["script"] (defScope (top 33)):=⟨rfl,rfl,rfl,by decide +kernel,rfl,by decide +kernel,by decide +kernel⟩
noncomputable def cLaw:Scope:={ kind:=.function,names:=[(Str.ofString ".0",.local),(Str.ofString "one",.local),(Str.ofString "isinstance",.globalImplicit),(Str.ofString "tuple",.globalImplicit),(Str.ofString "_law_whole",.globalImplicit)],isGenerator:=false,isCoroutine:=false,more:=[] }
theorem ok_law (Z:Defs K mg) (F:At K mg "law" (top 33) ["script"] f fd):FnOk P w K mg base CX0 170 f fd ["script"] (spLaw K):=by
  have T:=Z.t
  obtain ⟨f_weight,fd_weight,F_weight⟩:=Z.d_weight
  obtain ⟨f_read,fd_read,F_read⟩:=Z.d_read
  obtain ⟨f__law_stir,fd__law_stir,F__law_stir⟩:=Z.d__law_stir
  obtain ⟨f__law_cell,fd__law_cell,F__law_cell⟩:=Z.d__law_cell
  obtain ⟨f__law_whole,fd__law_whole,F__law_whole⟩:=Z.d__law_whole
  obtain ⟨f__law_draw,fd__law_draw,F__law_draw⟩:=Z.d__law_draw
  obtain ⟨f__law_raw,fd__law_raw,F__law_raw⟩:=Z.d__law_raw
  obtain ⟨f__law_by_digits,fd__law_by_digits,F__law_by_digits⟩:=Z.d__law_by_digits
  obtain ⟨f__law_mixed,fd__law_mixed,F__law_mixed⟩:=Z.d__law_mixed
  obtain ⟨f__law_bracket,fd__law_bracket,F__law_bracket⟩:=Z.d__law_bracket
  obtain ⟨f__law_sum,fd__law_sum,F__law_sum⟩:=Z.d__law_sum
  obtain ⟨f__law_bracket_text,fd__law_bracket_text,F__law_bracket_text⟩:=Z.d__law_bracket_text
  obtain ⟨f__law_text,fd__law_text,F__law_text⟩:=Z.d__law_text
  obtain ⟨f__law_changed,fd__law_changed,F__law_changed⟩:=Z.d__law_changed
  obtain ⟨f__law_long,fd__law_long,F__law_long⟩:=Z.d__law_long
  obtain ⟨f__law_deep,fd__law_deep,F__law_deep⟩:=Z.d__law_deep
  obtain ⟨f__law_odd,fd__law_odd,F__law_odd⟩:=Z.d__law_odd
  obtain ⟨f__law_parse,fd__law_parse,F__law_parse⟩:=Z.d__law_parse
  obtain ⟨f__law_due,fd__law_due,F__law_due⟩:=Z.d__law_due
  obtain ⟨f__law_told,fd__law_told,F__law_told⟩:=Z.d__law_told
  obtain ⟨C_TwistError,C_NotRead,C_NoSum,X_TwistError,X_NotRead,X_NoSum,M_NotRead,M_NoSum,I_NotRead_NotRead,I_NotRead_ValueError,I_NotRead_NoSum⟩:=Z.ex
  obtain ⟨t_GREATEST_WEIGHT,c_GREATEST_WEIGHT⟩:=Z.c_GREATEST_WEIGHT
  obtain ⟨t_MOST_FIGURES,c_MOST_FIGURES⟩:=Z.c_MOST_FIGURES
  obtain ⟨t_MOST_TUPLES,c_MOST_TUPLES⟩:=Z.c_MOST_TUPLES
  obtain ⟨t_FIGURES,c_FIGURES⟩:=Z.c_FIGURES
  obtain ⟨a_LETTERS,c_LETTERS,u_LETTERS⟩:=Z.c_LETTERS
  obtain ⟨C_R,f_R___init__,fd_R___init__,f_R_at_end,fd_R_at_end,f_R_sign_here,fd_R_sign_here,f_R_take,fd_R_take,f_R_take_wanted,fd_R_take_wanted,f_R_take_tuple,fd_R_take_tuple,f_R_take_count,fd_R_take_count,f_R_take_figures,fd_R_take_figures,f_R_take_bracket,fd_R_take_bracket,R,m_R,M_R,F_R___init__,b_R,F_R_at_end,F_R_sign_here,F_R_take,F_R_take_wanted,F_R_take_tuple,F_R_take_count,F_R_take_figures,F_R_take_bracket⟩:=Z.rd
  have GB:FnOk P w K mg base CX0 14 f__law_bracket fd__law_bracket ["script","at","most"] (spBk K):=ok_bk T F__law_bracket F__law_raw F__law_stir F__law_by_digits F__law_mixed F__law_draw
  have GS:FnOk P w K mg base CX0 15 f__law_sum fd__law_sum ["script","at","tuples","most"] (spSm K):=ok_sm T F__law_sum F__law_cell F__law_stir F__law_bracket GB
  have GL:FnOk P w K mg base CX0 13 f__law_text fd__law_text ["total"] (spWr K):=ok_lt T F__law_text F__law_bracket_text
  have GC:FnOk P w K mg base CX0 2 f__law_cell fd__law_cell ["script","k"] (spCell K):=ok_cell T F__law_cell F__law_stir
  have GWh:FnOk P w K mg base CX0 1 f__law_whole fd__law_whole ["found"] spWh:=ok_wh T F__law_whole
  have GI:FnOk P w K mg base CX0 1 f_R___init__ fd_R___init__ ["self","text"] (spIn C_R):=ok_in R F_R___init__
  have GE:FnOk P w K mg base CX0 1 f_R_at_end fd_R_at_end ["self"] (spEn C_R):=ok_en T R F_R_at_end
  have GH:FnOk P w K mg base (CXE P w) 2 f_R_sign_here fd_R_sign_here ["self"] (spHeE C_R C_NotRead):=ok_heE T R X_NotRead F_R_sign_here F_R_at_end
  have GT:FnOk P w K mg base (CXE P w) 3 f_R_take fd_R_take ["self"] (spTkE C_R C_NotRead):=ok_tkE R F_R_take F_R_sign_here GH
  have GWa:FnOk P w K mg base (CXE P w) 4 f_R_take_wanted fd_R_take_wanted ["self","wanted"] (spWaE C_R C_NotRead):=ok_waE R X_NotRead F_R_take_wanted F_R_take GT
  have GFg:FnOk P w K mg base (CXE P w) 4 f_R_take_figures fd_R_take_figures ["self"] (spFgE C_R C_NotRead):=ok_fgE T R X_NotRead F_R_take_figures F_R_sign_here F_R_take GH GT c_FIGURES c_MOST_FIGURES
  have GCo:FnOk P w K mg base (CXE P w) 5 f_R_take_count fd_R_take_count ["self"] (spCoE C_R C_NotRead):=ok_coE T R X_NotRead F_R_take_count F_R_take F_R_take_figures GT GFg
  have GTb:FnOk P w K mg base (CXE P w) 12 f_R_take_bracket fd_R_take_bracket ["self","depth"] (spTbE C_R C_NotRead 8):=ok_tbE R X_NotRead F_R_take_bracket F_R_take F_R_take_wanted GT GWa c_LETTERS u_LETTERS c_GREATEST_WEIGHT 8
  have GTt:FnOk P w K mg base (CXE P w) 13 f_R_take_tuple fd_R_take_tuple ["self"] (spTtE C_R C_NotRead):=ok_ttE T R X_NotRead F_R_take_tuple F_R_take_count F_R_take_bracket F_weight GCo GTb c_GREATEST_WEIGHT
  have GRe:FnOk P w K mg base (CXE P w) 14 f_read fd_read ["text"] (spReE K C_NotRead):=ok_reE T R X_NotRead m_R F_read M_R b_R GI F_R_at_end GE F_R_take_tuple GTt c_MOST_TUPLES
  have GTo:FnOk P w K mg base CX0 15 f__law_told fd__law_told ["text"] (spTo K):=ok_to T F__law_told F_read GRe X_TwistError X_NotRead X_NoSum M_NotRead I_NotRead_NotRead I_NotRead_ValueError I_NotRead_NoSum
  have GDu:FnOk P w K mg base CX0 161 f__law_due fd__law_due ["text"] (spDu K):=ok_du T F__law_due F__law_parse
  have GC1:FnOk P w K mg base CX0 1 f__law_changed fd__law_changed ["text","cell"] (spCh 312):=ok_ch T F__law_changed 312 (by decide)
  have GC2:FnOk P w K mg base CX0 1 f__law_changed fd__law_changed ["text","cell"] (spCh 313):=ok_ch T F__law_changed 313 (by decide)
  have GLo:FnOk P w K mg base CX0 1 f__law_long fd__law_long ["cell"] spMkT:=ok_lo F__law_long
  have GDe:FnOk P w K mg base CX0 2 f__law_deep fd__law_deep ["cell"] spMkT:=ok_de T F__law_deep F__law_draw
  have GOd:FnOk P w K mg base CX0 1 f__law_odd fd__law_odd ["cell"] spMkT:=ok_od F__law_odd
  refine F.fn.ok scLaw (fun vs H Q E h=>?_) (fun cdv A outer s H vs Q E hr h=>?_)
  · obtain ⟨a,ns,rfl,_⟩:=h
    rfl
  obtain ⟨a,ns,rfl,hS,h63,q⟩:=h
  have hr161:Room 161 _:=hr.mono (by omega)
  have hr15:Room 15 _:=hr.mono (by omega)
  have hr13:Room 13 _:=hr.mono (by omega)
  have hr2:Room 2 _:=hr.mono (by omega)
  have hr1:Room 1 _:=hr.mono (by omega)
  have O:CompOk (cxOf CX0 P w K mg base ["script","text","mode","due","told"] "law" (defScope (top 33)) f cdv A outer s H E).nox ["one"] cLaw []:={
    clos:=rfl
    nocell:=by decide +kernel
    kind:=rfl
    names:=by decide +kernel
    sub:=fun x c e=>by cases e
    has:=fun x h=>by
      have e:=lk_has (l:=[(Str.ofString ".0",.local),(Str.ofString "one",.local),(Str.ofString "isinstance",.globalImplicit),(Str.ofString "tuple",.globalImplicit),(Str.ofString "_law_whole",.globalImplicit)]) (ys:=[]) h (by decide +kernel)
      cases e }
  have nd1:List.Nodup [Str.ofString "one"]:=by decide +kernel
  refine ⟨_,@PSsW.out _ _ _ (w_cons ⟨ps_set (i:=1) scLaw.nd rfl (Or.inl rfl) (pe_call GL hr13 rfl F__law_text.m F__law_text.k F__law_text.b .nil pass0 (pa_cons (pe_call GS hr15 rfl F__law_sum.m F__law_sum.k F__law_sum.b .nil pass0 (pa_cons (pv 0) (pa_cons pe_int (pa_cons pe_int (pa_cons pe_int pa_nil))))) pa_nil))⟩
    (w_cons ⟨ps_set (i:=2) scLaw.nd rfl (Or.inl rfl) (pe_op op_mod (pe_call GC hr2 rfl F__law_cell.m F__law_cell.k F__law_cell.b .nil pass0 (pa_cons (pv 0) (pa_cons pe_int pa_nil))) pe_int)⟩
    (w_cons ⟨ps_if (pt_cmpR op_in_seq (pv 2) (@PEW.h _ _ _ (w_tup (wa_cons ⟨pe_int⟩ (wa_cons ⟨pe_int⟩ (wa_cons ⟨pe_int⟩ (wa_cons ⟨pe_int⟩ (wa_cons ⟨pe_int⟩ wa_nil))))))) (by with_unfolding_all rfl)) (pss_one (ps_set (i:=1) scLaw.nd rfl (Or.inl rfl) (pe_call GC1 hr1 rfl F__law_changed.m F__law_changed.k F__law_changed.b .nil pass0 (pa_cons (pv 1) (pa_cons (pe_call GC hr2 rfl F__law_cell.m F__law_cell.k F__law_cell.b .nil pass0 (pa_cons (pv 0) (pa_cons pe_int pa_nil))) pa_nil))))) pss_nil⟩
    (w_cons ⟨ps_if (pt_cmpR op_in_seq (pv 2) (@PEW.h _ _ _ (w_tup (wa_cons ⟨pe_int⟩ (wa_cons ⟨pe_int⟩ wa_nil)))) (by with_unfolding_all rfl)) (pss_one (ps_set (i:=1) scLaw.nd rfl (Or.inl rfl) (pe_call GC2 hr1 rfl F__law_changed.m F__law_changed.k F__law_changed.b .nil pass0 (pa_cons (pv 1) (pa_cons (pe_call GC hr2 rfl F__law_cell.m F__law_cell.k F__law_cell.b .nil pass0 (pa_cons (pv 0) (pa_cons pe_int pa_nil))) pa_nil))))) pss_nil⟩
    (w_cons ⟨ps_if (pt_cmpR op_eq (pv 2) pe_int (nomark _)) (pss_one (ps_set (i:=1) scLaw.nd rfl (Or.inl rfl) (pe_call GLo hr1 rfl F__law_long.m F__law_long.k F__law_long.b .nil pass0 (pa_cons (pe_call GC hr2 rfl F__law_cell.m F__law_cell.k F__law_cell.b .nil pass0 (pa_cons (pv 0) (pa_cons pe_int pa_nil))) pa_nil)))) pss_nil⟩
    (w_cons ⟨ps_if (pt_cmpR op_eq (pv 2) pe_int (nomark _)) (pss_one (ps_set (i:=1) scLaw.nd rfl (Or.inl rfl) (pe_call GDe hr2 rfl F__law_deep.m F__law_deep.k F__law_deep.b .nil pass0 (pa_cons (pe_call GC hr2 rfl F__law_cell.m F__law_cell.k F__law_cell.b .nil pass0 (pa_cons (pv 0) (pa_cons pe_int pa_nil))) pa_nil)))) pss_nil⟩
    (w_cons ⟨ps_if (pt_cmpR op_eq (pv 2) pe_int (nomark _)) (pss_one (ps_set (i:=1) scLaw.nd rfl (Or.inl rfl) (pe_call GOd hr1 rfl F__law_odd.m F__law_odd.k F__law_odd.b .nil pass0 (pa_cons (pe_call GC hr2 rfl F__law_cell.m F__law_cell.k F__law_cell.b .nil pass0 (pa_cons (pv 0) (pa_cons pe_int pa_nil))) pa_nil)))) pss_nil⟩
    (w_cons ⟨ps_set (i:=3) scLaw.nd rfl (Or.inl rfl) (pe_call GDu hr161 rfl F__law_due.m F__law_due.k F__law_due.b .nil pass0 (pa_cons (pv 1) pa_nil))⟩
    (w_cons ⟨ps_set (i:=4) scLaw.nd rfl (Or.inl rfl) (pe_call GTo hr15 rfl F__law_told.m F__law_told.k F__law_told.b .nil pass0 (pa_cons (pv 1) pa_nil))⟩
    (w_cons ⟨ps_if (pt_cmpR op_isN (pv 3) pe_non (nomark _)) (pss_one (ps_ret (pe_cmpR op_eqT (pv 4) (pe_tup (pa_cons pe_bl (pa_cons pe_bl (pa_cons pe_bl pa_nil)))) (nomark _)))) pss_nil⟩
    (w_cons ⟨ps_if (PW.pt (pw_or (pt_not (pt_val (pe_callB call_isi rfl T.isi boot_isi (pa_cons (pv 4) (pa_cons (pe_ty rfl T.lst bt_list) pa_nil))))) (pw_or1 (pt_cmpR op_neLs (pv 4) (pv 3) (nomark _))))) (pss_one (ps_ret pe_bl)) pss_nil⟩
    (w_one ⟨ps_ret (pe_callB (call_all rfl) rfl T.all L2.boot_all (pa_cons (pe_compG (N':=["one"]) rfl O (pi_list (pv 4)) (fun C s₀ H₀ ex pn xe=>pg_name (i:=0) nd1 rfl (.inl rfl) (.inr rfl)) (fun _ _ _ _ _ _=>pifs_nil)
        (fun C s₀ H₀ ex pn xe=>pe_and (pe_callB call_isi rfl T.isi boot_isi (pa_cons (pv 0) (pa_cons (pe_ty rfl T.tup boot_tup) pa_nil))) (pe_one (pe_call GWh hr1 rfl F__law_whole.m F__law_whole.k F__law_whole.b .nil pass0 (pa_cons (pe_ix (show IxR (compCx _ _ _ _ C s₀ H₀ ex pn xe) (rIxT K) from ix_tup) (pv 0) pe_int (fun _ _=>rfl)) pa_nil))))) pa_nil))⟩)))))))))))),?_⟩
  have hz:=sizeLine_eq
  refine ⟨_,rfl,a,ns,0,6,6,rfl,hS,by decide,by decide,by decide,by decide,by decide,fun t ps TT H1 nt0 s1 et hT hl hw=>?_⟩
  have h12:∀ x∈TT,x.2.wt≤12∧x.1.natAbs≤10 ^ 29:=fun x hx=>⟨by have:=(hw x hx).1;omega,(hw x hx).2⟩
  have hBr:∀ y∈TT,Brok y.2:=fun y hy=>by
    obtain ⟨j,hj⟩:=List.mem_iff_getElem?.mp hy
    obtain ⟨p,bv,e1,e2,e3⟩:=hT.2.2 j y hj
    exact ⟨e3.ok,e3.abc⟩
  have tx:Txo 312 (mk (stx TT)):=by
    refine txo_mk ?_ fun c hc=>?_
    · unfold stx
      split
      · show 1≤312;decide
      · have:=sxt_lenk (k:=52) (T:=TT) fun x hx=>by
          have h1:=bt_len (hBr x hx).1
          have h2:=ct_len (hw x hx).2
          have h3:=(hw x hx).1
          unfold tt
          rw [List.length_append]
          omega
        omega
    · unfold stx at hc
      split at hc
      · have:c=48:=by simpa using hc
        omega
      · obtain ⟨y,hy,hc⟩:=List.mem_flatMap.mp hc
        obtain ⟨s0,t0,e0,e1,e2⟩:=tt_tail (hBr y hy)
        have hc:c∈((if y.1 < 0 then 45 else 43) :: nt y.1.natAbs)++bt y.2:=hc
        rcases List.mem_append.mp hc with g | g
        · rcases List.mem_cons.mp g with g | g
          · rw [g];split <;> decide
          · have:=nt_dig c g;omega
        · have:=bt_nosg (hBr y hy) c g;omega
  refine ⟨t,ps,TT,rfl,hT,by omega,h12,fun H2 s2=>?_⟩
  have sH2:=s1.trans s2
  refine ⟨_,rfl,a,ns,13,rfl,sH2.seq hS,by decide,fun md H3 s3=>?_⟩
  refine ⟨_,_,rfl,rfl,(by show (0:Int) < 9;decide),?_⟩
  have sH3:=sH2.trans s3
  generalize mk (stx TT)=z1 at tx
  dsimp only
  generalize md % 9=mo
  let RR:Nat→L2.St→Hp→Prop:=fun n σ Hx=>∃ z,σ=[some (.ref a),some (.str z),some (.int mo),none,none]∧Same H Hx∧Txo n z
  have lp:RR 312 [some (.ref a),some (.str z1),some (.int mo),none,none] H3:=⟨z1,rfl,sH3,tx⟩
  refine ⟨_,rfl,(by show 5≤sizeLine;decide),fun p1 np1=>⟨p1,_,rfl,.inr (.inl (.inl upd_same)),rfl,rfl,_,rfl,if_join (RR 313) ?_ (fun hR _=>?_) (fun hR _=>?_)⟩⟩
  rotate_left
  · have sx:=sH3.trans (new_same np1 (.tup [V.int 1,V.int 2,V.int 3,V.int 4,V.int 5]))
    refine ⟨_,rfl,_,rfl,a,ns,14,rfl,sx.seq hS,by decide,fun c H5 s5=>⟨z1,c,rfl,tx,fun z' hz'=>hR _ _ ⟨z',rfl,sx.trans s5,hz'⟩⟩⟩
  · exact hR _ _ ⟨z1,rfl,sH3.trans (new_same np1 _),tx.mono (by decide)⟩
  rintro σ Hx ⟨z2,rfl,sx2,tx2⟩
  refine ⟨_,rfl,(by show 2≤sizeLine;decide),fun p2 np2=>⟨p2,_,rfl,.inr (.inl (.inl upd_same)),rfl,rfl,_,rfl,if_join (RR 314) ?_ (fun hR _=>?_) (fun hR _=>?_)⟩⟩
  rotate_left
  · have sx:=sx2.trans (new_same np2 (.tup [V.int 4,V.int 5]))
    refine ⟨_,rfl,_,rfl,a,ns,15,rfl,sx.seq hS,by decide,fun c H5 s5=>⟨z2,c,rfl,tx2,fun z' hz'=>hR _ _ ⟨z',rfl,sx.trans s5,hz'⟩⟩⟩
  · exact hR _ _ ⟨z2,rfl,sx2.trans (new_same np2 _),tx2.mono (by decide)⟩
  rintro σ Hx ⟨z3,rfl,sx3,tx3⟩
  refine ⟨_,rfl,rfl,_,rfl,if_join (RR 318) ?_ (fun hR _=>?_) (fun hR _=>?_)⟩
  rotate_left
  · exact ⟨_,rfl,a,ns,14,rfl,sx3.seq hS,by decide,fun c H5 s5=>⟨c,rfl,fun z' H6 s6 hz'=>hR _ _ ⟨z',rfl,sx3.trans (s5.trans s6),hz'⟩⟩⟩
  · exact hR _ _ ⟨z3,rfl,sx3,tx3.mono (by decide)⟩
  rintro σ Hx ⟨z4,rfl,sx4,tx4⟩
  refine ⟨_,rfl,rfl,_,rfl,if_join (RR 318) ?_ (fun hR _=>?_) (fun hR _=>?_)⟩
  rotate_left
  · exact ⟨_,rfl,a,ns,14,rfl,sx4.seq hS,by decide,fun c H5 s5=>⟨c,rfl,fun z' H6 s6 hz'=>hR _ _ ⟨z',rfl,sx4.trans (s5.trans s6),hz'⟩⟩⟩
  · exact hR _ _ ⟨z4,rfl,sx4,tx4⟩
  rintro σ Hx ⟨z5,rfl,sx5,tx5⟩
  refine ⟨_,rfl,rfl,_,rfl,if_join (RR 318) ?_ (fun hR _=>?_) (fun hR _=>?_)⟩
  rotate_left
  · exact ⟨_,rfl,a,ns,14,rfl,sx5.seq hS,by decide,fun c H5 s5=>⟨c,rfl,fun z' H6 s6 hz'=>hR _ _ ⟨z',rfl,sx5.trans (s5.trans s6),hz'⟩⟩⟩
  · exact hR _ _ ⟨z5,rfl,sx5,tx5⟩
  rintro σ Hx ⟨z,rfl,sx,tz⟩
  have tl:=tz.1
  have uni:∀ U V,Wr (Ls z) U→Wr (Ls z) V→U=V:=by
    intro U V hU hV
    rcases hU with ⟨u1,u2⟩ | ⟨u1,u2,u3,u4⟩
    · rcases hV with ⟨v1,v2⟩ | ⟨v1,v2,v3,v4⟩
      · rw [u1,v1]
      · rw [u2] at v4;exact absurd v4.symm sxt_ne48
    · rcases hV with ⟨v1,v2⟩ | ⟨v1,v2,v3,v4⟩
      · rw [v2] at u4;exact absurd u4.symm sxt_ne48
      · obtain ⟨B,b1,b2⟩:=sxt_pre (r:=[]) (fun y hy=>(u3 y hy).1) (fun y hy=>(v3 y hy).1) (by rw [List.append_nil,← u4,v4])
        cases B with
        | nil=>rw [b1,List.append_nil]
        | cons y B =>
          obtain ⟨c,t,e,_⟩:=tt_head y
          rw [sxt_cons,e] at b2
          cases b2
  refine ⟨_,rfl,z,rfl,tl,tz.2,fun U hU t ps H5 s5 et tv=>?_,fun hn H5 s5=>?_⟩
  · refine ⟨_,rfl,z,rfl,by omega,tz.2,fun V hV t' ps' H6 nt' s6 et' tv'=>?_,fun hn=>absurd ⟨U,hU⟩ hn⟩
    have:=uni U V hU hV
    subst this
    have hw8:∀ x∈U,x.2.wt≤8:=fun x hx=>(hU.tok x hx).2.1
    have tv6:=tv.same s6
    refine ⟨_,rfl,rfl,_,rfl,?_⟩
    rw [decide_eq_false (fun g=>by cases g)]
    refine iteF ?_
    refine ⟨_,rfl,_,_,_,rfl,.ll et',_,rfl,iteF ?_⟩
    refine ⟨_,rfl,_,rfl,t',t,ps',ps,9,fun _=>true,rfl,rfl,tv'.1,tv6.1,fun _=>eqv_tot tv' tv6 hw8,un_of (n:=9) hr (by decide),_,rfl,?_⟩
    have el:lstEq ps' ps (fun _=>true)=true:=by
      unfold lstEq
      rw [tv'.2.1,tv6.2.1,decide_eq_true rfl]
      simp
    rw [el]
    refine iteF ?_
    have lU:U.length≤12:=by
      rcases hU with ⟨u1,u2⟩ | ⟨u1,u2,u3,u4⟩
      · rw [u1];exact Nat.zero_le _
      · exact u2
    have lps:ps'.length=U.length:=tv'.2.1
    refine ⟨_,rfl,t',rfl,⟨_,tv'.1⟩,[none],⟨rfl,fun i x v e1 e2=>?_⟩,fun D nD=>?_⟩
    · match i,e1,e2 with
      | 0,e1,e2=>cases e2
      | i + 1,e1,e2=>cases e1
    refine comp_anyG (n:=ps'.length) (fun i=>ps'.getD i .non) (fun _=>.bl true) (fun _=>true) (items1_list tv'.1 fun i hi=>by simp [List.getD,List.getElem?_eq_getElem hi]) (by omega) nD (fun i Hx R hi sx hR=>hR _ (Same.refl _)) (fun i Hy R hi _ sy hR=>?_) fun H7 s7 xD=>?_
    · obtain ⟨x,p,bv,_,ep,g2,g3⟩:=tv'.at (List.getElem?_eq_getElem hi)
      have ex:ps'.getD i .non = .ref p:=by simp [List.getD,List.getElem?_eq_getElem hi,ep]
      rw [ex]
      refine ⟨_,rfl,_,_,_,rfl,.tt (sy _ _ g2),_,rfl,iteT ?_⟩
      exact ⟨_,rfl,p,_,_,_,rfl,rfl,.inl (.inl (sy _ _ g2)),rfl,x.1,rfl,hR _ (Same.refl _)⟩
    · have eD:(((List.range ps'.length).filter (fun _=>true)).map fun _=>V.bl true)=(((List.range ps'.length).map fun _=>true).map V.bl):=by rw [filter_yes,List.map_map];rfl
      rw [eD] at xD
      refine ⟨D,_,rfl,.inl (.inl xD),?_⟩
      have ea:((List.range ps'.length).map fun _=>true).all id=true:=by simp
      rw [ea]
      exact q _
  · refine ⟨_,rfl,z,rfl,by omega,tz.2,fun V hV=>absurd ⟨V,hV⟩ hn,fun _ p H6 s6 ep=>?_⟩
    refine ⟨_,rfl,rfl,_,rfl,?_⟩
    rw [decide_eq_true rfl]
    refine iteT ⟨_,rfl,(by show 3≤sizeLine;decide),fun p7 np7=>?_⟩
    exact ⟨p,p7,_,_,0,fun _=>true,rfl,rfl,.inl (.inl (new_same np7 _ _ _ ep)),.inl (.inl upd_same),items_self (by simp [Sc]),un_of (n:=0) hr (by decide),q _⟩
end
end K01
end
namespace K01
open PySem PySem.Spec PyProof.Rows Tim L2 Wm
noncomputable def DefIn (K:PySem.W.Frag) (x:Str) (st:Stmt):Prop:=∃ (f:Addr) (oc:Value) (od an:Option Addr) (osl:Array (Option Value)) (kV doc pm cdv ct:Value),PySem.W.nsIn K mainGlobals x=some (some (.ref f))∧K.lookup f=some ⟨oc,od,.func (PySem.W.fnOf x x (defArgs st) (defBody st) (defScope st) .none kV doc pm an cdv ct),osl⟩∧PySem.W.codeIn K cdv x=true∧PySem.W.keepIn K (.ref f)=true
theorem dn {K:PySem.W.Frag} {x:Str} {st:Stmt} {f:Addr} {oc:Value} {od an:Option Addr} {osl:Array (Option Value)} {kV doc pm cdv ct:Value} (a:PySem.W.nsIn K mainGlobals x=some (some (.ref f))) (l:K.lookup f=some ⟨oc,od,.func (PySem.W.fnOf x x (defArgs st) (defBody st) (defScope st) .none kV doc pm an cdv ct),osl⟩) (c:PySem.W.codeIn K cdv x=true) (k:PySem.W.keepIn K (.ref f)=true):DefIn K x st:=⟨f,oc,od,an,osl,kV,doc,pm,cdv,ct,a,l,c,k⟩
theorem at_of {K:PySem.W.Frag} {mg:Str→Option Value} {h:Heap} {x:Str} {st:Stmt} {ps:List Str} (X:K.In h) (G:h.Ns mainGlobals mg) (d:DefIn K x st) (hb:∀ (kV doc pm:Value) (an:Option Addr) (cdv ct:Value) (us:List Value),us.length=ps.length→bindArgs (PySem.W.fnOf x x (defArgs st) (defBody st) (defScope st) .none kV doc pm an cdv ct) ⟨us,[]⟩=pure (ps.zip us)):∃ f fd,At K mg x st ps f fd:=by
  obtain ⟨f,oc,od,an,osl,kV,doc,pm,cdv,ct,a,l,c,k⟩:=d
  exact ⟨_,_,at_mk X G a l c k hb⟩
theorem sh {us:List Value} {n:Nat} (h:us.length=n + 1):∃ a t,us=a :: t∧t.length=n:=by
  cases us with
  | nil=>cases h
  | cons a t=>exact ⟨a,t,rfl,Nat.succ.inj h⟩
noncomputable def MethIn (K:PySem.W.Frag) (C:Addr) (x q:Str) (st:Stmt):Prop:=∃ (f:Addr) (oc:Value) (od an:Option Addr) (osl:Array (Option Value)) (kV doc pm cdv ct:Value),PySem.W.findIn K (.ref C) x=some (some (.ref f))∧PySem.W.isFn K (.ref f)=true∧K.lookup f=some ⟨oc,od,.func (PySem.W.fnOf x q (defArgs st) (defBody st) (defScope st) .none kV doc pm an cdv ct),osl⟩∧PySem.W.codeIn K cdv q=true∧PySem.W.keepIn K (.ref f)=true
theorem mn {K:PySem.W.Frag} {C:Addr} {x q:Str} {st:Stmt} {f:Addr} {oc:Value} {od an:Option Addr} {osl:Array (Option Value)} {kV doc pm cdv ct:Value} (a:PySem.W.findIn K (.ref C) x=some (some (.ref f))) (i:PySem.W.isFn K (.ref f)=true) (l:K.lookup f=some ⟨oc,od,.func (PySem.W.fnOf x q (defArgs st) (defBody st) (defScope st) .none kV doc pm an cdv ct),osl⟩) (c:PySem.W.codeIn K cdv q=true) (k:PySem.W.keepIn K (.ref f)=true):MethIn K C x q st:=⟨f,oc,od,an,osl,kV,doc,pm,cdv,ct,a,i,l,c,k⟩
theorem mat_of {K:PySem.W.Frag} {C:Addr} {x q:Str} {st:Stmt} {ps:List Str} (d:MethIn K C x q st) (hb:∀ (kV doc pm:Value) (an:Option Addr) (cdv ct:Value) (us:List Value),us.length=ps.length→bindArgs (PySem.W.fnOf x q (defArgs st) (defBody st) (defScope st) .none kV doc pm an cdv ct) ⟨us,[]⟩=pure (ps.zip us)):∃ f fd,MAt K C x q st ps f fd:=by
  obtain ⟨f,oc,od,an,osl,kV,doc,pm,cdv,ct,a,i,l,c,k⟩:=d
  exact ⟨f,_,fun_mk l c k,(fun_mk l c k).binds hb,a,i,k⟩
theorem ar1 {f:FuncData} {ps:List Str} (q:∀ a:Value,bindArgs f ⟨[a],[]⟩=pure (ps.zip [a])) {us:List Value} (h:us.length=1):bindArgs f ⟨us,[]⟩=pure (ps.zip us):=by
  obtain ⟨a,us0,rfl,h0⟩:=sh h
  cases List.length_eq_zero_iff.mp h0
  exact q a
theorem ar2 {f:FuncData} {ps:List Str} (q:∀ a b:Value,bindArgs f ⟨[a,b],[]⟩=pure (ps.zip [a,b])) {us:List Value} (h:us.length=2):bindArgs f ⟨us,[]⟩=pure (ps.zip us):=by
  obtain ⟨a,us0,rfl,h0⟩:=sh h
  obtain ⟨b,us1,rfl,h1⟩:=sh h0
  cases List.length_eq_zero_iff.mp h1
  exact q a b
theorem ar3 {f:FuncData} {ps:List Str} (q:∀ a b c:Value,bindArgs f ⟨[a,b,c],[]⟩=pure (ps.zip [a,b,c])) {us:List Value} (h:us.length=3):bindArgs f ⟨us,[]⟩=pure (ps.zip us):=by
  obtain ⟨a,us0,rfl,h0⟩:=sh h
  obtain ⟨b,us1,rfl,h1⟩:=sh h0
  obtain ⟨c,us2,rfl,h2⟩:=sh h1
  cases List.length_eq_zero_iff.mp h2
  exact q a b c
theorem ar4 {f:FuncData} {ps:List Str} (q:∀ a b c d:Value,bindArgs f ⟨[a,b,c,d],[]⟩=pure (ps.zip [a,b,c,d])) {us:List Value} (h:us.length=4):bindArgs f ⟨us,[]⟩=pure (ps.zip us):=by
  obtain ⟨a,us0,rfl,h0⟩:=sh h
  obtain ⟨b,us1,rfl,h1⟩:=sh h0
  obtain ⟨c,us2,rfl,h2⟩:=sh h1
  obtain ⟨d,us3,rfl,h3⟩:=sh h2
  cases List.length_eq_zero_iff.mp h3
  exact q a b c d
set_option maxHeartbeats 8000000 in
theorem all_mk {l:PySem.W.OpenLaw} {w:World} {K:PySem.W.Frag} {h:Heap} {mg:Str→Option Value} {fa:Addr} (X:K.In h) (G:h.Ns mainGlobals mg) (hfa:mg "law" = some (.ref fa))
    {C_TwistError C_NotRead C_NoSum:Addr}
    {t_GREATEST_WEIGHT:PySem.Tok}
    {t_MOST_FIGURES:PySem.Tok}
    {t_MOST_TUPLES:PySem.Tok}
    {t_FIGURES:PySem.Tok}
    {a_LETTERS:Addr}
    (d3:DefIn K "weight" (top 3))
    (d12:DefIn K "read" (top 12))
    (d15:DefIn K "_law_stir" (top 15))
    (d16:DefIn K "_law_cell" (top 16))
    (d17:DefIn K "_law_whole" (top 17))
    (d18:DefIn K "_law_draw" (top 18))
    (d19:DefIn K "_law_raw" (top 19))
    (d20:DefIn K "_law_by_digits" (top 20))
    (d21:DefIn K "_law_mixed" (top 21))
    (d22:DefIn K "_law_bracket" (top 22))
    (d23:DefIn K "_law_sum" (top 23))
    (d24:DefIn K "_law_bracket_text" (top 24))
    (d25:DefIn K "_law_text" (top 25))
    (d26:DefIn K "_law_changed" (top 26))
    (d27:DefIn K "_law_long" (top 27))
    (d28:DefIn K "_law_deep" (top 28))
    (d29:DefIn K "_law_odd" (top 29))
    (d30:DefIn K "_law_parse" (top 30))
    (d31:DefIn K "_law_due" (top 31))
    (d32:DefIn K "_law_told" (top 32))
    (d33:DefIn K "law" (top 33))
    (xa_TwistError:PySem.W.nsIn K mainGlobals "TwistError" = some (some (.ref C_TwistError))) (xb_TwistError:excKit K C_TwistError=true)
    (xa_NotRead:PySem.W.nsIn K mainGlobals "NotRead" = some (some (.ref C_NotRead))) (xb_NotRead:excKit K C_NotRead=true)
    (xa_NoSum:PySem.W.nsIn K mainGlobals "NoSum" = some (some (.ref C_NoSum))) (xb_NoSum:excKit K C_NoSum=true)
    (xm_NotRead:PySem.W.mroIn K C_NotRead (.ref C_TwistError)=some true)
    (xm_NoSum:PySem.W.mroIn K C_NoSum (.ref C_TwistError)=some true)
    (xi_NotRead_NotRead:PySem.W.kitOne K (.ref C_NotRead) (.ref C_NotRead)=some true)
    (xi_NotRead_ValueError:PySem.W.kitOne K (.ref C_NotRead) (.type "ValueError")=some true)
    (xi_NotRead_NoSum:PySem.W.kitOne K (.ref C_NotRead) (.ref C_NoSum)=some false)
    (y_GREATEST_WEIGHT:PySem.W.nsIn K mainGlobals "GREATEST_WEIGHT" = some (some (.int 8 t_GREATEST_WEIGHT)))
    (y_MOST_FIGURES:PySem.W.nsIn K mainGlobals "MOST_FIGURES" = some (some (.int 30 t_MOST_FIGURES)))
    (y_MOST_TUPLES:PySem.W.nsIn K mainGlobals "MOST_TUPLES" = some (some (.int 12 t_MOST_TUPLES)))
    (y_FIGURES:PySem.W.nsIn K mainGlobals "FIGURES" = some (some (.str (Str.ofString "0123456789") t_FIGURES)))
    (y_LETTERS:PySem.W.nsIn K mainGlobals "LETTERS" = some (some (.ref a_LETTERS))) (yt_LETTERS:tupKit K a_LETTERS [Str.ofString "a",Str.ofString "b",Str.ofString "c"]=true)
    {C:Addr} (aC:PySem.W.nsIn K mainGlobals "Reader" = some (some (.ref C))) (pg:PySem.W.plainGet K C Str.empty=true) (hd:PySem.W.hasDictIn K C=true) (po:PySem.W.plainOver K C=true) (sa:PySem.W.findIn K (.ref C) "__setattr__" = some (some (.builtin "object.__setattr__"))) (mk:PySem.W.makesIn K C=true) (kc:PySem.W.keepIn K (.ref C)=true)
    (no_text:PySem.W.findIn K (.ref C) "text" = some none)
    (no_place:PySem.W.findIn K (.ref C) "place" = some none)
    (mm___init__:MethIn K C "__init__" "Reader.__init__" (rm 0))
    (mm_at_end:MethIn K C "at_end" "Reader.at_end" (rm 1))
    (mm_sign_here:MethIn K C "sign_here" "Reader.sign_here" (rm 2))
    (mm_take:MethIn K C "take" "Reader.take" (rm 3))
    (mm_take_wanted:MethIn K C "take_wanted" "Reader.take_wanted" (rm 4))
    (mm_take_tuple:MethIn K C "take_tuple" "Reader.take_tuple" (rm 5))
    (mm_take_count:MethIn K C "take_count" "Reader.take_count" (rm 6))
    (mm_take_figures:MethIn K C "take_figures" "Reader.take_figures" (rm 7))
    (mm_take_bracket:MethIn K C "take_bracket" "Reader.take_bracket" (rm 8))
    (z_isi:PySem.W.nsIn K mainGlobals "isinstance" = some none)
    (z_str:PySem.W.nsIn K mainGlobals "str" = some none)
    (z_len:PySem.W.nsIn K mainGlobals "len" = some none)
    (z_lst:PySem.W.nsIn K mainGlobals "list" = some none)
    (z_tup:PySem.W.nsIn K mainGlobals "tuple" = some none)
    (z_int:PySem.W.nsIn K mainGlobals "int" = some none)
    (z_bool:PySem.W.nsIn K mainGlobals "bool" = some none)
    (z_srt:PySem.W.nsIn K mainGlobals "sorted" = some none)
    (z_rng:PySem.W.nsIn K mainGlobals "range" = some none)
    (z_zip:PySem.W.nsIn K mainGlobals "zip" = some none)
    (z_all:PySem.W.nsIn K mainGlobals "all" = some none)
    (z_min:PySem.W.nsIn K mainGlobals "min" = some none)
    (z_max:PySem.W.nsIn K mainGlobals "max" = some none)
    (z_dict:PySem.W.nsIn K mainGlobals "dict" = some none)
    (z_abs:PySem.W.nsIn K mainGlobals "abs" = some none)
    (z_sum:PySem.W.nsIn K mainGlobals "sum" = some none)
    (z_set:PySem.W.nsIn K mainGlobals "set" = some none)
    (z_enm:PySem.W.nsIn K mainGlobals "enumerate" = some none)
    (z_rev:PySem.W.nsIn K mainGlobals "reversed" = some none)
    (z_ve:PySem.W.nsIn K mainGlobals "ValueError" = some none)
    : ∃ fd:FuncData,(∀ (s:Shared) (v:Value),BindsTo s fd ⟨[v],[]⟩ [("script",v)])∧∀ base:Heap,K.In base→base.Ns mainGlobals mg→FnOk l.prog w K mg base CX0 170 fa fd ["script"] (spLaw K):=by
  obtain ⟨f,oc,od,an,osl,kV,doc,pm,cdv,ct,a,l,c,k⟩:=d33
  have e:=hfa.symm.trans (PySem.W.mg_of X G a)
  cases e
  have B:Blt mg:=⟨PySem.W.mg_none_of X G z_isi,PySem.W.mg_none_of X G z_str,PySem.W.mg_none_of X G z_len,PySem.W.mg_none_of X G z_lst,PySem.W.mg_none_of X G z_tup,PySem.W.mg_none_of X G z_int,PySem.W.mg_none_of X G z_bool,PySem.W.mg_none_of X G z_srt,PySem.W.mg_none_of X G z_rng,PySem.W.mg_none_of X G z_zip,PySem.W.mg_none_of X G z_all,PySem.W.mg_none_of X G z_min,PySem.W.mg_none_of X G z_max,PySem.W.mg_none_of X G z_dict,PySem.W.mg_none_of X G z_abs,PySem.W.mg_none_of X G z_sum,PySem.W.mg_none_of X G z_set,PySem.W.mg_none_of X G z_enm,PySem.W.mg_none_of X G z_rev,PySem.W.mg_none_of X G z_ve⟩
  obtain ⟨f___init__,fd___init__,M___init__⟩:=mat_of (ps:=["self","text"]) mm___init__ (fun _ _ _ _ _ _ _ hl=>ar2 (fun _ _=>rfl) hl)
  obtain ⟨f_at_end,fd_at_end,M_at_end⟩:=mat_of (ps:=["self"]) mm_at_end (fun _ _ _ _ _ _ _ hl=>ar1 (fun _=>rfl) hl)
  obtain ⟨f_sign_here,fd_sign_here,M_sign_here⟩:=mat_of (ps:=["self"]) mm_sign_here (fun _ _ _ _ _ _ _ hl=>ar1 (fun _=>rfl) hl)
  obtain ⟨f_take,fd_take,M_take⟩:=mat_of (ps:=["self"]) mm_take (fun _ _ _ _ _ _ _ hl=>ar1 (fun _=>rfl) hl)
  obtain ⟨f_take_wanted,fd_take_wanted,M_take_wanted⟩:=mat_of (ps:=["self","wanted"]) mm_take_wanted (fun _ _ _ _ _ _ _ hl=>ar2 (fun _ _=>rfl) hl)
  obtain ⟨f_take_tuple,fd_take_tuple,M_take_tuple⟩:=mat_of (ps:=["self"]) mm_take_tuple (fun _ _ _ _ _ _ _ hl=>ar1 (fun _=>rfl) hl)
  obtain ⟨f_take_count,fd_take_count,M_take_count⟩:=mat_of (ps:=["self"]) mm_take_count (fun _ _ _ _ _ _ _ hl=>ar1 (fun _=>rfl) hl)
  obtain ⟨f_take_figures,fd_take_figures,M_take_figures⟩:=mat_of (ps:=["self"]) mm_take_figures (fun _ _ _ _ _ _ _ hl=>ar1 (fun _=>rfl) hl)
  obtain ⟨f_take_bracket,fd_take_bracket,M_take_bracket⟩:=mat_of (ps:=["self","depth"]) mm_take_bracket (fun _ _ _ _ _ _ _ hl=>ar2 (fun _ _=>rfl) hl)
  have Z:Defs K mg:=⟨B,at_of X G d3 (fun _ _ _ _ _ _ _ hl=>ar1 (fun _=>rfl) hl),at_of X G d12 (fun _ _ _ _ _ _ _ hl=>ar1 (fun _=>rfl) hl),at_of X G d15 (fun _ _ _ _ _ _ _ hl=>ar1 (fun _=>rfl) hl),at_of X G d16 (fun _ _ _ _ _ _ _ hl=>ar2 (fun _ _=>rfl) hl),at_of X G d17 (fun _ _ _ _ _ _ _ hl=>ar1 (fun _=>rfl) hl),at_of X G d18 (fun _ _ _ _ _ _ _ hl=>ar3 (fun _ _ _=>rfl) hl),at_of X G d19 (fun _ _ _ _ _ _ _ hl=>ar2 (fun _ _=>rfl) hl),at_of X G d20 (fun _ _ _ _ _ _ _ hl=>ar2 (fun _ _=>rfl) hl),at_of X G d21 (fun _ _ _ _ _ _ _ hl=>ar3 (fun _ _ _=>rfl) hl),at_of X G d22 (fun _ _ _ _ _ _ _ hl=>ar3 (fun _ _ _=>rfl) hl),at_of X G d23 (fun _ _ _ _ _ _ _ hl=>ar4 (fun _ _ _ _=>rfl) hl),at_of X G d24 (fun _ _ _ _ _ _ _ hl=>ar1 (fun _=>rfl) hl),at_of X G d25 (fun _ _ _ _ _ _ _ hl=>ar1 (fun _=>rfl) hl),at_of X G d26 (fun _ _ _ _ _ _ _ hl=>ar2 (fun _ _=>rfl) hl),at_of X G d27 (fun _ _ _ _ _ _ _ hl=>ar1 (fun _=>rfl) hl),at_of X G d28 (fun _ _ _ _ _ _ _ hl=>ar1 (fun _=>rfl) hl),at_of X G d29 (fun _ _ _ _ _ _ _ hl=>ar1 (fun _=>rfl) hl),at_of X G d30 (fun _ _ _ _ _ _ _ hl=>ar1 (fun _=>rfl) hl),at_of X G d31 (fun _ _ _ _ _ _ _ hl=>ar1 (fun _=>rfl) hl),at_of X G d32 (fun _ _ _ _ _ _ _ hl=>ar1 (fun _=>rfl) hl),⟨C_TwistError,C_NotRead,C_NoSum,excAt_mk X G xa_TwistError xb_TwistError,excAt_mk X G xa_NotRead xb_NotRead,excAt_mk X G xa_NoSum xb_NoSum,xm_NotRead,xm_NoSum,xi_NotRead_NotRead,xi_NotRead_ValueError,xi_NotRead_NoSum⟩,⟨_,PySem.W.mg_of X G y_GREATEST_WEIGHT⟩,⟨_,PySem.W.mg_of X G y_MOST_FIGURES⟩,⟨_,PySem.W.mg_of X G y_MOST_TUPLES⟩,⟨_,PySem.W.mg_of X G y_FIGURES⟩,⟨_,PySem.W.mg_of X G y_LETTERS,tupK_mk yt_LETTERS⟩,⟨C,f___init__,fd___init__,f_at_end,fd_at_end,f_sign_here,fd_sign_here,f_take,fd_take,f_take_wanted,fd_take_wanted,f_take_tuple,fd_take_tuple,f_take_count,fd_take_count,f_take_figures,fd_take_figures,f_take_bracket,fd_take_bracket,⟨⟨pg,hd,po,sa⟩,no_text,no_place⟩,PySem.W.mg_of X G aC,⟨mk,M___init__.m.at_,M___init__.m.fn,kc⟩,M___init__.fn,M___init__.b,M_at_end,M_sign_here,M_take,M_take_wanted,M_take_tuple,M_take_count,M_take_figures,M_take_bracket⟩⟩
  have hb:∀ (kV doc pm:Value) (an:Option Addr) (cdv ct:Value) (us:List Value),us.length=(["script"]:List Str).length→bindArgs (PySem.W.fnOf "law" "law" (defArgs (top 33)) (defBody (top 33)) (defScope (top 33)) .none kV doc pm an cdv ct) ⟨us,[]⟩=pure ((["script"]:List Str).zip us):=fun _ _ _ _ _ _ _ hl=>ar1 (fun _=>rfl) hl
  exact ⟨_,fun s v=>.of_eq (hb _ _ _ _ _ _ [v] rfl),fun base _ _=>ok_law Z (at_mk X G a l c k hb)⟩
theorem walk {l:PySem.W.OpenLaw} {q:Program} {loose:List Str} {XP:(Str→Option Value)→Heap→Prop} {YP:World→Heap→Prop} {d:DefRec} {K:Params→PySem.W.Frag} (hn:l.most=some 63) (hdf:d.params.defaults=[])
    (hY:∀ (w:World) (h:Heap),YP w h→(K w.params).In h)
    (F:∀ (w:World) (mg:Str→Option Value) (fa:Addr) (h:Heap),(K w.params).In h→h.Ns mainGlobals mg→mg d.name=some (.ref fa) →
      ∃ fd:FuncData,(∀ (s:Shared) (u:Value),BindsTo s fd ⟨[u],[]⟩ [("script",u)])∧∀ base:Heap,(K w.params).In base→base.Ns mainGlobals mg→FnOk l.prog w (K w.params) mg base CX0 170 fa fd ["script"] (spLaw (K w.params))) :
    PySem.W.WalkO q loose XP YP l.row.toRowW d [] (fun f vs=>PySem.call f vs) :=
  L2.walk_of (n:=63) (k:=170) (x:="script") (CX:=fun _=>CX0) (sp:=fun w=>spLaw (K w.params)) hn (by decide) hdf ⟨rfl,by decide,by decide⟩ hY F (fun _ _ a ns hl _ hS=>⟨a,ns,rfl,hS,hl,fun _=>rfl⟩) fun _ _ _ _ _ z=>z
end K01
open PySem PySem.W PyProof.Rows
set_option maxRecDepth 100000 in
set_option maxHeartbeats 0 in
theorem PySem.Challenge.cw_twistbrackets_k14_read_holds : PySem.Challenge.rw_twistbrackets_k14_read.Holds := by
  w_on;o_law;k_head;(case hw=>w_witness2)
  k_fill
  refine K01.walk (l:=PySem.Challenge.rw_twistbrackets_k14_read) rfl rfl (fun w h Y=>PySem.W.kIn_of Y) ?F
  case F =>
    intro w mg fa h KX G hmg
    refine' K01.all_mk KX G hmg ?_ ?_ ?_ ?_ ?_ ?_ ?_ ?_ ?_ ?_ ?_ ?_ ?_ ?_ ?_ ?_ ?_ ?_ ?_ ?_ ?_ ?xa_TwistError ?xb_TwistError ?xa_NotRead ?xb_NotRead ?xa_NoSum ?xb_NoSum ?xm_NotRead ?xm_NoSum ?xi_NotRead_NotRead ?xi_NotRead_ValueError ?xi_NotRead_NoSum ?y_GREATEST_WEIGHT ?y_MOST_FIGURES ?y_MOST_TUPLES ?y_FIGURES ?y_LETTERS ?yt_LETTERS ?aC ?pg ?hd ?po ?sa ?mk ?kc ?no_text ?no_place ?mm___init__ ?mm_at_end ?mm_sign_here ?mm_take ?mm_take_wanted ?mm_take_tuple ?mm_take_count ?mm_take_figures ?mm_take_bracket ?z_isi ?z_str ?z_len ?z_lst ?z_tup ?z_int ?z_bool ?z_srt ?z_rng ?z_zip ?z_all ?z_min ?z_max ?z_dict ?z_abs ?z_sum ?z_set ?z_enm ?z_rev ?z_ve
    all_goals try (refine' K01.dn ?a ?l ?c ?k;(case a=>k_is);(case l=>k_is);(case c=>k_is);(case k=>k_is))
    (case xa_TwistError=>k_is)
    (case xb_TwistError=>kernel_rfl)
    (case xa_NotRead=>k_is)
    (case xb_NotRead=>kernel_rfl)
    (case xa_NoSum=>k_is)
    (case xb_NoSum=>kernel_rfl)
    (case xm_NotRead=>k_is)
    (case xm_NoSum=>k_is)
    (case xi_NotRead_NotRead=>kit_is)
    (case xi_NotRead_ValueError=>kit_is)
    (case xi_NotRead_NoSum=>kit_is)
    (case y_GREATEST_WEIGHT=>k_is)
    (case y_MOST_FIGURES=>k_is)
    (case y_MOST_TUPLES=>k_is)
    (case y_FIGURES=>k_is)
    (case y_LETTERS=>k_is)
    (case yt_LETTERS=>kernel_rfl)
    (case aC=>k_is)
    (case pg=>k_is)
    (case hd=>k_is)
    (case po=>k_is)
    (case sa=>k_is)
    (case mk=>k_is)
    (case kc=>k_is)
    (case no_text=>k_is)
    (case no_place=>k_is)
    (case mm___init__=>(refine' K01.mn ?a ?i ?l ?c ?k;(case a=>k_is);(case i=>k_is);(case l=>k_is);(case c=>k_is);(case k=>k_is)))
    (case mm_at_end=>(refine' K01.mn ?a ?i ?l ?c ?k;(case a=>k_is);(case i=>k_is);(case l=>k_is);(case c=>k_is);(case k=>k_is)))
    (case mm_sign_here=>(refine' K01.mn ?a ?i ?l ?c ?k;(case a=>k_is);(case i=>k_is);(case l=>k_is);(case c=>k_is);(case k=>k_is)))
    (case mm_take=>(refine' K01.mn ?a ?i ?l ?c ?k;(case a=>k_is);(case i=>k_is);(case l=>k_is);(case c=>k_is);(case k=>k_is)))
    (case mm_take_wanted=>(refine' K01.mn ?a ?i ?l ?c ?k;(case a=>k_is);(case i=>k_is);(case l=>k_is);(case c=>k_is);(case k=>k_is)))
    (case mm_take_tuple=>(refine' K01.mn ?a ?i ?l ?c ?k;(case a=>k_is);(case i=>k_is);(case l=>k_is);(case c=>k_is);(case k=>k_is)))
    (case mm_take_count=>(refine' K01.mn ?a ?i ?l ?c ?k;(case a=>k_is);(case i=>k_is);(case l=>k_is);(case c=>k_is);(case k=>k_is)))
    (case mm_take_figures=>(refine' K01.mn ?a ?i ?l ?c ?k;(case a=>k_is);(case i=>k_is);(case l=>k_is);(case c=>k_is);(case k=>k_is)))
    (case mm_take_bracket=>(refine' K01.mn ?a ?i ?l ?c ?k;(case a=>k_is);(case i=>k_is);(case l=>k_is);(case c=>k_is);(case k=>k_is)))
    (case z_isi=>k_is)
    (case z_str=>k_is)
    (case z_len=>k_is)
    (case z_lst=>k_is)
    (case z_tup=>k_is)
    (case z_int=>k_is)
    (case z_bool=>k_is)
    (case z_srt=>k_is)
    (case z_rng=>k_is)
    (case z_zip=>k_is)
    (case z_all=>k_is)
    (case z_min=>k_is)
    (case z_max=>k_is)
    (case z_dict=>k_is)
    (case z_abs=>k_is)
    (case z_sum=>k_is)
    (case z_set=>k_is)
    (case z_enm=>k_is)
    (case z_rev=>k_is)
    (case z_ve=>k_is)
