import PyProof.Rows.All
import Wide.All
import OpenK.AllK
import Wide.FinOn
import PyProof.Rows.SortRuns
import PyProof.Rows.SortKey
import PyProof.Rows.SortStr
import PyProof.Rows.SortShellK
import KE.KSortKey
import Lean
import PyProof.EqAt
import PyProof.EqKinds
import PyProof.TupleCall
import KE.KPairComp
import KE.KDictSum
import PyProof.ConsumeWalk
import PyProof.NeKinds
import KE.KIsAll
import PyProof.IsiPairs
import PyProof.IsiHeapPairs
import PyProof.CompUse
import OpenK.KOwn
import PyProof.ExcArgsOwn
import PyProof.ExcBaseAll.ValueError
import PyProof.StationsW
import PyProof.RulesAs
import PyProof.FString
import PyProof.FString4
import PyProof.StrLawsRepr
import PyProof.NsDelKeeps
import PyProof.StrWalks
import PyProof.CollectStr
import KE.KDictOf
import PyProof.DictUpdate
import PyProof.EnumMake
import PyProof.EnumFor
import PyProof.EnumStmt
import PyProof.AttrMissHeap
import PyProof.MeetsStr
import PyProof.FitsReplace
import PyProof.MeetsDict
import KE.KDictList
import PyProof.Rows.SetFrom
import PyProof.SetRoads
import PyProof.MinMaxWalk
import PyProof.WalkInts
import PyProof.SumWalk
import PyProof.Rows.CallKwBuiltin
import KE.KIntText
import KE.RegKIsAll
import PySem.Challenge.RW_twistbrackets_k15_each_refusal_its_own
set_option linter.all false
set_option Elab.async false
set_option maxRecDepth 100000
local macro_rules | `(tactic| omega) => `(tactic| lia)
section
namespace Tim
open PySem PyProof.Rows
noncomputable abbrev dflt:Keyed:=(Value.none,Value.none)
noncomputable def G (xs:Array Keyed) (i:Nat):Keyed:=xs[i]?.getD dflt
structure Od where
  O:KeyOrd
  key:Keyed→O.α
  rk:Keyed→Nat
variable (o:Od)
noncomputable def Od.b (x y:Keyed):Bool:=o.O.blt (o.key x) (o.key y)
noncomputable def Od.lt (x y:Keyed):Prop:=o.b x y=true∨(o.b y x=false∧o.rk x < o.rk y)
variable {o:Od}
variable (o)
variable {o}
section
variable {prog:Program} {w:World} {A:Around} {E:Value→Shared→Prop} {s:Shared} {a0:Array Keyed} {kd:SortKind} {o:Od}
end
end Tim
end
section
namespace Tim
open PySem PyProof.Rows
section
variable {prog:Program} {w:World} {A:Around} {E:Value→Shared→Prop} {s:Shared} {a0:Array Keyed} {kd:SortKind} {o:Od}
end
end Tim
end
section
namespace Tim
open PySem PyProof.Rows
section
variable {prog:Program} {w:World} {A:Around} {E:Value→Shared→Prop} {s:Shared} {a0:Array Keyed} {kd:SortKind} {o:Od}
end
end Tim
end
section
namespace Tim
open PySem PyProof.Rows
variable {o:Od}
structure ML (o:Od) (a b out:Array Keyed) (ia ib:Nat):Prop where
  perm:(out.toList++(a.toList.drop ia++b.toList.drop ib)).Perm (a.toList++b.toList)
  srt:out.toList.Pairwise o.lt
  lt:∀ x∈out.toList,∀ y∈a.toList.drop ia++b.toList.drop ib,o.lt x y
end Tim
end
section
namespace Tim
open PySem PyProof.Rows
section
variable {prog:Program} {w:World} {A:Around} {E:Value→Shared→Prop} {s:Shared} {a0:Array Keyed} {kd:SortKind} {o:Od}
end
end Tim
end
section
namespace Tim
open PySem PyProof.Rows
variable {o:Od}
structure MH (o:Od) (a b out:Array Keyed) (na nb:Nat):Prop where
  perm:((a.toList.take na++b.toList.take nb)++out.toList.reverse).Perm (a.toList++b.toList)
  srt:out.toList.reverse.Pairwise o.lt
  lt:∀ x∈a.toList.take na++b.toList.take nb,∀ y∈out.toList,o.lt x y
section
variable {prog:Program} {w:World} {A:Around} {E:Value→Shared→Prop} {s:Shared} {a0:Array Keyed} {kd:SortKind}
end
end Tim
end
section
namespace Tim
open PySem PyProof.Rows
variable {o:Od}
section
variable {prog:Program} {w:World} {A:Around} {E:Value→Shared→Prop} {s:Shared} {a0:Array Keyed} {kd:SortKind}
end
end Tim
end
section
namespace Tim
open PySem PyProof.Rows
variable {o:Od}
section
variable {prog:Program} {w:World} {A:Around} {E:Value→Shared→Prop} {s:Shared} {a0:Array Keyed} {kd:SortKind}
end
end Tim
end
section
namespace Tim
open PySem PyProof.Rows
open Classical in
section
variable {prog:Program} {w:World} {A:Around} {E:Value→Shared→Prop} {s:Shared}
end
end Tim
end
section
namespace Tim
open PySem PyProof.Rows
noncomputable def PairAt (h:Heap) (v:Value) (n:Int) (x:Str):Prop:=∃ a o t u e,v = .ref a∧h.get? a=some o∧o.cls = .type "tuple"∧o.data = .seq #[.int n t,.str x u] e
open Classical in
theorem PairAt.inj {h:Heap} {v:Value} {n m:Int} {x y:Str} (a:PairAt h v n x) (b:PairAt h v m y):n=m∧x=y:=by
  obtain ⟨a1,o1,t1,u1,e1,rfl,g1,_,d1⟩:=a
  obtain ⟨a2,o2,t2,u2,e2,q,g2,_,d2⟩:=b
  cases q
  rw [g1] at g2
  cases g2
  rw [d1] at d2
  injection d2 with d3 _
  have d4:=congrArg Array.toList d3
  injection d4 with d5 d6
  injection d5 with d7 _
  injection d6 with d8 _
  injection d8 with d9 _
  exact ⟨d7,d9⟩
section
variable {prog:Program} {w:World} {A:Around} {E:Value→Shared→Prop} {s:Shared}
end
end Tim
end
section
namespace Tim
open PySem PyProof.Rows
noncomputable def Slt (x y:Str):Prop:=x.cps.toList < y.cps.toList
section
variable {prog:Program} {w:World} {A:Around} {E:Value→Shared→Prop} {s:Shared}
end
end Tim
end
section
namespace Wm
variable {α:Type} [DecidableEq α]
noncomputable abbrev D (α:Type):=List (α×Int)
noncomputable def look (d:D α) (w:α):Option Int:=(d.find? fun p=>decide (p.1=w)).map (·.2)
noncomputable def val (d:D α) (w:α):Int:=(look d w).getD 0
noncomputable def put (d:D α) (w:α) (c:Int):D α:=if (d.any fun p=>decide (p.1=w))=true then d.map (fun p=>if p.1=w then (p.1,c) else p) else d++[(w,c)]
noncomputable def drp (d:D α) (w:α):D α:=d.filter fun p=>decide (p.1≠w)
noncomputable def keys (d:D α):List α:=d.map (·.1)
theorem look_nil (w:α):look ([]:D α) w=none:=rfl
theorem look_pos {p:α×Int} {r:D α} {w:α} (e:p.1=w):look (p :: r) w=some p.2:=by simp [look,List.find?_cons,e]
theorem look_neg {p:α×Int} {r:D α} {w:α} (e:¬ p.1=w):look (p :: r) w=look r w:=by simp [look,List.find?_cons,e]
theorem look_any (w:α):∀ d:D α,(d.any fun p=>decide (p.1=w))=(look d w).isSome
  | []=>rfl
  | p :: r=>by
    rw [List.any_cons]
    by_cases e:p.1=w
    · rw [look_pos e,decide_eq_true e];rfl
    · rw [look_neg e,decide_eq_false e,Bool.false_or];exact look_any w r
theorem look_map (w x:α) (c:Int):∀ d:D α,look (d.map fun p=>if p.1=w then (p.1,c) else p) x=(look d x).map fun v=>if x=w then c else v
  | []=>rfl
  | p :: r=>by
    have ih:=look_map w x c r
    rw [List.map_cons]
    by_cases h:p.1=w
    · rw [if_pos h]
      by_cases e:p.1=x
      · rw [look_pos (p:=(p.1,c)) e,look_pos e,Option.map_some,if_pos (e.symm.trans h)]
      · rw [look_neg (p:=(p.1,c)) e,look_neg e,ih]
    · rw [if_neg h]
      by_cases e:p.1=x
      · rw [look_pos (p:=p) e,look_pos e,Option.map_some,if_neg (fun z=>h (e.trans z))]
      · rw [look_neg (p:=p) e,look_neg e,ih]
theorem look_snoc (w x:α) (c:Int):∀ d:D α,look d w=none→look (d++[(w,c)]) x=if x=w then some c else look d x
  | [],_=>by
    by_cases e:w=x
    · rw [if_pos e.symm];exact look_pos (p:=(w,c)) e
    · rw [if_neg (fun z=>e z.symm)];exact look_neg (p:=(w,c)) e
  | p :: r,hn=>by
    rw [List.cons_append]
    have hk:¬ p.1=w:=fun z=>by rw [look_pos z] at hn;cases hn
    rw [look_neg hk] at hn
    have ih:=look_snoc w x c r hn
    by_cases e:p.1=x
    · rw [look_pos e,look_pos e,if_neg (fun z=>hk (e.trans z))]
    · rw [look_neg e,look_neg e,ih]
theorem look_put (d:D α) (w x:α) (c:Int):look (put d w c) x=if x=w then some c else look d x:=by
  unfold put
  by_cases a:(d.any fun p=>decide (p.1=w))=true
  · rw [if_pos a,look_map]
    rw [look_any] at a
    by_cases e:x=w
    · obtain ⟨y,hy⟩:=Option.isSome_iff_exists.mp a
      rw [if_pos e,e,hy,Option.map_some,if_pos rfl]
    · rw [if_neg e]
      cases look d x with
      | none=>rfl
      | some y=>rw [Option.map_some,if_neg e]
  · rw [if_neg a]
    refine look_snoc w x c d ?_
    rw [look_any] at a
    cases q:look d w with
    | none=>rfl
    | some y=>rw [q] at a;exact (a rfl).elim
theorem look_drp (w x:α):∀ d:D α,look (drp d w) x=if x=w then none else look d x
  | []=>by simp [drp,look_nil]
  | p :: r=>by
    have ih:=look_drp w x r
    unfold drp at ih ⊢
    rw [List.filter_cons]
    by_cases e:p.1=w
    · rw [if_neg (by simp [e]),ih]
      by_cases h:x=w
      · rw [if_pos h,if_pos h]
      · rw [if_neg h,if_neg h,look_neg (fun z=>h (z.symm.trans e))]
    · rw [if_pos (by simp [e])]
      by_cases h:p.1=x
      · rw [look_pos h,look_pos h,if_neg (fun z=>e (h.trans z))]
      · rw [look_neg h,look_neg h,ih]
theorem val_put (d:D α) (w x:α) (c:Int):val (put d w c) x=if x=w then c else val d x:=by
  unfold val;rw [look_put];split <;> rfl
theorem val_drp (d:D α) (w x:α):val (drp d w) x=if x=w then 0 else val d x:=by
  unfold val;rw [look_drp];split <;> rfl
theorem mem_of_look {d:D α} {w:α} {c:Int} (h:look d w=some c):(w,c)∈d:=by
  unfold look at h
  obtain ⟨p,h1,h2⟩:=Option.map_eq_some_iff.mp h
  have h3:=List.find?_some h1
  have h4:=List.mem_of_find?_eq_some h1
  have e:p.1=w:=of_decide_eq_true h3
  have:p=(w,c):=Prod.ext e h2
  rw [← this];exact h4
theorem look_of_mem:∀ {d:D α} {w:α} {c:Int},(keys d).Nodup→(w,c)∈d→look d w=some c
  | [],_,_,_,h=>by simp at h
  | p :: r,w,c,hn,h=>by
    have hn:(p.1 :: keys r).Nodup:=hn
    obtain ⟨h1,h2⟩:=List.nodup_cons.mp hn
    rcases List.mem_cons.mp h with e | h
    · subst e;exact look_pos rfl
    · have hw:¬ p.1=w:=fun e=>h1 (by rw [e];exact List.mem_map.mpr ⟨(w,c),h,rfl⟩)
      rw [look_neg hw];exact look_of_mem h2 h
theorem look_none {d:D α} {w:α}:look d w=none↔w ∉ keys d:=by
  constructor
  · intro h m
    obtain ⟨p,hp,e⟩:=List.mem_map.mp m
    have q:(d.any fun p=>decide (p.1=w))=true:=List.any_eq_true.mpr ⟨p,hp,decide_eq_true e⟩
    rw [look_any,h] at q;cases q
  · intro h
    cases q:look d w with
    | none=>rfl
    | some c=>exact absurd (List.mem_map.mpr ⟨(w,c),mem_of_look q,rfl⟩) h
theorem keys_put (d:D α) (w:α) (c:Int):keys (put d w c)=if w∈keys d then keys d else keys d++[w]:=by
  unfold put
  by_cases a:(d.any fun p=>decide (p.1=w))=true
  · rw [if_pos a]
    have hw:w∈keys d:=by
      obtain ⟨p,hp,e⟩:=List.any_eq_true.mp a
      exact List.mem_map.mpr ⟨p,hp,of_decide_eq_true e⟩
    rw [if_pos hw]
    unfold keys
    rw [List.map_map]
    apply List.map_congr_left
    intro p _
    show (if p.1=w then (p.1,c) else p).1=p.1
    split <;> rfl
  · rw [if_neg a]
    have hw:w ∉ keys d:=by
      apply look_none.mp
      rw [look_any] at a
      cases q:look d w with
      | none=>rfl
      | some y=>rw [q] at a;exact (a rfl).elim
    rw [if_neg hw]
    unfold keys;rw [List.map_append];rfl
theorem nd_put {d:D α} (h:(keys d).Nodup) (w:α) (c:Int):(keys (put d w c)).Nodup:=by
  rw [keys_put]
  split
  · exact h
  · rename_i hw
    rw [List.nodup_append]
    refine ⟨h,by simp,?_⟩
    intro a ha b hb e
    rw [List.mem_singleton] at hb
    exact hw (by rw [← hb,← e];exact ha)
theorem nd_filter {d:D α} (h:(keys d).Nodup) (f:α×Int→Bool):(keys (d.filter f)).Nodup:=by
  unfold keys at h ⊢
  exact h.sublist (List.Sublist.map _ List.filter_sublist)
theorem nd_drp {d:D α} (h:(keys d).Nodup) (w:α):(keys (drp d w)).Nodup:=nd_filter h _
theorem len_put (d:D α) (w:α) (c:Int):(put d w c).length≤d.length + 1:=by
  unfold put
  split
  · rw [List.length_map];omega
  · rw [List.length_append];simp
theorem nd_of_keys {d:D α} (h:(keys d).Nodup):d.Nodup:=by
  have h:(d.map (·.1)).Pairwise (·≠·):=h
  rw [List.pairwise_map] at h
  exact h.imp fun hab e=>hab (by rw [e])
noncomputable def NZ (d:D α):Prop:=∀ p∈d,p.2≠0
theorem perm_of_val {d e:D α} (hd:(keys d).Nodup) (he:(keys e).Nodup) (nd:NZ d) (ne:NZ e) (h:∀ w,val d w=val e w):d.Perm e:=by
  have hdn:d.Nodup:=nd_of_keys hd
  have hen:e.Nodup:=nd_of_keys he
  refine (List.perm_ext_iff_of_nodup hdn hen).mpr fun p=>?_
  have one:∀ {d e:D α},(keys d).Nodup→NZ d→(∀ w,val d w=val e w)→p∈d→p∈e:=fun {d e} hd nd h hp=>by
    have l:=look_of_mem hd (w:=p.1) (c:=p.2) hp
    have v:val e p.1=p.2:=by rw [← h];unfold val;rw [l];rfl
    have nz:=nd p hp
    cases q:look e p.1 with
    | none=>unfold val at v;rw [q] at v;exact absurd v.symm nz
    | some c =>
      have:c=p.2:=by unfold val at v;rw [q] at v;exact v
      subst this
      exact mem_of_look q
  exact ⟨one hd nd h,one he ne fun w=>(h w).symm⟩
noncomputable def isum:List Int→Int
  | []=>0
  | x :: r=>x + isum r
theorem isum_append:∀ a b:List Int,isum (a++b)=isum a + isum b
  | [],b=>by simp [isum]
  | x :: r,b=>by rw [List.cons_append,isum,isum,isum_append r b];omega
theorem isum_perm {a b:List Int} (h:a.Perm b):isum a=isum b:=by
  induction h with
  | nil=>rfl
  | cons x _ ih=>simp only [isum];rw [ih]
  | swap x y l=>simp only [isum];omega
  | trans _ _ i1 i2=>exact i1.trans i2
theorem isum_map_congr {β:Type} {f g:β→Int}:∀ {l:List β},(∀ p∈l,f p=g p)→isum (l.map f)=isum (l.map g)
  | [],_=>rfl
  | x :: r,h=>by
    simp only [List.map_cons,isum]
    rw [h x (List.mem_cons_self ..),isum_map_congr fun p hp=>h p (List.mem_cons_of_mem _ hp)]
noncomputable def add (d:D α) (w:α) (c:Int):D α:=put d w (val d w + c)
theorem val_add (d:D α) (w x:α) (c:Int):val (add d w c) x=val d x + if x=w then c else 0:=by
  unfold add;rw [val_put]
  by_cases e:x=w
  · rw [if_pos e,if_pos e,e]
  · rw [if_neg e,if_neg e];omega
noncomputable def lput (d:D α) (w:α) (c:Int):D α:=if val (put d w (val d w + c)) w=0 then drp (put d w (val d w + c)) w else put d w (val d w + c)
theorem val_lput (d:D α) (w x:α) (c:Int):val (lput d w c) x=val d x + if x=w then c else 0:=by
  unfold lput
  rw [val_put,if_pos rfl]
  split
  · rename_i h
    rw [val_drp]
    by_cases e:x=w
    · rw [if_pos e,if_pos e,e];omega
    · rw [if_neg e,val_put,if_neg e,if_neg e];omega
  · exact val_add d w x c
theorem nd_add {d:D α} (h:(keys d).Nodup) (w:α) (c:Int):(keys (add d w c)).Nodup:=nd_put h _ _
theorem nd_lput {d:D α} (h:(keys d).Nodup) (w:α) (c:Int):(keys (lput d w c)).Nodup:=by
  unfold lput
  split
  · exact nd_drp (nd_put h _ _) _
  · exact nd_put h _ _
theorem NZ.of_val {d:D α} (hn:(keys d).Nodup) (h:∀ w∈keys d,val d w≠0):NZ d:=fun p hp=>by
  have l:=look_of_mem hn (w:=p.1) (c:=p.2) hp
  have:=h p.1 (List.mem_map.mpr ⟨p,hp,rfl⟩)
  unfold val at this;rw [l] at this;exact this
theorem NZ.val {d:D α} (hn:(keys d).Nodup) (h:NZ d) {w:α} (hw:w∈keys d):val d w≠0:=by
  obtain ⟨p,hp,e⟩:=List.mem_map.mp hw
  have l:=look_of_mem hn (w:=p.1) (c:=p.2) hp
  unfold Wm.val;rw [← e,l];exact h p hp
theorem keys_drp {d:D α} {w x:α} (h:x∈keys (drp d w)):x∈keys d∧x≠w:=by
  obtain ⟨p,hp,e⟩:=List.mem_map.mp h
  have:=List.mem_filter.mp hp
  exact ⟨List.mem_map.mpr ⟨p,this.1,e⟩,by rw [← e];exact of_decide_eq_true this.2⟩
theorem nz_lput {d:D α} (hn:(keys d).Nodup) (h:NZ d) (w:α) (c:Int):NZ (lput d w c):=by
  refine NZ.of_val (nd_lput hn w c) fun x hx=>?_
  rw [val_lput]
  unfold lput at hx
  rw [val_put,if_pos rfl] at hx
  by_cases z:val d w + c=0
  · rw [if_pos z] at hx
    obtain ⟨h1,h2⟩:=keys_drp hx
    rw [if_neg h2]
    rw [keys_put] at h1
    have hx':x∈keys d:=by
      split at h1
      · exact h1
      · rcases List.mem_append.mp h1 with q | q
        · exact q
        · rw [List.mem_singleton] at q;exact absurd q h2
    have:=NZ.val hn h hx'
    omega
  · rw [if_neg z] at hx
    by_cases e:x=w
    · rw [if_pos e,e];exact z
    · rw [if_neg e]
      rw [keys_put] at hx
      have hx':x∈keys d:=by
        split at hx
        · exact hx
        · rcases List.mem_append.mp hx with q | q
          · exact q
          · rw [List.mem_singleton] at q;exact absurd q e
      have:=NZ.val hn h hx'
      omega
noncomputable def nz (d:D α):D α:=d.foldl (fun k p=>if p.2≠0 then put k p.1 p.2 else k) []
theorem put_new {d:D α} {w:α} (c:Int) (h:w ∉ keys d):put d w c=d++[(w,c)]:=by
  unfold put
  rw [look_any,look_none.mpr h]
  exact if_neg (by decide)
theorem nz_go:∀ (d k:D α),(keys (k++d)).Nodup→d.foldl (fun k p=>if p.2≠0 then put k p.1 p.2 else k) k=k++d.filter fun p=>decide (p.2≠0)
  | [],k,_=>by simp
  | p :: r,k,h=>by
    have e:keys (k++p :: r)=keys k++p.1 :: keys r:=by unfold keys;rw [List.map_append,List.map_cons]
    rw [e] at h
    rw [List.foldl_cons,List.filter_cons]
    have hp:p.1 ∉ keys k:=fun m=>by
      rw [List.nodup_append] at h
      exact h.2.2 _ m _ (List.mem_cons_self ..) rfl
    by_cases z:p.2=0
    · rw [if_neg (by simpa using z),if_neg (by simp [z])]
      refine nz_go r k ?_
      have e2:keys (k++r)=keys k++keys r:=by unfold keys;rw [List.map_append]
      rw [e2]
      exact h.sublist (List.Sublist.append_left (List.sublist_cons_self _ _) _)
    · rw [if_pos (by simpa using z),if_pos (by simp [z]),put_new _ hp]
      rw [nz_go r (k++[(p.1,p.2)]) (by
        have e2:keys (k++[(p.1,p.2)]++r)=keys k++p.1 :: keys r:=by unfold keys;simp
        rw [e2];exact h)]
      simp
theorem nz_eq {d:D α} (h:(keys d).Nodup):nz d=d.filter fun p=>decide (p.2≠0):=by
  unfold nz;rw [nz_go d [] (by simpa using h)];rfl
theorem nd_nz {d:D α} (h:(keys d).Nodup):(keys (nz d)).Nodup:=by rw [nz_eq h];exact nd_filter h _
theorem NZ_nz {d:D α} (h:(keys d).Nodup):NZ (nz d):=fun p hp=>by
  rw [nz_eq h] at hp
  exact of_decide_eq_true (List.mem_filter.mp hp).2
theorem look_filter {d:D α} (h:(keys d).Nodup) (w:α):val (d.filter fun p=>decide (p.2≠0)) w=val d w:=by
  cases q:look d w with
  | none =>
    have hw:w ∉ keys (d.filter fun p=>decide (p.2≠0)):=fun m=>by
      obtain ⟨p,hp,e⟩:=List.mem_map.mp m
      exact look_none.mp q (List.mem_map.mpr ⟨p,(List.mem_filter.mp hp).1,e⟩)
    unfold val;rw [q,look_none.mpr hw]
  | some c =>
    by_cases z:c=0
    · have hw:w ∉ keys (d.filter fun p=>decide (p.2≠0)):=fun m=>by
        obtain ⟨p,hp,e⟩:=List.mem_map.mp m
        have h1:=List.mem_filter.mp hp
        have h2:=look_of_mem h (w:=p.1) (c:=p.2) h1.1
        rw [e,q] at h2
        exact of_decide_eq_true h1.2 (by rw [← Option.some.inj h2];exact z)
      unfold val;rw [q,look_none.mpr hw,z];rfl
    · have hm:(w,c)∈d.filter fun p=>decide (p.2≠0):=List.mem_filter.mpr ⟨mem_of_look q,by simp [z]⟩
      unfold val;rw [q,look_of_mem (nd_filter h _) hm]
theorem val_nz {d:D α} (h:(keys d).Nodup) (w:α):val (nz d) w=val d w:=by rw [nz_eq h,look_filter h]
theorem val_fold {β:Type} {step:D α→β→D α} {g:β→α→Int} (hs:∀ d p x,val (step d p) x=val d x + g p x):∀ (l:List β) (d:D α) (x:α),val (l.foldl step d) x=val d x + isum (l.map fun p=>g p x)
  | [],d,x=>by simp [isum]
  | p :: r,d,x=>by
    rw [List.foldl_cons,val_fold hs r,hs,List.map_cons,isum];omega
theorem keep_fold {β:Type} {step:D α→β→D α} {P:D α→Prop} (hs:∀ d p,P d→P (step d p)):∀ (l:List β) (d:D α),P d→P (l.foldl step d)
  | [],d,h=>h
  | p :: r,d,h=>by rw [List.foldl_cons];exact keep_fold hs r _ (hs d p h)
variable (op:α→α→α)
noncomputable def gv (p q:α×Int) (x:α):Int:=(if x=op p.1 q.1 then p.2 * q.2 else 0) + if x=op q.1 p.1 then -(p.2 * q.2) else 0
noncomputable def stepP (p:α×Int) (d:D α) (q:α×Int):D α:=add (add d (op p.1 q.1) (p.2 * q.2)) (op q.1 p.1) (-(p.2 * q.2))
noncomputable def stepL (p:α×Int) (d:D α) (q:α×Int):D α:=lput (lput d (op p.1 q.1) (p.2 * q.2)) (op q.1 p.1) (0 - p.2 * q.2)
noncomputable def foldP (a b:D α):D α:=a.foldl (fun d p=>b.foldl (stepP op p) d) []
noncomputable def foldL (a b:D α):D α:=a.foldl (fun d p=>b.foldl (stepL op p) d) []
noncomputable def twP (a b:D α):D α:=nz (foldP op a b)
variable {op}
theorem val_stepP (p q:α×Int) (d:D α) (x:α):val (stepP op p d q) x=val d x + gv op p q x:=by
  unfold stepP gv;rw [val_add,val_add];omega
theorem val_stepL (p q:α×Int) (d:D α) (x:α):val (stepL op p d q) x=val d x + gv op p q x:=by
  unfold stepL gv;rw [val_lput,val_lput]
  have e:(0:Int) - p.2 * q.2 = -(p.2 * q.2):=by omega
  rw [e];omega
theorem val_foldP (a b:D α) (x:α):val (foldP op a b) x=isum (a.map fun p=>isum (b.map fun q=>gv op p q x)):=by
  have:=val_fold (step:=fun d p=>b.foldl (stepP op p) d) (g:=fun p x=>isum (b.map fun q=>gv op p q x)) (fun d p x=>val_fold (fun d q x=>val_stepP p q d x) b d x) a [] x
  unfold foldP;rw [this];unfold val;simp [look_nil]
theorem val_foldL (a b:D α) (x:α):val (foldL op a b) x=isum (a.map fun p=>isum (b.map fun q=>gv op p q x)):=by
  have:=val_fold (step:=fun d p=>b.foldl (stepL op p) d) (g:=fun p x=>isum (b.map fun q=>gv op p q x)) (fun d p x=>val_fold (fun d q x=>val_stepL p q d x) b d x) a [] x
  unfold foldL;rw [this];unfold val;simp [look_nil]
theorem nd_foldP (a b:D α):(keys (foldP op a b)).Nodup :=
  keep_fold (P:=fun d=>(keys d).Nodup) (fun d p h=>keep_fold (P:=fun d=>(keys d).Nodup) (fun d q h=>nd_add (nd_add h _ _) _ _) b d h) a [] List.nodup_nil
theorem good_foldL (a b:D α):(keys (foldL op a b)).Nodup∧NZ (foldL op a b) :=
  keep_fold (P:=fun d=>(keys d).Nodup∧NZ d) (fun d p h=>keep_fold (P:=fun d=>(keys d).Nodup∧NZ d) (fun d q h=>⟨nd_lput (nd_lput h.1 _ _) _ _,nz_lput (nd_lput h.1 _ _) (nz_lput h.1 h.2 _ _) _ _⟩) b d h) a [] ⟨List.nodup_nil,fun p hp=>by simp at hp⟩
theorem tw_perm {a a' b b':D α} (ha:a.Perm a') (hb:b.Perm b'):(twP op a b).Perm (foldL op a' b'):=by
  have n1:=nd_foldP (op:=op) a b
  have n2:=good_foldL (op:=op) a' b'
  refine perm_of_val (nd_nz n1) n2.1 (NZ_nz n1) n2.2 fun x=>?_
  unfold twP
  rw [val_nz n1,val_foldP,val_foldL]
  rw [isum_perm (ha.map _)]
  exact isum_map_congr fun p _=>isum_perm (hb.map _)
inductive Br (α:Type) where
  | leaf (x:α)
  | node (l r:Br α)
noncomputable def Br.wt:Br α→Nat
  | .leaf _=>1
  | .node l r=>l.wt + r.wt
variable (op)
noncomputable def cP:Br α→D α
  | .leaf x=>[(x,1)]
  | .node l r=>twP op (cP l) (cP r)
noncomputable def cL:Br α→D α
  | .leaf x=>[(x,1)]
  | .node l r=>foldL op (cL l) (cL r)
noncomputable def smP (t:List (Int×Br α)):D α:=nz (t.foldl (fun d p=>(cP op p.2).foldl (fun d q=>add d q.1 (p.1 * q.2)) d) [])
variable {op}
theorem c_perm:∀ b:Br α,(cP op b).Perm (cL op b)
  | .leaf x=>List.Perm.refl _
  | .node l r=>tw_perm (c_perm l) (c_perm r)
theorem nd_cP:∀ b:Br α,(keys (cP op b)).Nodup
  | .leaf x=>by simp [cP,keys]
  | .node l r=>nd_nz (nd_foldP _ _)
theorem nd_cL:∀ b:Br α,(keys (cL op b)).Nodup
  | .leaf x=>by simp [cL,keys]
  | .node l r=>(good_foldL _ _).1
noncomputable def l1 (d:D α):Nat:=(d.map fun p=>p.2.natAbs).sum
theorem len_fold {β:Type} {step:D α→β→D α} {k:Nat} (hs:∀ d p,(step d p).length≤d.length + k):∀ (l:List β) (d:D α),(l.foldl step d).length≤d.length + l.length * k
  | [],d=>by simp
  | p :: r,d=>by
    rw [List.foldl_cons]
    have h1:=len_fold hs r (step d p)
    have h2:=hs d p
    rw [List.length_cons,Nat.add_mul,Nat.one_mul];omega
theorem len_add (d:D α) (w:α) (c:Int):(add d w c).length≤d.length + 1:=len_put _ _ _
theorem len_stepP (p q:α×Int) (d:D α):(stepP op p d q).length≤d.length + 2:=by
  unfold stepP
  have h1:=len_add (add d (op p.1 q.1) (p.2 * q.2)) (op q.1 p.1) (-(p.2 * q.2))
  have h2:=len_add d (op p.1 q.1) (p.2 * q.2)
  omega
theorem len_nz {d:D α} (h:(keys d).Nodup):(nz d).length≤d.length:=by rw [nz_eq h];exact List.length_filter_le _ _
theorem len_foldP (a b:D α):(foldP op a b).length≤a.length * (b.length * 2):=by
  have:=len_fold (step:=fun d p=>b.foldl (stepP op p) d) (k:=b.length * 2) (fun d p=>len_fold (fun d q=>len_stepP p q d) b d) a []
  simpa [foldP] using this
theorem len_cP:∀ b:Br α,(cP op b).length≤2 ^ (b.wt - 1)∧1≤b.wt
  | .leaf x=>by simp [cP,Br.wt]
  | .node l r=>by
    obtain ⟨h1,h2⟩:=len_cP l
    obtain ⟨h3,h4⟩:=len_cP r
    refine ⟨?_,by simp only [Br.wt];omega⟩
    have h5:=len_foldP (op:=op) (cP op l) (cP op r)
    have h6:=len_nz (nd_foldP (op:=op) (cP op l) (cP op r))
    have h7:(cP op l).length * ((cP op r).length * 2)≤2 ^ (l.wt - 1) * (2 ^ (r.wt - 1) * 2):=Nat.mul_le_mul h1 (Nat.mul_le_mul_right 2 h3)
    have h8:2 ^ (l.wt - 1) * (2 ^ (r.wt - 1) * 2)=2 ^ (l.wt + r.wt - 1):=by
      rw [← Nat.pow_succ,← Nat.pow_add];congr 1;omega
    show (nz (foldP op (cP op l) (cP op r))).length≤2 ^ (l.wt + r.wt - 1)
    omega
theorem l1_nil:l1 ([]:D α)=0:=rfl
theorem l1_cons (p:α×Int) (d:D α):l1 (p :: d)=p.2.natAbs + l1 d:=by simp [l1]
theorem l1_append (d e:D α):l1 (d++e)=l1 d + l1 e:=by simp [l1]
theorem l1_filter (f:α×Int→Bool):∀ d:D α,l1 (d.filter f)≤l1 d
  | []=>Nat.le_refl _
  | p :: r=>by
    have ih:=l1_filter f r
    rw [List.filter_cons,l1_cons]
    split
    · rw [l1_cons];omega
    · omega
theorem mem_l1 {d:D α} {p:α×Int} (h:p∈d):p.2.natAbs≤l1 d:=by
  induction d with
  | nil=>simp at h
  | cons y r ih =>
    rw [l1_cons]
    rcases List.mem_cons.mp h with e | h
    · rw [← e];omega
    · have:=ih h;omega
theorem val_l1 (d:D α) (w:α):(val d w).natAbs≤l1 d:=by
  cases q:look d w with
  | none=>unfold val;rw [q];simp
  | some c=>unfold val;rw [q];exact mem_l1 (mem_of_look q)
theorem map_not {w:α} {c:Int}:∀ {r:D α},w ∉ keys r→(r.map fun p=>if p.1=w then (p.1,c) else p)=r
  | [],_=>rfl
  | q :: r,h=>by
    have hq:¬ q.1=w:=fun e=>h (List.mem_map.mpr ⟨q,List.mem_cons_self ..,e⟩)
    rw [List.map_cons,if_neg hq,map_not fun m=>h (List.mem_cons_of_mem _ m)]
theorem l1_map {w:α} {c:Int}:∀ {d:D α},(keys d).Nodup→l1 (d.map fun p=>if p.1=w then (p.1,c) else p)≤l1 d - (val d w).natAbs + c.natAbs
  | [],_=>by simp [l1]
  | p :: r,h=>by
    have h:(p.1 :: keys r).Nodup:=h
    obtain ⟨h1,h2⟩:=List.nodup_cons.mp h
    rw [List.map_cons,l1_cons,l1_cons]
    by_cases e:p.1=w
    · rw [if_pos e,map_not (by rw [← e];exact h1)]
      have:val (p :: r) w=p.2:=by unfold val;rw [look_pos e];rfl
      rw [this];dsimp only;omega
    · rw [if_neg e]
      have ih:=l1_map (w:=w) (c:=c) h2
      have:val (p :: r) w=val r w:=by unfold val;rw [look_neg e]
      rw [this]
      have hv:=val_l1 r w
      omega
theorem l1_put {d:D α} (h:(keys d).Nodup) (w:α) (c:Int):l1 (put d w c)≤l1 d - (val d w).natAbs + c.natAbs:=by
  unfold put
  split
  · exact l1_map h
  · rename_i a
    have hw:look d w=none:=by
      rw [look_any] at a
      cases q:look d w with
      | none=>rfl
      | some y=>rw [q] at a;exact (a rfl).elim
    rw [l1_append,l1_cons,l1_nil]
    unfold val;rw [hw];simp
theorem l1_add {d:D α} (h:(keys d).Nodup) (w:α) (c:Int):l1 (add d w c)≤l1 d + c.natAbs:=by
  have h1:=l1_put h w (val d w + c)
  have h2:=val_l1 d w
  unfold add
  have h3:(val d w + c).natAbs≤(val d w).natAbs + c.natAbs:=Int.natAbs_add_le _ _
  omega
theorem l1_foldP (a b:D α):l1 (foldP op a b)≤l1 a * (l1 b * 2):=by
  have inner:∀ (p:α×Int) (b:D α) (d:D α),(keys d).Nodup→(keys (b.foldl (stepP op p) d)).Nodup∧l1 (b.foldl (stepP op p) d)≤l1 d + p.2.natAbs * (l1 b * 2):=by
    intro p b
    induction b with
    | nil=>intro d h;exact ⟨h,by simp⟩
    | cons q r ih =>
      intro d h
      rw [List.foldl_cons]
      have n1:(keys (stepP op p d q)).Nodup:=nd_add (nd_add h _ _) _ _
      obtain ⟨i1,i2⟩:=ih (stepP op p d q) n1
      refine ⟨i1,?_⟩
      have e1:l1 (stepP op p d q)≤l1 d + (p.2 * q.2).natAbs + (p.2 * q.2).natAbs:=by
        unfold stepP
        have h1:=l1_add (nd_add h (op p.1 q.1) (p.2 * q.2)) (op q.1 p.1) (-(p.2 * q.2))
        have h2:=l1_add h (op p.1 q.1) (p.2 * q.2)
        rw [Int.natAbs_neg] at h1
        omega
      rw [Int.natAbs_mul] at e1
      rw [l1_cons]
      have e2:p.2.natAbs * ((q.2.natAbs + l1 r) * 2)=p.2.natAbs * q.2.natAbs + p.2.natAbs * q.2.natAbs + p.2.natAbs * (l1 r * 2):=by
        rw [Nat.add_mul,Nat.mul_add,Nat.mul_two,Nat.mul_add]
      omega
  have outer:∀ (a d:D α),(keys d).Nodup→l1 (a.foldl (fun d p=>b.foldl (stepP op p) d) d)≤l1 d + l1 a * (l1 b * 2):=by
    intro a
    induction a with
    | nil=>intro d h;simp [l1_nil]
    | cons p r ih =>
      intro d h
      rw [List.foldl_cons]
      obtain ⟨i1,i2⟩:=inner p b d h
      have:=ih _ i1
      rw [l1_cons,Nat.add_mul]
      omega
  have:=outer a [] List.nodup_nil
  simpa [foldP,l1_nil] using this
theorem l1_cP:∀ b:Br α,l1 (cP op b)≤2 ^ (b.wt - 1)
  | .leaf x=>by simp [cP,Br.wt,l1]
  | .node l r=>by
    have h1:=l1_cP l
    have h3:=l1_cP r
    have h2:=(len_cP (op:=op) l).2
    have h4:=(len_cP (op:=op) r).2
    have h5:=l1_foldP (op:=op) (cP op l) (cP op r)
    have h6:l1 (nz (foldP op (cP op l) (cP op r)))≤l1 (foldP op (cP op l) (cP op r)):=by rw [nz_eq (nd_foldP _ _)];exact l1_filter _ _
    have h7:l1 (cP op l) * (l1 (cP op r) * 2)≤2 ^ (l.wt - 1) * (2 ^ (r.wt - 1) * 2):=Nat.mul_le_mul h1 (Nat.mul_le_mul_right 2 h3)
    have h8:2 ^ (l.wt - 1) * (2 ^ (r.wt - 1) * 2)=2 ^ (l.wt + r.wt - 1):=by
      rw [← Nat.pow_succ,← Nat.pow_add];congr 1;omega
    show l1 (nz (foldP op (cP op l) (cP op r)))≤2 ^ (l.wt + r.wt - 1)
    omega
theorem abs_cP {b:Br α} {p:α×Int} (h:p∈cP op b):p.2.natAbs≤2 ^ (b.wt - 1):=Nat.le_trans (mem_l1 h) (l1_cP b)
end Wm
end
section
namespace L2
open PySem PySem.Spec PyProof.Rows
noncomputable abbrev Key:=Sum Int Str
noncomputable def keyIs:Key→Value→Bool
  | .inl k,v=>Value.isInt k v
  | .inr x,v=>Value.isStrOf x v
noncomputable def keyH (w:World):Key→Int
  | .inl k=>hashInt k
  | .inr x=>hashStr w x
theorem keyIs_shape:∀ {k:Key} {v:Value},keyIs k v=true→(∃ i t,k=Sum.inl i∧v=Value.int i t)∨(∃ x t,k=Sum.inr x∧v=Value.str x t)
  | .inl i,v,h=>by
    obtain ⟨t,e⟩:=Value.isInt_shape (k:=i) (v:=v) h
    exact .inl ⟨i,t,rfl,e⟩
  | .inr x,v,h=>by
    obtain ⟨t,e⟩:=Value.isStrOf_shape (x:=x) (v:=v) h
    exact .inr ⟨x,t,rfl,e⟩
theorem keyIs_int (i:Int) (t:Tok):keyIs (.inl i) (.int i t)=true:=by simp [keyIs,Value.isInt]
theorem keyIs_str (x:Str) (t:Tok):keyIs (.inr x) (.str x t)=true:=by simp [keyIs,Value.isStrOf]
theorem key_ll (a b:Int):decide ((Sum.inl a:Key)=Sum.inl b)=(a == b):=by
  by_cases e:a=b
  · subst e;simp
  · have h:¬ (Sum.inl a:Key)=Sum.inl b:=fun q=>e (Sum.inl.inj q)
    rw [decide_eq_false h]
    exact (beq_eq_false_iff_ne.mpr e).symm
theorem key_rr (a b:Str):decide ((Sum.inr a:Key)=Sum.inr b)=decide (a=b):=by
  by_cases e:a=b
  · subst e;simp
  · have h:¬ (Sum.inr a:Key)=Sum.inr b:=fun q=>e (Sum.inr.inj q)
    rw [decide_eq_false h,decide_eq_false e]
theorem key_lr (a:Int) (b:Str):decide ((Sum.inl a:Key)=Sum.inr b)=false:=decide_eq_false (fun q=>nomatch q)
theorem key_rl (a:Str) (b:Int):decide ((Sum.inr a:Key)=Sum.inl b)=false:=decide_eq_false (fun q=>nomatch q)
noncomputable def mixKind (prog:Program) (w:World):PySem.KeyKind prog w Key where
  is:=keyIs
  hash:=keyH w
  inj:=fun v a b ha hb=>by
    rcases keyIs_shape ha with ⟨i,t,rfl,rfl⟩ | ⟨x,t,rfl,rfl⟩
    · rcases keyIs_shape hb with ⟨j,u,rfl,e⟩ | ⟨y,u,rfl,e⟩
      · injection e with e1 _;rw [e1]
      · exact nomatch e
    · rcases keyIs_shape hb with ⟨j,u,rfl,e⟩ | ⟨y,u,rfl,e⟩
      · exact nomatch e
      · injection e with e1 _;rw [e1]
  byValue:=fun k v h=>by
    rcases keyIs_shape h with ⟨i,t,rfl,rfl⟩ | ⟨x,t,rfl,rfl⟩ <;> rfl
  pyHash:=fun hv h=>by
    rcases keyIs_shape hv with ⟨i,t,rfl,rfl⟩ | ⟨x,t,rfl,rfl⟩
    · exact wpAny_pyHash_int h
    · exact wpAny_pyHash_str h
  eqBool:=fun hu hv h=>by
    rcases keyIs_shape hu with ⟨i,t,rfl,rfl⟩ | ⟨x,t,rfl,rfl⟩
    · rcases keyIs_shape hv with ⟨j,u,rfl,rfl⟩ | ⟨y,u,rfl,rfl⟩
      · rw [key_ll] at h;exact wpAny_eqBool_int h
      · rw [key_lr] at h;exact SeqAt.EqAt.int_str i t y u _ _ _ _ h
    · rcases keyIs_shape hv with ⟨j,u,rfl,rfl⟩ | ⟨y,u,rfl,rfl⟩
      · rw [key_rl] at h;exact SeqAt.EqAt.str_int x t j u _ _ _ _ h
      · rw [key_rr] at h;exact wpAny_eqBool_str h
  «strs»:=fun k x t v h=>by
    rcases keyIs_shape h with ⟨i,u,rfl,e⟩ | ⟨y,u,rfl,e⟩
    · exact nomatch e
    · injection e with e1 _
      subst e1
      cases v <;> rfl
theorem mixKind_int (prog:Program) (w:World) (i:Int) (t:Tok):(mixKind prog w).is (.inl i) (.int i t)=true:=keyIs_int i t
theorem mixKind_str (prog:Program) (w:World) (x:Str) (t:Tok):(mixKind prog w).is (.inr x) (.str x t)=true:=keyIs_str x t
end L2
namespace L2
open PySem PySem.Spec PyProof.Rows
inductive V where
  | non | bl (b:Bool) | int (i:Int) | str (x:Str) | byt (b:Array UInt8) | flt (b:UInt64) | ref (a:Addr) | ty (n:String)
  deriving DecidableEq
noncomputable def RelV:V→Value→Prop
  | .non,u=>u=Value.none
  | .bl b,u=>u=Value.bool b
  | .int i,u=>∃ t,u=Value.int i t
  | .str x,u=>∃ t,u=Value.str x t
  | .byt b,u=>∃ t,u=Value.bytes b t
  | .flt b,u=>∃ t,u=Value.float b t
  | .ref a,u=>u=Value.ref a
  | .ty n,u=>u=Value.type n
noncomputable abbrev Vals:List V→List Value→Prop:=Paired RelV
theorem Vals.length {xs:List V} {us:List Value} (r:Vals xs us):xs.length=us.length:=Paired.length r
theorem Vals.get:∀ {xs:List V} {us:List Value} {i:Nat} {x:V},Vals xs us→xs[i]? = some x→∃ u,us[i]? = some u∧RelV x u
  | _,_,_,_,.nil,e=>by simp at e
  | _,_,0,_,.cons r _,e=>by simp at e;subst e;exact ⟨_,rfl,r⟩
  | _,_,i + 1,x,.cons _ t,e=>by
    obtain ⟨u,h1,h2⟩:=Vals.get (i:=i) (x:=x) t (by simpa using e)
    exact ⟨u,by simpa using h1,h2⟩
theorem Vals.set {x:V} {u:Value} (r:RelV x u):∀ {xs:List V} {us:List Value} (i:Nat),Vals xs us→Vals (xs.set i x) (us.set i u)
  | _,_,_,.nil=>.nil
  | _,_,0,.cons _ t=>.cons r t
  | _,_,i + 1,.cons q t=>.cons q (Vals.set r i t)
theorem Vals.append:∀ {xs ys:List V} {us ws:List Value},Vals xs us→Vals ys ws→Vals (xs++ys) (us++ws)
  | _,_,_,_,.nil,s=>s
  | _,_,_,_,.cons r t,s=>.cons r (Vals.append t s)
theorem Vals.take:∀ {xs:List V} {us:List Value} (n:Nat),Vals xs us→Vals (xs.take n) (us.take n)
  | _,_,0,_=>.nil
  | _,_,_ + 1,.nil=>.nil
  | _,_,n + 1,.cons r t=>.cons r (Vals.take n t)
noncomputable def RelO:Option V→Option Value→Prop
  | some v,some u=>RelV v u
  | none,none=>True
  | _,_=>False
noncomputable def KV {κ:Type}:List (κ×V)→List (κ×Value)→Prop:=Paired fun (p:κ×V) (q:κ×Value)=>p.1=q.1∧RelV p.2 q.2
noncomputable def kV:Key→V
  | .inl i=>.int i
  | .inr x=>.str x
inductive HO where
  | lst (xs:List V)
  | tup (xs:List V)
  | dK (kvs:List (Key×V)) | dT (kvs:List (List Key×V))
  | set (S:Int→Bool) (n:Nat)
  | ins (C dx:Addr) (fs:List (Str×V))
  | own (x:Addr)
  | xd (fs:List (Str×V))
  | met (f x:Addr)
  | rng (lo hi:Int)
  | frz (o:Obj) (u:HO)
  | tbl (ps:Array Value)
  | ext (φ:Heap→Prop)
noncomputable abbrev Hp:=Addr→Option HO
noncomputable def upd (H:Hp) (a:Addr) (o:HO):Hp:=fun b=>if b=a then some o else H b
theorem upd_same {H:Hp} {a:Addr} {o:HO}:upd H a o a=some o:=by unfold upd;rw [if_pos rfl]
theorem upd_ne {H:Hp} {a b:Addr} {o:HO} (h:b≠a):upd H a o b=H b:=by unfold upd;rw [if_neg h]
theorem ne_of {H:Hp} {a b:Addr} {o u:HO} (h:H a=some o) (h':H b=some u) (d:o≠u):a≠b:=by
  intro e;subst e;rw [h] at h';exact d (Option.some.inj h')
theorem ne_of_none {H:Hp} {a b:Addr} {o:HO} (h:H a=some o) (h':H b=none):a≠b:=by
  intro e;subst e;rw [h] at h';cases h'
section
variable (P:Program) (w:World)
noncomputable def ObjOk (H:Hp) (h:Heap) (a:Addr):HO→Prop
  | .lst xs=>xs.length≤sizeLine∧∃ (its:List Value) (n:Nat),Vals xs its∧h.get? a=some { cls:=.type "list",data:=.seq its.toArray n }
  | .tup xs=>xs.length≤sizeLine∧∃ its:List Value,Vals xs its∧IsTup h a its.toArray
  | .dK kvs=>kvs.length≤sizeLine∧(a == sysModules)=false∧∃ vs,KV kvs vs∧h.DictOf (mixKind P w) a vs
  | .dT kvs=>kvs.length≤sizeLine∧(a == sysModules)=false∧∃ xs:List (List Key×Addr×Value),
      Paired (fun (p:List Key×V) (q:List Key×Addr×Value)=>p.1=q.1∧H q.2.1=some (.tup (p.1.map kV))∧RelV p.2 q.2.2) kvs xs ∧
      ∃ o es ep,h.get? a=some o∧o.ExactDict∧o.data = .dict es ep∧es.toList=xs.map (entryOfKey (tupleKind (mixKind P w)))∧(xs.map (·.1)).Nodup
  | .set S n=>h.SetOf (intKind P w) a S n
  | .ins C dx fs=>H dx=some (.own a)∧fs.length≤1000∧dx≠a∧h.get? a=some (PySem.W.instObj C dx) ∧
      ∃ mA,h.Ns1 dx mA∧(∀ f,RelO (fs.lookup f) (mA f))∧PySem.Within mA (fs.map (·.1))
  | .own _=>∃ o,h.get? a=some o
  | .xd fs=>∃ mA,h.Ns1 a mA∧∀ f,RelO (fs.lookup f) (mA f)
  | .rng lo hi=>∃ t u v,h.get? a=some { cls:=.type "range",data:=.fields #[.int lo t,.int hi u,.int 1 v] }
  | .frz o u=>h.get? a=some o∧ObjOk H h a u
  | .tbl ps=>h.get? a=some { cls:=.none,data:=.fields ps }
  | .met f x=>h.get? a=some (PySem.W.methodObj (.ref f) (.ref x))
  | .ext φ=>φ h∧(∃ o,h.get? a=some o)∧∀ h1 h2:Heap,φ h1→(∀ o,h1.get? a=some o→h2.get? a=some o)→φ h2
noncomputable def HOk (H:Hp) (h:Heap):Prop:=∀ a o,H a=some o→ObjOk P w H h a o
end
section
variable {P:Program} {w:World} {H H':Hp} {h h':Heap} {a:Addr} {o:HO}
theorem ObjOk.lt (x:ObjOk P w H h a o):a < h.objs.size:=by
  cases o with
  | lst xs=>obtain ⟨_,_,_,_,e⟩:=x;exact Heap.lt_size e
  | tup xs=>obtain ⟨_,_,_,p⟩:=x;exact p.lt
  | dK kvs=>obtain ⟨_,_,_,_,o,_,_,e,_⟩:=x;exact Heap.lt_size e
  | dT kvs=>obtain ⟨_,_,_,_,o,_,_,e,_⟩:=x;exact Heap.lt_size e
  | set S n=>obtain ⟨o,_,_,_,e,_⟩:=x;exact Heap.lt_size e
  | ins C dx fs=>obtain ⟨_,_,_,e,_⟩:=x;exact Heap.lt_size e
  | own y=>obtain ⟨_,e⟩:=x;exact Heap.lt_size e
  | xd fs=>obtain ⟨_,⟨_,_,_,e,_⟩,_⟩:=x;exact Heap.lt_size e
  | rng lo hi=>obtain ⟨_,_,_,e⟩:=x;exact Heap.lt_size e
  | frz ob u=>obtain ⟨e,_⟩:=x;exact Heap.lt_size e
  | tbl ps=>exact Heap.lt_size (show h.get? a=some _ from x)
  | met f y=>exact Heap.lt_size (show h.get? a=some _ from x)
  | ext φ=>obtain ⟨_,⟨_,e⟩,_⟩:=x;exact Heap.lt_size e
theorem Paired.mapP {α β:Type} {F G:α→β→Prop}:∀ {l₁:List α} {l₂:List β},Paired F l₁ l₂→(∀ a b,F a b→G a b)→Paired G l₁ l₂
  | _,_,.nil,_=>.nil
  | _,_,.cons r t,f=>.cons (f _ _ r) (Paired.mapP t f)
theorem ObjOk.stay (x:ObjOk P w H h a o) (k:∀ b u,(b=a∨H b=some (.own a))→h.get? b=some u→h'.get? b=some u)
    (ho:∀ b,H b=some (.own a)→H' b=some (.own a)) (ht:∀ b xs,H b=some (.tup xs)→H' b=some (.tup xs)):ObjOk P w H' h' a o:=by
  induction o with
  | lst xs=>obtain ⟨z,its,n,r,e⟩:=x;exact ⟨z,its,n,r,k _ _ (.inl rfl) e⟩
  | tup xs=>obtain ⟨z,its,r,ob,e,c⟩:=x;exact ⟨z,its,r,ob,k _ _ (.inl rfl) e,c⟩
  | dK kvs=>obtain ⟨z,y,vs,r,ob,es,ep,e,c⟩:=x;exact ⟨z,y,vs,r,ob,es,ep,k _ _ (.inl rfl) e,c⟩
  | dT kvs =>
    obtain ⟨z,y,xs,r,ob,es,ep,e,c⟩:=x
    exact ⟨z,y,xs,Paired.mapP r fun p q z=>⟨z.1,ht _ _ z.2.1,z.2.2⟩,ob,es,ep,k _ _ (.inl rfl) e,c⟩
  | set S n=>obtain ⟨ob,es,ep,t,e,c⟩:=x;exact ⟨ob,es,ep,t,k _ _ (.inl rfl) e,c⟩
  | ins C dx fs =>
    obtain ⟨d,z,ne,e,mA,⟨od,es,ep,e2,c⟩,r⟩:=x
    exact ⟨ho _ d,z,ne,k _ _ (.inl rfl) e,mA,⟨od,es,ep,k _ _ (.inr d) e2,c⟩,r⟩
  | own y=>obtain ⟨ob,e⟩:=x;exact ⟨ob,k _ _ (.inl rfl) e⟩
  | xd fs=>obtain ⟨mA,⟨od,es,ep,e,c⟩,r⟩:=x;exact ⟨mA,⟨od,es,ep,k _ _ (.inl rfl) e,c⟩,r⟩
  | rng lo hi=>obtain ⟨t,u,v,e⟩:=x;exact ⟨t,u,v,k _ _ (.inl rfl) e⟩
  | frz ob u ih=>obtain ⟨e,q⟩:=x;exact ⟨k _ _ (.inl rfl) e,ih q⟩
  | tbl ps =>
    have e:h.get? a=some { cls:=.none,data:=.fields ps }:=x
    show h'.get? a=some { cls:=.none,data:=.fields ps }
    exact k a _ (.inl rfl) e
  | met f y =>
    have e:h.get? a=some (PySem.W.methodObj (.ref f) (.ref y)):=x
    show h'.get? a=some (PySem.W.methodObj (.ref f) (.ref y))
    exact k a _ (.inl rfl) e
  | ext φ=>obtain ⟨p,⟨o,e⟩,st⟩:=x;exact ⟨st _ _ p fun o q=>k _ _ (.inl rfl) q,⟨o,k _ _ (.inl rfl) e⟩,st⟩
theorem HOk.lt (x:HOk P w H h) (e:H a=some o):a < h.objs.size:=(x a o e).lt
theorem HOk.fresh (x:HOk P w H h) (e:h.objs.size≤a):H a=none:=by
  cases q:H a with
  | none=>rfl
  | some u=>exact absurd (Nat.lt_of_lt_of_le (x.lt q) e) (Nat.lt_irrefl _)
theorem HOk.kept (x:HOk P w H h) (k:∀ b u,h.get? b=some u→h'.get? b=some u):HOk P w H h':=fun a o e =>
  (x a o e).stay (fun b u _ q=>k b u q) (fun _ q=>q) fun _ _ q=>q
theorem HOk.laid (x:HOk P w H h) (k:∀ b u,h.get? b=some u→h'.get? b=some u) (hp:h.objs.size≤a) (new:ObjOk P w (upd H a o) h' a o):HOk P w (upd H a o) h':=fun b u e=>by
  have hn:=x.fresh hp
  by_cases hb:b=a
  · subst hb;rw [upd_same] at e;cases e;exact new
  · rw [upd_ne hb] at e
    exact (x b u e).stay (fun c v _ q=>k c v q) (fun c q=>by rw [upd_ne (ne_of_none q hn)];exact q) fun c xs q=>by rw [upd_ne (ne_of_none q hn)];exact q
end
noncomputable def Rd (H:Hp) (a:Addr) (u:HO):Prop:=H a=some u∨∃ o,H a=some (.frz o u)
theorem Rd.ok {P:Program} {w:World} {H:Hp} {h:Heap} {a:Addr} {u:HO} (r:Rd H a u) (x:HOk P w H h):ObjOk P w H h a u:=by
  rcases r with r | ⟨o,r⟩
  · exact x a u r
  · obtain ⟨_,q⟩:=x a _ r
    exact q
noncomputable def Mut:Option HO→Prop
  | some (.lst _)=>True
  | some (.dK _)=>True
  | some (.dT _)=>True
  | some (.set _ _)=>True
  | some (.ins _ _ _)=>True
  | some (.ext _)=>True
  | _=>False
section
variable {P:Program} {w:World} {H:Hp} {h h':Heap} {x e:Addr} {o':HO}
theorem HOk.write (ok:HOk P w H h) (mu:Mut (H x)) (he:e=x∨H e=some (.own x)) (k:∀ b u,b≠e→h.get? b=some u→h'.get? b=some u) (heo:∃ u,h'.get? e=some u)
    (new:ObjOk P w (upd H x o') h' x o'):HOk P w (upd H x o') h':=fun b u q=>by
  have nown:∀ c y,H c=some (.own y)→c≠x:=fun c y r z=>by subst z;rw [r] at mu;exact mu
  have ntup:∀ c xs,H c=some (.tup xs)→c≠x:=fun c xs r z=>by subst z;rw [r] at mu;exact mu
  by_cases hb:b=x
  · subst hb;rw [upd_same] at q;cases q;exact new
  · rw [upd_ne hb] at q
    by_cases hbe:b=e
    · have q':H b=some (.own x):=by
        rcases he with z | z
        · exact absurd (hbe.trans z) hb
        · rw [hbe];exact z
      rw [q] at q';cases q'
      obtain ⟨v,hv⟩:=heo
      exact ⟨v,by rw [hbe];exact hv⟩
    · refine (ok b u q).stay (fun c v hc r=>k c v ?_ r) (fun c r=>by rw [upd_ne (nown c b r)];exact r) fun c xs r=>by rw [upd_ne (ntup c xs r)];exact r
      rcases hc with rfl | hc
      · exact hbe
      · rintro rfl
        rcases he with z | z
        · exact nown c b hc z
        · rw [hc] at z;cases z;exact hb rfl
end
structure Un (fs ex:List Addr) (H H':Hp) (h h':Heap):Prop where
  keep:∀ b o,h.get? b=some o→H b=none→b ∉ fs→b ∉ ex→h'.get? b=some o
  slot:∀ b o,h.get? b=some o→H b=none→b∈fs→b ∉ ex→∃ sl,h'.get? b=some { o with slots:=sl }
  free:∀ b o,h.get? b=some o→H b=none→b ∉ ex→H' b=none
  there:∀ b o,h.get? b=some o→b ∉ ex→∃ o',h'.get? b=some o'
  tups:∀ b xs,H b=some (.tup xs)→H' b=some (.tup xs)
  frzs:∀ b o u,H b=some (.frz o u)→H' b=some (.frz o u)
  tbls:∀ b ps,H b=some (.tbl ps)→∃ more,H' b=some (.tbl (ps++more))
section
variable {fs fs' ex ex':List Addr} {H H1 H2:Hp} {h h1 h2 h':Heap} {a x e:Addr} {o:HO}
theorem Un.any (u:Un fs ex H H1 h h1) {b:Addr} {ob:Obj} (q:h.get? b=some ob) (n:H b=none) (hx:b ∉ ex):∃ sl,h1.get? b=some { ob with slots:=sl }:=by
  by_cases hb:b∈fs
  · exact u.slot b ob q n hb hx
  · exact ⟨ob.slots,u.keep b ob q n hb hx⟩
theorem Un.trans (a:Un fs ex H H1 h h1) (b:Un fs ex H1 H2 h1 h2):Un fs ex H H2 h h2 where
  keep:=fun c ob q n hc hx=>b.keep c ob (a.keep c ob q n hc hx) (a.free c ob q n hx) hc hx
  slot:=fun c ob q n hc hx=>by
    obtain ⟨sl,e1⟩:=a.slot c ob q n hc hx
    obtain ⟨sl',e2⟩:=b.slot c _ e1 (a.free c ob q n hx) hc hx
    exact ⟨sl',e2⟩
  free:=fun c ob q n hx=>by
    obtain ⟨o',e1⟩:=a.there c ob q hx
    exact b.free c o' e1 (a.free c ob q n hx) hx
  there:=fun c ob q hx=>by
    obtain ⟨o',e1⟩:=a.there c ob q hx
    exact b.there c o' e1 hx
  tups:=fun c xs q=>b.tups c xs (a.tups c xs q)
  frzs:=fun c ob xs q=>b.frzs c ob xs (a.frzs c ob xs q)
  tbls:=fun c ps q=>by
    obtain ⟨m1,e1⟩:=a.tbls c ps q
    obtain ⟨m2,e2⟩:=b.tbls c _ e1
    exact ⟨m1++m2,by rw [e2,Array.append_assoc]⟩
theorem Un.kept (k:∀ b u,h.get? b=some u→h'.get? b=some u):Un fs ex H H h h' :=
  ⟨fun b ob q _ _ _=>k b ob q,fun b ob q _ _ _=>⟨ob.slots,k b ob q⟩,fun _ _ _ n _=>n,fun b ob q _=>⟨ob,k b ob q⟩,fun _ _ q=>q,fun _ _ _ q=>q,fun _ ps q=>⟨#[],by rw [q];simp⟩⟩
theorem Un.refl:Un fs ex H H h h:=Un.kept fun _ _ q=>q
theorem Un.laid (k:∀ b u,h.get? b=some u→h'.get? b=some u) (hp:h.objs.size≤a) (hn:H a=none):Un fs ex H (upd H a o) h h' where
  keep:=fun b u q _ _ _=>k b u q
  slot:=fun b u q _ _ _=>⟨u.slots,k b u q⟩
  free:=fun b u q n _=>by rw [upd_ne (Nat.ne_of_lt (Nat.lt_of_lt_of_le (Heap.lt_size q) hp))];exact n
  there:=fun b u q _=>⟨u,k b u q⟩
  tups:=fun b xs q=>by rw [upd_ne (ne_of_none q hn)];exact q
  frzs:=fun b u xs q=>by rw [upd_ne (ne_of_none q hn)];exact q
  tbls:=fun b ps q=>⟨#[],by rw [upd_ne (ne_of_none q hn),q];simp⟩
theorem Un.write (mu:Mut (H x)) (he:e=x∨H e=some (.own x)) (k:∀ b u,b≠e→h.get? b=some u→h'.get? b=some u) (heo:∃ u,h'.get? e=some u):Un fs ex H (upd H x o) h h':=by
  have hx:∀ b,H b=none→b≠x:=fun b n z=>by subst z;rw [n] at mu;exact mu
  have hb:∀ b,H b=none→b≠e:=fun b n z=>by
    subst z
    rcases he with r | r
    · exact hx b n r
    · rw [n] at r;cases r
  have hm:∀ b u,H b=some u→¬ Mut (some u)→b≠x:=fun b u q nm z=>by subst z;rw [q] at mu;exact nm mu
  refine ⟨fun b u q n _ _=>k b u (hb b n) q,fun b u q n _ _=>⟨u.slots,k b u (hb b n) q⟩,fun b u q n _=>by rw [upd_ne (hx b n)];exact n,fun b u q _=>?_,
    fun b xs q=>by rw [upd_ne (hm b _ q fun z=>z)];exact q,fun b u xs q=>by rw [upd_ne (hm b _ q fun z=>z)];exact q,fun b ps q=>⟨#[],by rw [upd_ne (hm b _ q fun z=>z),q];simp⟩⟩
  by_cases hbe:b=e
  · subst hbe;exact heo
  · exact ⟨u,k b u hbe q⟩
end
noncomputable def trk (h:Heap) (H:Hp):List Addr:=(List.range h.objs.size).filter fun a=>(H a).isSome
noncomputable def hidT (h:Heap) (H:Hp):Heap:=PySem.W.hideAll h (trk h H)
theorem hidT_size (h:Heap) (H:Hp):(hidT h H).objs.size=h.objs.size:=PySem.W.hideAll_size _ _
theorem hidT_get {h:Heap} {H:Hp} {b:Addr} {o:Obj} (e:h.get? b=some o) (n:H b=none):(hidT h H).get? b=some o :=
  PySem.W.hideAll_get _ e fun hm=>by
    have q:(H b).isSome=true:=(List.mem_filter.mp hm).2
    rw [n] at q;simp at q
theorem of_hidT {h:Heap} {H:Hp} {b:Addr} {o:Obj} (e:(hidT h H).get? b=some o):h.get? b=some o∧H b=none:=by
  have e':h.get? b=some o:=PySem.W.of_hideAll (trk h H) e
  refine ⟨e',?_⟩
  cases q:H b with
  | none=>rfl
  | some x =>
    have hm:b∈trk h H:=List.mem_filter.mpr ⟨List.mem_range.mpr (Heap.lt_size e'),by simp [q]⟩
    have z:(hidT h H).get? b=none:=PySem.W.hideAll_none (trk h H) hm
    rw [z] at e;cases e
noncomputable def allNews (g h:Heap) (L:Addr):List (Addr×Obj):=(List.range h.objs.size).filterMap fun a=>if a=L∨(g.get? a).isSome=true then none else (h.get? a).map fun o=>(a,o)
noncomputable def rest (g h:Heap) (L d:Addr):List (Addr×Obj):=(allNews g h L).filter fun p=>decide (p.1≠d)
end L2
namespace L2
open PySem PySem.Spec PyProof.Rows
structure Mod (K:PySem.W.Frag) (mg:Str→Option Value) (base:Heap):Prop where
  kin:K.In base
  glob:base.Ns mainGlobals mg
  blt:∃ mb,base.Ns builtinsNs mb∧∀ x:Str,x≠"__name__"→mb x=bootBuiltins x
  nolimit:base.NoLimit
structure Cx where
  prog:Program
  w:World
  K:PySem.W.Frag
  mg:Str→Option Value
  base:Heap
  A:Around
  N:List Str
  s₀:Shared
  H₀:Hp
  env:Env
  outer:List Env
  stack:List Env
  ex:List Addr
  fn:Str→Bool
  calm:Bool
  pn:List (Addr×Obj)
  xe:Value→Shared→Prop
noncomputable def frs (l:List Env):List Addr:=l.filterMap (·.frame)
noncomputable abbrev Cx.fs (X:Cx):List Addr:=frs X.outer
noncomputable def Vis (sc:Scope) (x:Str):Prop:=sc.names.lookup x=some .local∨sc.names.lookup x=some .cell∨sc.names.lookup x=some .free
noncomputable def Loc (sc:Scope) (x:Str):Prop:=sc.names.lookup x=some .local∨sc.names.lookup x=some .cell
noncomputable def Look (env:Env) (h:Heap) (m:Str→Option Value) (x:Str) (u:Value):Prop :=
  (env.kindOf x=some .local∧m x=some u)∨((env.kindOf x=some .cell∨env.kindOf x=some .free)∧∃ c,env.cells.lookup x=some c∧h.IsCell c (some u))
structure Cx.Ok (X:Cx):Prop where
  mod:Mod X.K X.mg X.base
  kind:X.env.scope.kind = .function
  glob:X.env.globals=mainGlobals
  blt:X.env.builtins=builtinsNs
  above:X.s₀.heap.objs.size≤X.env.locals
  inj:∀ x y c,X.env.cells.lookup x=some c→X.env.cells.lookup y=some c→x=y
  has:∀ x,(X.env.kindOf x=some .cell∨X.env.kindOf x=some .free)→∃ c,X.env.cells.lookup x=some c
  cab:∀ x c,X.fn x=true→X.env.cells.lookup x=some c→X.s₀.heap.objs.size≤c
  hd:X.calm=true→X.A.handled=none
  frames:X.A.frames=some X.stack
  stk:X.stack=X.outer∨(X.stack=X.env :: X.outer∧X.env.frame=some X.env.locals)
  exf:∀ b∈X.ex,b≠X.env.locals∧∀ x c,X.env.cells.lookup x=some c→c≠b
  bs:∀ b o,X.base.get? b=some o→X.s₀.heap.get? b=some o∧X.H₀ b=none
  bsz:X.base.objs.size≤X.s₀.heap.objs.size
  noex:∀ b o,X.base.get? b=some o→b ∉ X.ex
  exfs:∀ b∈X.ex,b ∉ X.fs
  funs:X.s₀.heap.FunFrames X.base X.outer
  frf:∀ b∈X.fs,X.H₀ b=none
structure Inv (X:Cx) (pins:List (Addr×Obj)) (σ:List (Option V)) (H:Hp) (s:Shared):Prop where
  ok:X.Ok
  os:s.os=X.s₀.os
  bare:AllBare s.gens
  base:Un X.fs X.ex X.H₀ H X.s₀.heap s.heap
  loc:∃ m,s.heap.Ns X.env.locals m∧∀ (i:Nat) (x:Str) (v:V),X.N[i]? = some x→σ[i]? = some (some v)→Vis X.env.scope x→∃ u,RelV v u∧Look X.env s.heap m x u
  cell:∀ x c,X.env.cells.lookup x=some c→∃ v,s.heap.IsCell c v
  free:H X.env.locals=none
  freeC:∀ x c,X.env.cells.lookup x=some c→H c=none
  pin:∀ p∈X.pn++pins,s.heap.get? p.1=some p.2∧H p.1=none∧p.1≠X.env.locals∧p.1 ∉ X.fs∧∀ v,p.2.data≠.cell v
  hok:HOk X.prog X.w H s.heap
  len:σ.length=X.N.length
section
variable {X:Cx} {pins:List (Addr×Obj)} {σ:List (Option V)} {H H':Hp} {s:Shared} {h':Heap}
theorem Cx.Ok.nofr (ok:X.Ok) {b:Addr} {o:Obj} (e:X.base.get? b=some o):b ∉ X.fs:=fun hb=>by
  have:=(ok.funs.mem hb).1
  rw [e] at this;cases this
theorem Inv.bs (I:Inv X pins σ H s):∀ b o,X.base.get? b=some o→s.heap.get? b=some o∧H b=none:=fun b o e =>
  ⟨I.base.keep b o (I.ok.bs b o e).1 (I.ok.bs b o e).2 (I.ok.nofr e) (I.ok.noex b o e),I.base.free b o (I.ok.bs b o e).1 (I.ok.bs b o e).2 (I.ok.noex b o e)⟩
theorem Inv.bk (I:Inv X pins σ H s):∀ b o,X.base.get? b=some o→s.heap.get? b=some o:=fun b o e=>(I.bs b o e).1
theorem Inv.mod (I:Inv X pins σ H s):Mod X.K X.mg X.base:=I.ok.mod
theorem Inv.kIn (I:Inv X pins σ H s):X.K.In s.heap:=I.ok.mod.kin.keeps I.bk
theorem Inv.lt (I:Inv X pins σ H s):X.env.locals < s.heap.objs.size:=let ⟨_,hn,_⟩:=I.loc;hn.lt
theorem Inv.sz (I:Inv X pins σ H s):X.s₀.heap.objs.size≤s.heap.objs.size:=Nat.le_trans I.ok.above (Nat.le_of_lt I.lt)
theorem Inv.nofs (I:Inv X pins σ H s) {a:Addr} (h:s.heap.objs.size≤a):a ∉ X.fs:=fun hb=>by
  obtain ⟨_,o,ho,_⟩:=I.ok.funs.mem hb
  exact absurd (Nat.lt_of_lt_of_le (Heap.lt_size ho) (Nat.le_trans I.sz h)) (Nat.lt_irrefl _)
theorem Inv.cne (I:Inv X pins σ H s):∀ x c,X.env.cells.lookup x=some c→c≠X.env.locals:=fun x c e z=>by
  obtain ⟨v,o,ho,hd⟩:=I.cell x c e
  obtain ⟨m,⟨o',es,ep,ho',hd',_⟩,_⟩:=I.loc
  rw [z,ho'] at ho;cases ho;rw [hd'] at hd;cases hd
theorem Inv.funs (I:Inv X pins σ H s):s.heap.FunFrames X.base X.outer:=by
  have all:∀ (l:List Env),(∀ b∈frs l,b∈X.fs)→X.s₀.heap.FunFrames X.base l→s.heap.FunFrames X.base l:=by
    intro l
    induction l with
    | nil=>intro _ _;trivial
    | cons env r ih =>
      intro hs hl
      obtain ⟨hk,⟨L,o,hf,hn,ho,hd⟩,hr⟩:=hl
      have hL:L∈X.fs:=hs L (by unfold frs;rw [List.filterMap_cons,hf];exact List.mem_cons_self)
      obtain ⟨sl,e⟩:=I.base.slot L o ho (I.ok.frf L hL) hL fun z=>I.ok.exfs L z hL
      exact ⟨hk,⟨L,_,hf,hn,e,hd⟩,ih (fun b hb=>hs b (by unfold frs;rw [List.filterMap_cons,hf];exact List.mem_cons_of_mem _ hb)) hr⟩
  exact all X.outer (fun _ hb=>hb) I.ok.funs
theorem Inv.stack (I:Inv X pins σ H s):s.heap.FunFrames X.base X.stack:=by
  rcases I.ok.stk with e | ⟨e,hf⟩
  · rw [e];exact I.funs
  · rw [e]
    obtain ⟨m,hn,_⟩:=I.loc
    refine .cons (by rw [I.ok.kind];decide) hf hn ?_ I.funs
    exact Heap.get?_none_of_le (Nat.le_trans I.ok.bsz I.ok.above)
theorem Inv.stkSub (I:Inv X pins σ H s):∀ b∈frs X.stack,b∈X.env.locals :: X.fs:=fun b hb=>by
  rcases I.ok.stk with e | ⟨e,hf⟩
  · rw [e] at hb;exact List.mem_cons_of_mem _ hb
  · rw [e] at hb
    unfold frs at hb
    rw [List.filterMap_cons,hf] at hb
    exact hb
theorem Inv.stkFree (I:Inv X pins σ H s):∀ b∈frs X.stack,H b=none:=fun b hb=>by
  rcases List.mem_cons.mp (I.stkSub b hb) with e | hb
  · rw [e];exact I.free
  · obtain ⟨_,o,ho,_⟩:=I.ok.funs.mem hb
    exact I.base.free b o ho (I.ok.frf b hb) fun z=>I.ok.exfs b z hb
theorem Inv.step {g':Array GenState} {t':Nat} {d':Drawn} {ch:List Addr} (I:Inv X pins σ H s)
    (hch:∀ b∈ch,(b∈X.ex∨X.s₀.heap.objs.size≤b)∧b≠X.env.locals∧(∀ x c,X.env.cells.lookup x=some c→c≠b)∧∀ p∈X.pn++pins,p.1≠b)
    (keep:∀ b o,b≠X.env.locals→b ∉ X.fs→b ∉ ch→s.heap.get? b=some o→H b=none→h'.get? b=some o)
    (slot:∀ b o,b≠X.env.locals→b∈X.fs→b ∉ ch→s.heap.get? b=some o→H b=none→∃ sl,h'.get? b=some { o with slots:=sl }) (free:∀ b o,b ∉ ch→s.heap.get? b=some o→H b=none→H' b=none)
    (there:∀ b o,b ∉ ch→s.heap.get? b=some o→∃ o',h'.get? b=some o')
    (tups:∀ b xs,H b=some (.tup xs)→H' b=some (.tup xs)) (frzs:∀ b o u,H b=some (.frz o u)→H' b=some (.frz o u)) (tbls:∀ b ps,H b=some (.tbl ps)→∃ more,H' b=some (.tbl (ps++more)))
    (ns:∀ m,s.heap.Ns X.env.locals m→h'.Ns X.env.locals m) (hok:HOk X.prog X.w H' h') (hg:AllBare g') :
    Inv X pins σ H' { s with heap:=h',gens:=g',drawn:=d',toks:=t' }:=by
  have neL:∀ b o,X.s₀.heap.get? b=some o→b≠X.env.locals:=fun b o e=>Nat.ne_of_lt (Nat.lt_of_lt_of_le (Heap.lt_size e) I.ok.above)
  have neC:∀ b o,X.s₀.heap.get? b=some o→b ∉ X.ex→b ∉ ch:=fun b o e hx hb=>by
    rcases (hch b hb).1 with z | z
    · exact hx z
    · exact absurd (Nat.lt_of_lt_of_le (Heap.lt_size e) z) (Nat.lt_irrefl _)
  have cellK:∀ x c,X.env.cells.lookup x=some c→∀ v,s.heap.IsCell c v→h'.IsCell c v:=fun x c e v ⟨o,ho,hd⟩=>by
    have nch:c ∉ ch:=fun z=>(hch c z).2.2.1 x c e rfl
    by_cases hc:c∈X.fs
    · obtain ⟨sl,q⟩:=slot c o (I.cne x c e) hc nch ho (I.freeC x c e)
      exact ⟨_,q,hd⟩
    · exact ⟨o,keep c o (I.cne x c e) hc nch ho (I.freeC x c e),hd⟩
  refine ⟨I.ok,I.os,hg,⟨fun b o e n hb hx=>?_,fun b o e n hb hx=>?_,fun b o e n hx=>?_,fun b o e hx=>?_,fun b xs e=>tups b xs (I.base.tups b xs e),fun b o xs e=>frzs b o xs (I.base.frzs b o xs e),fun b ps e=>?_⟩,?_,fun x c e=>?_,?_,fun x c e=>?_,fun p hp=>?_,hok,I.len⟩
  · exact keep b o (neL b o e) hb (neC b o e hx) (I.base.keep b o e n hb hx) (I.base.free b o e n hx)
  · obtain ⟨sl,e1⟩:=I.base.slot b o e n hb hx
    obtain ⟨sl',e2⟩:=slot b _ (neL b o e) hb (neC b o e hx) e1 (I.base.free b o e n hx)
    exact ⟨sl',e2⟩
  · obtain ⟨o',e1⟩:=I.base.there b o e hx
    exact free b o' (neC b o e hx) e1 (I.base.free b o e n hx)
  · obtain ⟨o',e1⟩:=I.base.there b o e hx
    exact there b o' (neC b o e hx) e1
  · obtain ⟨m1,e1⟩:=I.base.tbls b ps e
    obtain ⟨m2,e2⟩:=tbls b _ e1
    exact ⟨m1++m2,by rw [e2,Array.append_assoc]⟩
  · obtain ⟨m,hn,hl⟩:=I.loc
    refine ⟨m,ns m hn,fun i x v e1 e2 e3=>?_⟩
    obtain ⟨u,r,l⟩:=hl i x v e1 e2 e3
    refine ⟨u,r,?_⟩
    rcases l with l | ⟨k,c,e,z⟩
    · exact .inl l
    · exact .inr ⟨k,c,e,cellK x c e _ z⟩
  · obtain ⟨v,z⟩:=I.cell x c e
    exact ⟨v,cellK x c e v z⟩
  · obtain ⟨m,⟨o,_,_,ho,_⟩,_⟩:=I.loc
    exact free _ o (fun z=>(hch _ z).2.1 rfl) ho I.free
  · obtain ⟨v,o,ho,hd⟩:=I.cell x c e
    exact free c o (fun z=>(hch c z).2.2.1 x c e rfl) ho (I.freeC x c e)
  · obtain ⟨e,n,ne,nf,d⟩:=I.pin p hp
    have nch:p.1 ∉ ch:=fun z=>(hch p.1 z).2.2.2 p hp rfl
    exact ⟨keep p.1 p.2 ne nf nch e n,free p.1 p.2 nch e n,ne,nf,d⟩
theorem Inv.un {t':Nat} (I:Inv X pins σ H s) (u:Un X.fs [] H H' s.heap h') (hok:HOk X.prog X.w H' h'):Inv X pins σ H' { s with heap:=h',toks:=t' }:=by
  obtain ⟨m,⟨o,es,ep,ho,r⟩,_⟩:=id I.loc
  obtain ⟨sl,hL⟩:=u.any ho I.free (by simp)
  exact I.step (g':=s.gens) (d':=s.drawn) (ch:=[]) (fun _ z=>nomatch z) (fun b o _ hb _ e n=>u.keep b o e n hb (by simp)) (fun b o _ hb _ e n=>u.slot b o e n hb (by simp)) (fun b o _ e n=>u.free b o e n (by simp)) (fun b o _ e=>u.there b o e (by simp)) u.tups u.frzs u.tbls (fun m' hm=>by
    obtain ⟨o',es',ep',ho',r'⟩:=hm
    rw [ho] at ho';cases ho'
    exact ⟨_,es',ep',hL,r'⟩) hok I.bare
theorem Inv.call {g':Array GenState} {t':Nat} {d':Drawn} {ch:List Addr} (I:Inv X pins σ H s) (u:Un (frs X.stack) ch H H' s.heap h') (hok:HOk X.prog X.w H' h') (hg:AllBare g')
    (hch:∀ b∈ch,(b∈X.ex∨X.s₀.heap.objs.size≤b)∧b≠X.env.locals∧(∀ x c,X.env.cells.lookup x=some c→c≠b)∧∀ p∈X.pn++pins,p.1≠b) :
    Inv X pins σ H' { s with heap:=h',gens:=g',drawn:=d',toks:=t' }:=by
  obtain ⟨m,⟨o,es,ep,ho,r⟩,_⟩:=id I.loc
  obtain ⟨sl,hL⟩:=u.any ho I.free fun z=>(hch _ z).2.1 rfl
  exact I.step (ch:=ch) hch (fun b o hL hb hc e n=>u.keep b o e n (fun z=>(List.mem_cons.mp (I.stkSub b z)).elim hL hb) hc) (fun b o _ _ hc e n=>u.any e n hc) (fun b o hc e n=>u.free b o e n hc) (fun b o hc e=>u.there b o e hc) u.tups u.frzs u.tbls (fun m' hm=>by
    obtain ⟨o',es',ep',ho',r'⟩:=hm
    rw [ho] at ho';cases ho'
    exact ⟨_,es',ep',hL,r'⟩) hok hg
theorem Inv.turned {t':Nat} {it:Addr} (I:Inv X pins σ H s) (k:∀ b o,b≠it→s.heap.get? b=some o→h'.get? b=some o) (hn:H it=none) (hL:it≠X.env.locals)
    (h1:it∈X.ex∨X.s₀.heap.objs.size≤it) (h2:∀ x c,X.env.cells.lookup x=some c→c≠it) (h3:∀ p∈X.pn++pins,p.1≠it):Inv X pins σ H { s with heap:=h',toks:=t' }:=by
  have nit:∀ b u,H b=some u→b≠it:=fun b u e z=>by rw [z,hn] at e;cases e
  refine I.step (g':=s.gens) (d':=s.drawn) (ch:=[it]) (fun b hb=>?_) (fun b o _ _ hc e _=>k b o (fun z=>hc (by simp [z])) e) (fun b o _ _ hc e _=>⟨o.slots,k b o (fun z=>hc (by simp [z])) e⟩) (fun _ _ _ _ n=>n)
    (fun b o hc e=>⟨o,k b o (fun z=>hc (by simp [z])) e⟩) (fun _ _ e=>e) (fun _ _ _ e=>e) (fun b ps e=>⟨#[],by rw [e];simp⟩) (fun m hm=>?_) (fun b u e=>?_) I.bare
  · have e:b=it:=by simpa using hb
    subst e
    exact ⟨h1,hL,h2,h3⟩
  · obtain ⟨o,es,ep,ho,r⟩:=hm
    exact ⟨o,es,ep,k _ o (Ne.symm hL) ho,r⟩
  · refine (I.hok b u e).stay (fun c v hc q=>k c v ?_ q) (fun _ q=>q) fun _ _ q=>q
    rcases hc with z | z
    · rw [z];exact nit b u e
    · exact nit c _ z
theorem Inv.tok (I:Inv X pins σ H s) (t:Nat):Inv X pins σ H { s with toks:=t }:=I.un (h':=s.heap) (t':=t) Un.refl I.hok
theorem Inv.kept {t':Nat} (I:Inv X pins σ H s) (k:∀ b u,s.heap.get? b=some u→h'.get? b=some u):Inv X pins σ H { s with heap:=h',toks:=t' }:=I.un (Un.kept k) (I.hok.kept k)
theorem Inv.laid {a:Addr} {o:HO} {t':Nat} (I:Inv X pins σ H s) (k:∀ b u,s.heap.get? b=some u→h'.get? b=some u) (hp:s.heap.objs.size≤a) (new:ObjOk X.prog X.w (upd H a o) h' a o) :
    Inv X pins σ (upd H a o) { s with heap:=h',toks:=t' }:=I.un (Un.laid k hp (I.hok.fresh hp)) (I.hok.laid k hp new)
theorem Inv.write {x e:Addr} {o:HO} {t':Nat} (I:Inv X pins σ H s) (mu:Mut (H x)) (he:e=x∨H e=some (.own x)) (k:∀ b u,b≠e→s.heap.get? b=some u→h'.get? b=some u) (heo:∃ u,h'.get? e=some u)
    (new:ObjOk X.prog X.w (upd H x o) h' x o):Inv X pins σ (upd H x o) { s with heap:=h',toks:=t' }:=I.un (Un.write mu he k heo) (I.hok.write mu he k heo new)
theorem Inv.pins_of {pins':List (Addr×Obj)} (I:Inv X pins σ H s) (h:∀ p∈pins',s.heap.get? p.1=some p.2∧H p.1=none∧p.1≠X.env.locals∧p.1 ∉ X.fs∧∀ v,p.2.data≠.cell v):Inv X pins' σ H s :=
  ⟨I.ok,I.os,I.bare,I.base,I.loc,I.cell,I.free,I.freeC,fun p hp=>(List.mem_append.mp hp).elim (fun z=>I.pin p (List.mem_append_left _ z)) (h p),I.hok,I.len⟩
theorem nodup_ix {N:List Str} (hN:N.Nodup) {i j:Nat} {x:Str} (a:N[i]? = some x) (b:N[j]? = some x):i=j:=by
  obtain ⟨h1,e1⟩:=List.getElem?_eq_some_iff.mp a
  obtain ⟨h2,e2⟩:=List.getElem?_eq_some_iff.mp b
  exact (List.getElem_inj hN).mp (e1.trans e2.symm)
theorem store_ok2 {M:Model} {A:Around} {E:Value→Shared→Prop} {i:Nat} {x:Str} {v:V} {u:Value} {Q:Unit→Shared→Prop} (I:Inv X pins σ H s) (hN:X.N.Nodup) (hi:X.N[i]? = some x) (hx:Loc X.env.scope x) (r:RelV v u)
    (h:∀ s',Inv X pins (σ.set i (some v)) H s'→(∃ a,Heap.SameBut a s.heap s'.heap∧(a=X.env.locals∨X.env.cells.lookup x=some a))→Q () s') (hf:X.fn x=true∨X.env.scope.names.lookup x=some .local:=by first | exact .inl rfl | exact .inr rfl | assumption):wpAny M A (storeName X.env x u) Q E s:=by
  obtain ⟨m,hn,hl⟩:=id I.loc
  have hcls:(X.env.scope.kind == .class || (X.env.scope.kind == .module && X.env.locals != X.env.globals))=false:=by rw [I.ok.kind];rfl
  have hiσ:i < σ.length:=by rw [I.len];exact (List.getElem?_eq_some_iff.mp hi).1
  have cne:=I.cne
  have tracked:∀ {a:Addr} {h':Heap},(∃ o,s.heap.get? a=some o∧H a=none)→Heap.SameBut a s.heap h'→HOk X.prog X.w H h':=fun {a h'} ha hs b ob e=>by
    obtain ⟨_,_,hfree⟩:=ha
    refine (I.hok b ob e).stay (fun c w' hc q=>(hs.2 c ?_).trans q) (fun _ q=>q) fun _ _ q=>q
    rintro rfl
    rcases hc with rfl | hc
    · rw [hfree] at e;cases e
    · rw [hfree] at hc;cases hc
  rcases hx with hk | hk
  · refine wpAny_storeName_local hk hn (fun h' hn' hs=>?_) hcls
    obtain ⟨oL,_,_,hoL,_⟩:=id hn
    refine h _ ⟨I.ok,I.os,I.bare,⟨fun b o e n hb hx=>?_,fun b o e n hb hx=>?_,I.base.free,fun b o e hx=>?_,I.base.tups,I.base.frzs,I.base.tbls⟩,⟨_,hn',fun j y v' e1 e2 e3=>?_⟩,fun y c e=>?_,I.free,I.freeC,fun p hp=>?_,tracked ⟨oL,hoL,I.free⟩ hs,by simpa using I.len⟩ ⟨_,hs,.inl rfl⟩
    · exact (hs.2 b (Nat.ne_of_lt (Nat.lt_of_lt_of_le (Heap.lt_size e) I.ok.above))).trans (I.base.keep b o e n hb hx)
    · obtain ⟨sl,e1⟩:=I.base.slot b o e n hb hx
      exact ⟨sl,(hs.2 b (Nat.ne_of_lt (Nat.lt_of_lt_of_le (Heap.lt_size e) I.ok.above))).trans e1⟩
    · obtain ⟨o',e1⟩:=I.base.there b o e hx
      exact ⟨o',(hs.2 b (Nat.ne_of_lt (Nat.lt_of_lt_of_le (Heap.lt_size e) I.ok.above))).trans e1⟩
    · by_cases hj:j=i
      · subst hj
        rw [hi] at e1;cases e1
        rw [List.getElem?_set_self hiσ] at e2
        cases e2
        exact ⟨u,r,.inl ⟨hk,by simp⟩⟩
      · rw [List.getElem?_set_ne (Ne.symm hj)] at e2
        obtain ⟨u',r',q⟩:=hl j y v' e1 e2 e3
        refine ⟨u',r',?_⟩
        rcases q with ⟨k,e⟩ | ⟨k,c,e,z⟩
        · refine .inl ⟨k,?_⟩
          have:y≠x:=fun e=>hj (nodup_ix hN e1 (e ▸ hi))
          simp [this,e]
        · exact .inr ⟨k,c,e,z.sameBut hs (cne y c e)⟩
    · obtain ⟨w',z⟩:=I.cell y c e
      exact ⟨w',z.sameBut hs (cne y c e)⟩
    · obtain ⟨e,n,ne,nf,d⟩:=I.pin p hp
      exact ⟨(hs.2 p.1 ne).trans e,n,ne,nf,d⟩
  · have hfn:X.fn x=true:=by
      rcases hf with z | z
      · exact z
      · rw [z] at hk;cases hk
    obtain ⟨c,hc⟩:=I.ok.has x (.inl hk)
    obtain ⟨w',z⟩:=I.cell x c hc
    refine wpAny_storeName_cell I.ok.kind hk hc z (fun h' hc' hs=>?_)
    obtain ⟨oc,hoc,hocd⟩:=id z
    refine h { s with heap:=h' } ⟨I.ok,I.os,I.bare,⟨fun b o e n hb hx=>?_,fun b o e n hb hx=>?_,I.base.free,fun b o e hx=>?_,I.base.tups,I.base.frzs,I.base.tbls⟩,⟨m,hn.sameBut hs (Ne.symm (cne x c hc)),fun j y v' e1 e2 e3=>?_⟩,fun y c' e=>?_,I.free,I.freeC,fun p hp=>?_,tracked ⟨oc,hoc,I.freeC x c hc⟩ hs,by simpa using I.len⟩ ⟨c,hs,.inr hc⟩
    · exact (hs.2 b (Nat.ne_of_lt (Nat.lt_of_lt_of_le (Heap.lt_size e) (I.ok.cab x c hfn hc)))).trans (I.base.keep b o e n hb hx)
    · obtain ⟨sl,e1⟩:=I.base.slot b o e n hb hx
      exact ⟨sl,(hs.2 b (Nat.ne_of_lt (Nat.lt_of_lt_of_le (Heap.lt_size e) (I.ok.cab x c hfn hc)))).trans e1⟩
    · obtain ⟨o',e1⟩:=I.base.there b o e hx
      exact ⟨o',(hs.2 b (Nat.ne_of_lt (Nat.lt_of_lt_of_le (Heap.lt_size e) (I.ok.cab x c hfn hc)))).trans e1⟩
    · by_cases hj:j=i
      · subst hj
        rw [hi] at e1;cases e1
        rw [List.getElem?_set_self hiσ] at e2
        cases e2
        exact ⟨u,r,.inr ⟨.inl hk,c,hc,hc'⟩⟩
      · rw [List.getElem?_set_ne (Ne.symm hj)] at e2
        obtain ⟨u',r',q⟩:=hl j y v' e1 e2 e3
        refine ⟨u',r',?_⟩
        rcases q with q | ⟨k,c',e,z'⟩
        · exact .inl q
        · refine .inr ⟨k,c',e,z'.sameBut hs ?_⟩
          rintro rfl
          exact hj (nodup_ix hN e1 (I.ok.inj _ _ _ e hc ▸ hi))
    · by_cases hcc:c'=c
      · subst hcc;exact ⟨_,hc'⟩
      · obtain ⟨w2,z2⟩:=I.cell y c' e
        exact ⟨w2,z2.sameBut hs hcc⟩
    · obtain ⟨e,n,ne,nf,d⟩:=I.pin p hp
      refine ⟨(hs.2 p.1 ?_).trans e,n,ne,nf,d⟩
      intro q
      rw [q,hoc] at e
      have q':oc=p.2:=Option.some.inj e
      exact d w' (by rw [← q'];exact hocd)
theorem store_ok {M:Model} {A:Around} {E:Value→Shared→Prop} {i:Nat} {x:Str} {v:V} {u:Value} {Q:Unit→Shared→Prop} (I:Inv X pins σ H s) (hN:X.N.Nodup) (hi:X.N[i]? = some x) (hx:Loc X.env.scope x) (r:RelV v u)
    (h:∀ s',Inv X pins (σ.set i (some v)) H s'→Q () s') (hf:X.fn x=true∨X.env.scope.names.lookup x=some .local:=by first | exact .inl rfl | exact .inr rfl | assumption):wpAny M A (storeName X.env x u) Q E s :=
  store_ok2 I hN hi hx r (fun s' I' _=>h s' I') hf
theorem Inv.call' {s':Shared} {ch:List Addr} (I:Inv X pins σ H s) (ho:s'.os=s.os) (u:Un (frs X.stack) ch H H' s.heap s'.heap) (hok:HOk X.prog X.w H' s'.heap) (hg:AllBare s'.gens)
    (hch:∀ b∈ch,(b∈X.ex∨X.s₀.heap.objs.size≤b)∧b≠X.env.locals∧(∀ x c,X.env.cells.lookup x=some c→c≠b)∧∀ p∈X.pn++pins,p.1≠b):Inv X pins σ H' s':=by
  obtain ⟨h',g',d',t',o'⟩:=s'
  have e:o'=s.os:=ho
  subst e
  exact I.call (g':=g') (t':=t') (d':=d') u hok hg hch
end
noncomputable abbrev XK:=Value→Option Addr→Hp→Prop
noncomputable abbrev St:=List (Option V)
noncomputable abbrev VK:=V→Hp→Prop
noncomputable abbrev TE:=St→Hp→VK→Prop
noncomputable abbrev TT:=St→Hp→(Bool→Hp→Prop)→Prop
noncomputable abbrev TA:=St→Hp→(List V→Hp→Prop)→Prop
structure Ends where
  nx:St→Hp→Prop
  rt:VK
  bk:St→Hp→Prop:=fun _ _=>False
  ct:St→Hp→Prop:=fun _ _=>False
noncomputable abbrev TS:=Ends→St→Hp→Prop
noncomputable def EP (X:Cx) (pins:List (Addr×Obj)) (σ:St) (Q:VK) (u:Value) (s':Shared):Prop:=∃ v H',Inv X pins σ H' s'∧RelV v u∧Q v H'
noncomputable def TP (X:Cx) (pins:List (Addr×Obj)) (σ:St) (Q:Bool→Hp→Prop) (b:Bool) (s':Shared):Prop:=∃ H',Inv X pins σ H' s'∧Q b H'
noncomputable def AP (X:Cx) (pins:List (Addr×Obj)) (σ:St) (Q:List V→Hp→Prop) (us:List Value) (s':Shared):Prop:=∃ vs H',Inv X pins σ H' s'∧Vals vs us∧Q vs H'
noncomputable def SP (X:Cx) (pins:List (Addr×Obj)) (D:Ends) (f:Flow) (s':Shared):Prop :=
  match f with
  | .next=>∃ σ' H',Inv X pins σ' H' s'∧D.nx σ' H'
  | .brk=>∃ σ' H',Inv X pins σ' H' s'∧D.bk σ' H'
  | .cont=>∃ σ' H',Inv X pins σ' H' s'∧D.ct σ' H'
  | .ret u=>∃ v σ' H',Inv X pins σ' H' s'∧RelV v u∧D.rt v H'
noncomputable def PE (X:Cx) (e:Expr) (t:TE):Prop :=
  ∀ (pins:List (Addr×Obj)) (s:Shared) (σ:St) (H:Hp) (Q:VK),Inv X pins σ H s→t σ H Q→wpAny (model X.prog X.w) X.A (eval e X.env) (EP X pins σ Q) X.xe s
noncomputable def PT (X:Cx) (e:Expr) (t:TT):Prop :=
  ∀ (pins:List (Addr×Obj)) (s:Shared) (σ:St) (H:Hp) (Q:Bool→Hp→Prop),Inv X pins σ H s→t σ H Q→wpAny (model X.prog X.w) X.A (isTrue e X.env (eval e X.env)) (TP X pins σ Q) X.xe s
noncomputable def PW (X:Cx) (e:Expr) (t:TT):Prop :=
  ∀ (whole:Sem Value) (pins:List (Addr×Obj)) (s:Shared) (σ:St) (H:Hp) (Q:Bool→Hp→Prop),Inv X pins σ H s→t σ H Q→wpAny (model X.prog X.w) X.A (isTrue e X.env whole) (TP X pins σ Q) X.xe s
theorem PW.pt {X:Cx} {e:Expr} {t:TT} (h:PW X e t):PT X e t:=h _
noncomputable def PA (X:Cx) (es:List Expr) (t:TA):Prop :=
  ∀ (pos:Pos) (pins:List (Addr×Obj)) (s:Shared) (σ:St) (H:Hp) (Q:List V→Hp→Prop),Inv X pins σ H s→t σ H Q→wpAny (model X.prog X.w) X.A (spliced (backTo pos (starEach es X.env))) (AP X pins σ Q) X.xe s
noncomputable def PS (X:Cx) (st:Stmt) (t:TS):Prop :=
  ∀ (pins:List (Addr×Obj)) (s:Shared) (σ:St) (H:Hp) (D:Ends),Inv X pins σ H s→t D σ H→wpAny (model X.prog X.w) X.A (exec st X.env) (SP X pins D) X.xe s
noncomputable def PSs (X:Cx) (st:List Stmt) (t:TS):Prop :=
  ∀ (pins:List (Addr×Obj)) (s:Shared) (σ:St) (H:Hp) (D:Ends),Inv X pins σ H s→t D σ H→wpAny (model X.prog X.w) X.A (execs st X.env) (SP X pins D) X.xe s
theorem thn {α:Type} {t:Sem α} {Q Q':α→Shared→Prop} {M:Model} {A:Around} {E:Value→Shared→Prop} {s:Shared} (h:wpAny M A t Q E s) (hQ:∀ a s,Q a s→Q' a s):wpAny M A t Q' E s:=wpAny_mono h hQ fun _ _ x=>x
end L2
namespace L2
open PySem PySem.Spec PyProof.Rows
section
variable {X:Cx}
noncomputable def tVar (i:Nat):TE:=fun σ H Q=>∃ v,σ[i]? = some (some v)∧Q v H
noncomputable def tC (v:V):TE:=fun _ H Q=>Q v H
theorem pe_var {i:Nat} {x:Str} {pos:Pos} (hN:X.N[i]? = some x) (hv:Vis X.env.scope x) (hd:(x == ("__debug__":Str))=false:=by decide) (hcd:(x == ("__classdict__":Str))=false:=by decide):PE X (.Name x pos) (tVar i):=by
  intro pins s σ H Q I h
  obtain ⟨v,e,h⟩:=h
  obtain ⟨m,hn,hl⟩:=I.loc
  obtain ⟨u,r,l⟩:=hl i x v hN e hv
  have fin:EP X pins σ Q u s:=⟨v,H,I,r,h⟩
  rcases l with ⟨hk,hm⟩ | ⟨hk,c,hc,hcell⟩
  · exact wpAny_Name (wpAny_loadName_local I.ok.kind hk hn hm fin) hd
  · rcases hk with hk | hk
    · exact wpAny_Name (wpAny_loadName_cell I.ok.kind hk hc hcell fin) hd
    · exact wpAny_Name (wpAny_loadName_free I.ok.kind hk hc hcell fin hcd) hd
theorem pe_int {i j pos}:PE X (.Constant (.int i) j pos) (tC (.int i)):=fun _ _ _ H _ I h=>wpAny_Constant_int ⟨.int i,H,I.tok _,⟨_,rfl⟩,h⟩
theorem pe_bl {b j pos}:PE X (.Constant (.bool b) j pos) (tC (.bl b)):=fun _ _ _ H _ I h=>Constant_bool ⟨.bl b,H,I,rfl,h⟩
theorem pe_str {x j pos}:PE X (.Constant (.str x) j pos) (tC (.str x)):=fun _ _ _ H _ I h=>Calls.Constant_str ⟨.str x,H,I.tok _,⟨_,rfl⟩,h⟩
noncomputable def Gl (X:Cx) (x:Str):Prop:=X.env.kindOf x=some .globalImplicit
theorem ld_glob {E:Value→Shared→Prop} {pins:List (Addr×Obj)} {s:Shared} {σ:St} {H:Hp} {x:Str} {u:Value} {pos:Pos} {Q:Value→Shared→Prop} (I:Inv X pins σ H s) (hg:Gl X x) (hm:X.mg x=some u) (h:Q u s)
    (hd:(x == ("__debug__":Str))=false:=by decide):wpAny (model X.prog X.w) X.A (eval (.Name x pos) X.env) Q E s :=
  Calls.Name_function_global I.ok.kind hg (Calls.loadGlobal_global (by rw [I.ok.glob];exact I.mod.glob.keeps I.bk) hm h) hd
theorem ld_blt {E:Value→Shared→Prop} {pins:List (Addr×Obj)} {s:Shared} {σ:St} {H:Hp} {x:Str} {u:Value} {pos:Pos} {Q:Value→Shared→Prop} (I:Inv X pins σ H s) (hg:Gl X x) (hm:X.mg x=none) (hv:bootBuiltins x=some u) (h:Q u s)
    (hn:x≠"__name__":=by decide) (hd:(x == ("__debug__":Str))=false:=by decide):wpAny (model X.prog X.w) X.A (eval (.Name x pos) X.env) Q E s:=by
  obtain ⟨mb,h1,h2⟩:=I.mod.blt
  exact Calls.Name_function_global I.ok.kind hg (Calls.loadGlobal_builtin (by rw [I.ok.glob];exact I.mod.glob.keeps I.bk) hm (by rw [I.ok.blt];exact h1.keeps I.bk) ((h2 x hn).trans hv) h) hd
theorem pe_glob {x:Str} {v:V} {u:Value} {pos:Pos} (hg:Gl X x) (hm:X.mg x=some u) (r:RelV v u) (hd:(x == ("__debug__":Str))=false:=by decide):PE X (.Name x pos) (tC v) :=
  fun _ _ _ H _ I h=>ld_glob I hg hm ⟨v,H,I,r,h⟩ hd
theorem pe_bltn {x:Str} {v:V} {u:Value} {pos:Pos} (hg:Gl X x) (hm:X.mg x=none) (hv:bootBuiltins x=some u) (r:RelV v u) (hn:x≠"__name__":=by decide) (hd:(x == ("__debug__":Str))=false:=by decide):PE X (.Name x pos) (tC v) :=
  fun _ _ _ H _ I h=>ld_blt I hg hm hv ⟨v,H,I,r,h⟩ hn hd
variable {a b:Expr} {ta tb:TE} {pos:Pos}
noncomputable def tB (t:TE):TT:=fun σ H Q=>t σ H fun x H1=>∃ c,x = .bl c∧Q c H1
theorem pt_val {e:Expr} {t:TE} (h:PE X e t) (he:∀ whole,isTrue e X.env whole=(do let v ← whole;standAt e.pos;holding [v] (truthy v)):=by intro _;rfl):PT X e (tB t):=by
  intro pins s σ H Q I hw
  refine isTrue_plain (thn (h pins s σ H _ I hw) fun v s1 hpq=>?_) (he _)
  obtain ⟨x,H1,I1,r1,q1⟩:=hpq
  obtain ⟨d,rfl,q⟩:=q1
  cases r1
  exact wpAny_truthy_bool ⟨H1,I1,q⟩
variable {tA tB':TT} {rest:List Expr}
noncomputable def tAnd (t u:TT):TT:=fun σ H Q=>t σ H fun c H1=>if c=true then u σ H1 Q else Q false H1
noncomputable def tOr (t u:TT):TT:=fun σ H Q=>t σ H fun c H1=>if c=true then Q true H1 else u σ H1 Q
noncomputable def tNot (t:TT):TT:=fun σ H Q=>t σ H fun c H1=>Q (!c) H1
theorem pw_and1 (ha:PT X a tA):PW X (.BoolOp .And [a] pos) tA:=by
  intro wh pins s σ H Q I h
  refine isTrue_and (thn (ha pins s σ H Q I h) fun c s1 e=>?_)
  cases c with
  | true=>exact isTrue_and_nil e
  | false=>exact e
theorem pw_or1 (ha:PT X a tA):PW X (.BoolOp .Or [a] pos) tA:=by
  intro wh pins s σ H Q I h
  refine isTrue_or (thn (ha pins s σ H Q I h) fun c s1 e=>?_)
  cases c with
  | false=>exact isTrue_or_nil e
  | true=>exact e
theorem pw_and (ha:PT X a tA) (hb:PW X (.BoolOp .And (b :: rest) pos) tB'):PW X (.BoolOp .And (a :: b :: rest) pos) (tAnd tA tB'):=by
  intro wh pins s σ H Q I h
  refine isTrue_and (thn (ha pins s σ H _ I h) fun c s1 hpq=>?_)
  obtain ⟨H1,I1,q1⟩:=hpq
  cases c with
  | true=>exact hb wh pins s1 σ H1 Q I1 q1
  | false=>exact ⟨H1,I1,q1⟩
theorem pw_or (ha:PT X a tA) (hb:PW X (.BoolOp .Or (b :: rest) pos) tB'):PW X (.BoolOp .Or (a :: b :: rest) pos) (tOr tA tB'):=by
  intro wh pins s σ H Q I h
  refine isTrue_or (thn (ha pins s σ H _ I h) fun c s1 hpq=>?_)
  obtain ⟨H1,I1,q1⟩:=hpq
  cases c with
  | true=>exact ⟨H1,I1,q1⟩
  | false=>exact hb wh pins s1 σ H1 Q I1 q1
theorem pt_not (ha:PT X a tA):PT X (.UnaryOp .Not a pos) (tNot tA):=by
  intro pins s σ H Q I h
  exact isTrue_not (ha pins s σ H (fun c H1=>Q (!c) H1) I h)
noncomputable def tIf (t:TT) (ta tb:TE):TE:=fun σ H Q=>t σ H fun c H1=>if c=true then ta σ H1 Q else tb σ H1 Q
theorem pe_ifExp {c:Expr} (hc:PT X c tA) (ha:PE X a ta) (hb:PE X b tb):PE X (.IfExp c a b pos) (tIf tA ta tb):=by
  intro pins s σ H Q I h
  refine wpAny_IfExp (thn (hc pins s σ H _ I h) fun d s1 hpq=>?_)
  obtain ⟨H1,I1,q1⟩:=hpq
  cases d with
  | true=>exact ha pins s1 σ H1 Q I1 q1
  | false=>exact hb pins s1 σ H1 Q I1 q1
end
end L2
namespace L2
open PySem PySem.Spec PyProof.Rows
noncomputable def SqL (K:PySem.W.Frag) (H:Hp) (a:Addr) (xs:List V):Prop :=
  Rd H a (.lst xs) ∨
    ∃ (o:Obj) (its:Array Value) (n:Nat),K.lookup a=some o∧o.cls = .type "list"∧o.dict=none∧o.data = .seq its n∧its.size≤sizeLine∧Vals xs its.toList
noncomputable def SqT (K:PySem.W.Frag) (H:Hp) (a:Addr) (xs:List V):Prop :=
  Rd H a (.tup xs) ∨
    ∃ (o:Obj) (its:Array Value) (n:Nat),K.lookup a=some o∧o.cls = .type "tuple"∧o.data = .seq its n∧its.size≤sizeLine∧Vals xs its.toList
noncomputable def absV:Value→Option V
  | .none=>some .non
  | .bool b=>some (.bl b)
  | .int i _=>some (.int i)
  | .str x _=>some (.str x)
  | .bytes b _=>some (.byt b)
  | .float b _=>some (.flt b)
  | .ref a=>some (.ref a)
  | .type n=>some (.ty n)
  | _=>none
theorem RelV.abs {x:V} {u:Value} (r:RelV x u):absV u=some x:=by
  cases x with
  | non=>cases r;rfl
  | bl _=>cases r;rfl
  | int _=>obtain ⟨t,rfl⟩:=r;rfl
  | str _=>obtain ⟨t,rfl⟩:=r;rfl
  | byt _=>obtain ⟨t,rfl⟩:=r;rfl
  | flt _=>obtain ⟨t,rfl⟩:=r;rfl
  | ref _=>cases r;rfl
  | ty _=>cases r;rfl
theorem RelV.inj {x y:V} {u:Value} (r:RelV x u) (q:RelV y u):x=y:=Option.some.inj (r.abs.symm.trans q.abs)
theorem Vals.inj:∀ {xs ys:List V} {us:List Value},Vals xs us→Vals ys us→xs=ys
  | _,_,_,.nil,.nil=>rfl
  | _,_,_,.cons r t,.cons r' t'=>by rw [r.inj r',Vals.inj t t']
section
variable {X:Cx} {pins:List (Addr×Obj)} {σ:St} {H:Hp} {s:Shared} {a:Addr} {xs ys:List V}
theorem Inv.list (I:Inv X pins σ H s) (h:SqL X.K H a xs):∃ its:List Value,Vals xs its∧PlainL s.heap a its.toArray∧xs.length≤sizeLine:=by
  rcases h with h | ⟨o,its,n,hk,hc,hd,hs,hz,r⟩
  · obtain ⟨z,its,n,r,e⟩:=h.ok I.hok
    exact ⟨its,r,⟨_,n,e,rfl,rfl,rfl⟩,z⟩
  · refine ⟨its.toList,r,⟨o,n,I.kIn a o hk,hc,hd,by simpa using hs⟩,?_⟩
    have e:=r.length
    simp only [Array.length_toList] at e
    omega
theorem Inv.tuple (I:Inv X pins σ H s) (h:SqT X.K H a xs):∃ its:List Value,Vals xs its∧IsTup s.heap a its.toArray∧xs.length≤sizeLine:=by
  rcases h with h | ⟨o,its,n,hk,hc,hs,hz,r⟩
  · obtain ⟨z,its,r,p⟩:=h.ok I.hok
    exact ⟨its,r,p,z⟩
  · refine ⟨its.toList,r,⟨o,I.kIn a o hk,hc,n,by simpa using hs⟩,?_⟩
    have e:=r.length
    simp only [Array.length_toList] at e
    omega
theorem Inv.list_inj (I:Inv X pins σ H s) (h:SqL X.K H a xs) (h':SqL X.K H a ys):xs=ys:=by
  obtain ⟨its,r,⟨o,n,e,_,_,d⟩,_⟩:=I.list h
  obtain ⟨its',r',⟨o',n',e',_,_,d'⟩,_⟩:=I.list h'
  rw [e] at e';cases e'
  rw [d] at d'
  injection d' with d1 _
  have:its=its':=by simpa using congrArg Array.toList d1
  subst this
  exact r.inj r'
end
noncomputable abbrev Cx.wish (X:Cx) (E:Value→Shared→Prop):Cx:={ X with xe:=E }
noncomputable abbrev Cx.nox (X:Cx):Cx:=X.wish fun _ _=>False
theorem Cx.Ok.wish {X:Cx} (ok:X.Ok) (E:Value→Shared→Prop):(X.wish E).Ok :=
  ⟨ok.mod,ok.kind,ok.glob,ok.blt,ok.above,ok.inj,ok.has,ok.cab,ok.hd,ok.frames,ok.stk,ok.exf,ok.bs,ok.bsz,ok.noex,ok.exfs,ok.funs,ok.frf⟩
theorem Cx.Ok.unwish {X:Cx} {E:Value→Shared→Prop} (ok:(X.wish E).Ok):X.Ok :=
  ⟨ok.mod,ok.kind,ok.glob,ok.blt,ok.above,ok.inj,ok.has,ok.cab,ok.hd,ok.frames,ok.stk,ok.exf,ok.bs,ok.bsz,ok.noex,ok.exfs,ok.funs,ok.frf⟩
section
variable {X:Cx} {pins:List (Addr×Obj)} {σ:St} {H:Hp} {s:Shared} {E:Value→Shared→Prop}
theorem Inv.wish (I:Inv X pins σ H s) (E:Value→Shared→Prop):Inv (X.wish E) pins σ H s:=⟨I.ok.wish E,I.os,I.bare,I.base,I.loc,I.cell,I.free,I.freeC,I.pin,I.hok,I.len⟩
theorem Inv.unwish (I:Inv (X.wish E) pins σ H s):Inv X pins σ H s:=⟨I.ok.unwish,I.os,I.bare,I.base,I.loc,I.cell,I.free,I.freeC,I.pin,I.hok,I.len⟩
theorem SP.unwish {D:Ends} {f:Flow} {s':Shared} (h:SP (X.wish E) pins D f s'):SP X pins D f s':=by
  cases f with
  | next=>obtain ⟨σ',H',I,q⟩:=h;exact ⟨σ',H',I.unwish,q⟩
  | brk=>obtain ⟨σ',H',I,q⟩:=h;exact ⟨σ',H',I.unwish,q⟩
  | cont=>obtain ⟨σ',H',I,q⟩:=h;exact ⟨σ',H',I.unwish,q⟩
  | ret u=>obtain ⟨v,σ',H',I,r,q⟩:=h;exact ⟨v,σ',H',I.unwish,r,q⟩
theorem PSs.nox {st:List Stmt} {t:TS} (h:PSs X.nox st t):PSs X st t:=fun pins s σ H D I hw =>
  wpAny_mono (h pins s σ H D (I.wish _) hw) (fun _ _ q=>q.unwish) fun _ _ z=>False.elim z
end
section
variable {X:Cx} {st:Stmt} {rest:List Stmt} {t u:TS} {e:Expr} {te:TE} {pos:Pos}
noncomputable def tNext:TS:=fun D σ H=>D.nx σ H
noncomputable def tSeq (t u:TS):TS:=fun D σ H=>t { D with nx:=u D } σ H
theorem pss_nil:PSs X [] tNext:=fun _ _ σ H _ I h=>wpAny_execs_nil ⟨σ,H,I,h⟩
theorem pss_cons (h1:PS X st t) (h2:PSs X rest u):PSs X (st :: rest) (tSeq t u):=by
  intro pins s σ H D I h
  refine wpAny_execs_cons (thn (h1 pins s σ H { D with nx:=u D } I h) fun f s1 q=>?_)
  cases f with
  | next =>
    obtain ⟨σ',H',I',q⟩:=q
    exact h2 pins s1 σ' H' D I' q
  | ret v=>exact q
  | brk=>exact q
  | cont=>exact q
theorem pss_one (h1:PS X st t):PSs X [st] t:=by
  intro pins s σ H D I h
  refine wpAny_execs_cons (thn (h1 pins s σ H D I h) fun f s1 q=>?_)
  cases f with
  | next=>exact wpAny_execs_nil q
  | ret v=>exact q
  | brk=>exact q
  | cont=>exact q
theorem Inv.quiet {pins:List (Addr×Obj)} {σ:St} {H:Hp} {s:Shared} (I:Inv X pins σ H s):interactive X.env=false:=by simp [interactive,I.ok.kind]
noncomputable def tDrop (te:TE):TS:=fun D σ H=>te σ H fun _ H1=>D.nx σ H1
theorem ps_expr (he:PE X e te) (hs:swapsWith e none pos.line X.env=pure false:=by rfl):PS X (.Expr e pos) (tDrop te):=by
  intro pins s σ H D I h
  exact wpAny_Expr_any (thn (he pins s σ H _ I h) fun v s1 ⟨x,H1,I1,r1,q1⟩=>⟨σ,H1,I1,q1⟩) I.quiet hs
noncomputable def tRet (te:TE):TS:=fun D σ H=>te σ H D.rt
theorem ps_ret (he:PE X e te):PS X (.Return (some e) pos) (tRet te):=by
  intro pins s σ H D I h
  exact wpAny_Return_some (thn (he pins s σ H _ I h) fun v s1 ⟨x,H1,I1,r1,q1⟩=>⟨x,σ,H1,I1,r1,q1⟩)
noncomputable def tIfS (c:TT) (t u:TS):TS:=fun D σ H=>c σ H fun b H1=>if b=true then t D σ H1 else u D σ H1
theorem ps_if {c:Expr} {a b:List Stmt} {tc:TT} (hc:PT X c tc) (ha:PSs X a t) (hb:PSs X b u):PS X (.If c a b pos) (tIfS tc t u):=by
  intro pins s σ H D I h
  refine wpAny_If (thn (hc pins s σ H _ I h) fun d s1 hpq=>?_)
  obtain ⟨H1,I1,q1⟩:=hpq
  cases d with
  | true=>exact ha pins s1 σ H1 D I1 q1
  | false=>exact hb pins s1 σ H1 D I1 q1
end
noncomputable abbrev TG:=V→St→Hp→(St→Hp→Prop)→Prop
noncomputable abbrev TGs:=List V→St→Hp→(St→Hp→Prop)→Prop
noncomputable def PG (X:Cx) (target:Expr) (t:TG):Prop :=
  ∀ (pins:List (Addr×Obj)) (s:Shared) (σ:St) (H:Hp) (v:V) (u:Value) (Q:St→Hp→Prop),Inv X pins σ H s→RelV v u→t v σ H Q →
    wpAny (model X.prog X.w) X.A (assign target X.env u) (fun _ s'=>∃ σ' H',Inv X pins σ' H' s'∧Q σ' H') X.xe s
noncomputable def PGs (X:Cx) (ts:List Expr) (t:TGs):Prop :=
  ∀ (pins:List (Addr×Obj)) (s:Shared) (σ:St) (H:Hp) (vs:List V) (us:List Value) (Q:St→Hp→Prop),Inv X pins σ H s→Vals vs us→t vs σ H Q →
    wpAny (model X.prog X.w) X.A (assignInOrder ((assignEach ts X.env).map (·.2)) us) (fun _ s'=>∃ σ' H',Inv X pins σ' H' s'∧Q σ' H') X.xe s
section
variable {X:Cx} {pos:Pos}
noncomputable def gName (i:Nat):TG:=fun v σ H Q=>Q (σ.set i (some v)) H
theorem pg_name {i:Nat} {x:Str} (hN:X.N.Nodup) (hi:X.N[i]? = some x) (hx:Loc X.env.scope x) (hf:X.fn x=true∨X.env.scope.names.lookup x=some .local:=by first | exact .inl rfl | exact .inr rfl | assumption):PG X (.Name x pos) (gName i):=by
  intro pins s σ H v u Q I r h
  exact wpAny_assign_Name (store_ok I hN hi hx r (fun s' I'=>⟨_,H,I',h⟩) hf)
noncomputable def gNil:TGs:=fun vs σ H Q=>vs=[]∧Q σ H
noncomputable def gCons (t:TG) (u:TGs):TGs:=fun vs σ H Q=>∃ v r,vs=v :: r∧t v σ H fun σ' H'=>u r σ' H' Q
theorem pgs_nil:PGs X [] gNil:=by
  intro pins s σ H vs us Q I r h
  obtain ⟨e,h⟩:=h
  subst e
  cases r
  exact assignInOrder_nil ⟨σ,H,I,h⟩
theorem pgs_cons {e:Expr} {es:List Expr} {t:TG} {u:TGs} (h1:PG X e t) (h2:PGs X es u)
    (hs:(assignEach (e :: es) X.env).map (·.2)=assign e X.env :: (assignEach es X.env).map (·.2):=by rfl):PGs X (e :: es) (gCons t u):=by
  intro pins s σ H vs us Q I r h
  obtain ⟨v,vr,e1,h⟩:=h
  subst e1
  cases r with
  | cons r rr =>
    rw [hs]
    refine assignInOrder_cons (thn (h1 pins s σ H _ _ _ I r h) fun _ s1 hpq=>?_)
    obtain ⟨σ1,H1,I1,q1⟩:=hpq
    exact h2 pins s1 σ1 H1 _ _ Q I1 rr q1
noncomputable def gTup (K:PySem.W.Frag) (n:Nat) (t:TGs):TG:=fun v σ H Q=>∃ a xs,v = .ref a∧SqT K H a xs∧xs.length=n∧t xs σ H Q
theorem pg_tup {es:List Expr} {k:Nat} {t:TGs} {n:Nat} (hc:X.calm=true) (h:PGs X es t)
    (hn:(assignEach es X.env).length=n:=by rfl) (hst:(assignEach es X.env).findIdx? (·.1)=none:=by rfl):PG X (.Tuple es k pos) (gTup X.K n t):=by
  intro pins s σ H v u Q I r hw
  obtain ⟨a,xs,e1,hq,hl,hw⟩:=hw
  subst e1
  cases r
  obtain ⟨its,rv,ht,hz⟩:=I.tuple hq
  refine assign_Tuple_tuple (I.ok.hd hc) ht (by simp [hn,← hl,rv.length]) hst fun h' hx=>?_
  have I1:Inv X pins σ H { s with heap:=h' }:=I.kept (t':=s.toks) fun b o e=>hx b o (Nat.ne_of_lt (Heap.lt_size e)) e
  exact h pins _ σ H xs _ Q I1 (by simpa using rv) hw
noncomputable def tAsg (te:TE) (g:TG):TS:=fun D σ H=>te σ H fun x H1=>g x σ H1 D.nx
theorem ps_set {i:Nat} {x:Str} {e:Expr} {te:TE} {pos':Pos} (hN:X.N.Nodup) (hi:X.N[i]? = some x) (hx:Loc X.env.scope x) (he:PE X e te) (hs:swapsWith e (some (.Name x pos')) pos.line X.env=pure false:=by rfl) (hf:X.fn x=true∨X.env.scope.names.lookup x=some .local:=by first | exact .inl rfl | exact .inr rfl | assumption) :
    PS X (.Assign [.Name x pos'] e pos) (tAsg te (gName i)):=by
  intro pins s σ H D I h
  refine wpAny_Assign_Name (thn (he pins s σ H _ I h) fun v s1 hpq=>?_) hs
  obtain ⟨y,H1,I1,r1,q1⟩:=hpq
  exact store_ok I1 hN hi hx r1 (fun s2 I2=>⟨_,H1,I2,q1⟩) hf
end
section
variable {X:Cx} {pos:Pos}
noncomputable def tWhile (c:TT) (tb:TS):TS:=fun D σ H=>∃ W:Nat→St→Hp→Prop,(∃ m,W m σ H)∧∀ m σ H,W m σ H →
  c σ H fun b H1=>if b=true then ∃ N:St→Hp→Prop,(∀ σ' H',N σ' H'→∃ m',m' < m∧W m' σ' H')∧tb { D with nx:=N,ct:=N,bk:=D.nx } σ H1 else D.nx σ H1
theorem ps_while {c:Expr} {body:List Stmt} {tc:TT} {tb:TS} (hp:PassesOwn (model X.prog X.w) X.A X.env X.xe) (hc:PT X c tc) (hb:PSs X body tb):PS X (.While c body [] pos) (tWhile tc tb):=by
  intro pins s σ H D I h
  obtain ⟨W,⟨m0,w0⟩,turn⟩:=h
  refine wpAny_While (codeAny_whileLoop (fun n s'=>∃ σ' H',Inv X pins σ' H' s'∧W n σ' H') ?_ m0 ⟨σ,H,I,w0⟩)
  rintro n s1 ⟨σ1,H1,I1,w1⟩
  refine wpAny_passesOwn hp (thn (hc pins s1 σ1 H1 _ I1 (turn n σ1 H1 w1)) fun b s2 hpq=>?_)
  obtain ⟨H2,I2,q2⟩:=hpq
  cases b with
  | true =>
    obtain ⟨N,hN,q2⟩:=q2
    rw [if_pos rfl]
    refine wpAny_passesOwn hp (thn (hb pins s2 σ1 H2 _ I2 q2) fun f s3 q3=>?_)
    cases f with
    | next =>
      obtain ⟨σ3,H3,I3,n3⟩:=q3
      obtain ⟨m',hm,w3⟩:=hN σ3 H3 n3
      exact ⟨m',hm,σ3,H3,I3,w3⟩
    | cont =>
      obtain ⟨σ3,H3,I3,n3⟩:=q3
      obtain ⟨m',hm,w3⟩:=hN σ3 H3 n3
      exact ⟨m',hm,σ3,H3,I3,w3⟩
    | brk=>exact q3
    | ret v=>exact q3
  | false =>
    rw [if_neg Bool.false_ne_true]
    exact wpAny_execs_nil ⟨σ1,H2,I2,q2⟩
end
structure It where
  go:Nat→Hp→Prop
  yld:Nat→Hp→V→Hp→Prop
  stop:Nat→Hp→Prop
noncomputable def FpOk (X:Cx) (pins:List (Addr×Obj)) (H:Hp) (b:Addr):Prop :=
  H b=none∧b≠X.env.locals∧b ∉ X.fs∧(b∈X.ex∨X.s₀.heap.objs.size≤b)∧(∀ x c,X.env.cells.lookup x=some c→c≠b)∧∀ p∈X.pn++pins,p.1≠b
theorem Inv.fpOk {X:Cx} {pins:List (Addr×Obj)} {σ:St} {H H':Hp} {s:Shared} {b:Addr} (I:Inv X pins σ H s) (hb:s.heap.objs.size≤b) (hn:H' b=none):FpOk X pins H' b:=by
  refine ⟨hn,Nat.ne_of_gt (Nat.lt_of_lt_of_le I.lt hb),I.nofs hb,.inr (Nat.le_trans I.sz hb),fun x c e z=>?_,fun p hp z=>?_⟩
  · obtain ⟨v,q⟩:=I.cell x c e
    exact absurd (Nat.lt_of_lt_of_le q.lt (by rw [z];exact hb)) (Nat.lt_irrefl _)
  · exact absurd (Nat.lt_of_lt_of_le (Heap.lt_size (I.pin p hp).1) (by rw [z];exact hb)) (Nat.lt_irrefl _)
structure Turn (P:Program) (w:World) (K:PySem.W.Frag) (tg:Expr) (J:It) (fp:List Addr) (it:Addr) (tn:Nat→Heap→Prop):Prop where
  mem:it∈fp
  obj:∀ i h,tn i h→∀ b∈fp,∃ o,h.get? b=some o∧∀ v,o.data≠.cell v
  keep:∀ i h h',tn i h→(∀ b∈fp,∀ o,h.get? b=some o→h'.get? b=some o)→tn i h'
  item:∀ (X:Cx),X.prog=P→X.w=w→X.K=K→X.calm=true→∀ (i:Nat) (pins:List (Addr×Obj)) (s:Shared) (σ:St) (H:Hp) (E:Value→Shared→Prop),Inv X pins σ H s→(∀ b∈fp,FpOk X pins H b)→tn i s.heap→J.go i H →
    wpAny (model P w) X.A (pyNext (.ref it)) (fun r s1=>∃ u,r=some u ∧
      wpAny (model P w) X.A (letOwnedTupleGo tg (.ref it) u) (fun _ s2=>∃ x H',Inv X pins σ H' s2∧RelV x u∧J.yld i H x H'∧tn (i + 1) s2.heap∧∀ b∈fp,H' b=none) E s1) E s
  done:∀ (X:Cx),X.prog=P→X.w=w→X.K=K→X.calm=true→∀ (i:Nat) (pins:List (Addr×Obj)) (s:Shared) (σ:St) (H:Hp) (E:Value→Shared→Prop),Inv X pins σ H s→(∀ b∈fp,FpOk X pins H b)→tn i s.heap→J.stop i H →
    wpAny (model P w) X.A (pyNext (.ref it)) (fun r s1=>r=none∧Inv X pins σ H s1) E s
  self:∀ (A:Around) (i:Nat) (s:Shared) (Q:Value→Shared→Prop) (E:Value→Shared→Prop),tn i s.heap→Q (.ref it) s→wpAny (model P w) A (pyIter (.ref it)) Q E s
noncomputable abbrev TI:=St→Hp→(It→Hp→Prop)→Prop
noncomputable def PIE (X:Cx) (pins:List (Addr×Obj)) (σ:St) (tg:Expr) (R:It→Hp→Prop) (itv:Value) (s2:Shared):Prop :=
  ∃ (it:Addr) (fp:List Addr) (tn:Nat→Heap→Prop) (J:It) (H':Hp),itv = .ref it∧Inv X pins σ H' s2∧Turn X.prog X.w X.K tg J fp it tn∧tn 0 s2.heap∧(∀ b∈fp,FpOk X pins H' b)∧R J H'
noncomputable def PI (X:Cx) (tg iter:Expr) (wi:TI):Prop :=
  ∀ (pins:List (Addr×Obj)) (s:Shared) (σ:St) (H:Hp) (R:It→Hp→Prop),Inv X pins σ H s→wi σ H R →
    wpAny (model X.prog X.w) X.A (eval iter X.env) (fun v s1=>wpAny (model X.prog X.w) X.A (pyIter v) (PIE X pins σ tg R) X.xe s1) X.xe s
theorem go_of {M:Model} {A:Around} {E:Value→Shared→Prop} {s:Shared} {tg:Expr} {it:Addr} {u:Value} {o:Obj} {n:String} {vs:Array Value} {Q:Unit→Shared→Prop} (ho:s.heap.get? it=some o) (hc:o.cls = .type n) (hd:o.data = .fields vs)
    (hn:["enumerate","zip","dict_itemiterator","dict_reverseitemiterator","odict_iterator","itertools.zip_longest","itertools.pairwise"].contains n=false) (hQ:Q () s):wpAny M A (letOwnedTupleGo tg (.ref it) u) Q E s:=by
  unfold letOwnedTupleGo
  cases tg <;> first
    | exact wpAny_pure hQ
    | (cases u <;> first
        | exact wpAny_pure hQ
        | (refine wpAny_bind (wpAny_load ho ?_)
           rw [hc,hd]
           show wpAny M A (if (["enumerate","zip","dict_itemiterator","dict_reverseitemiterator","odict_iterator","itertools.zip_longest","itertools.pairwise"].contains n && vs[0]? == some (rawInt _))=true then _ else _) Q E s
           rw [if_neg (by intro h;rw [hn,Bool.false_and] at h;cases h)]
           exact wpAny_pure hQ))
noncomputable def Itl (K:PySem.W.Frag) (a:Addr):It :=
  ⟨fun i H=>∃ xs x,SqL K H a xs∧xs[i]? = some x,fun i H x H'=>H'=H∧∀ xs,SqL K H a xs→xs[i]? = some x,fun i H=>∃ xs,SqL K H a xs∧xs.length≤i⟩
noncomputable def Itr (lo:Int) (n:Nat):It:=⟨fun i _=>i < n,fun i H x H'=>H'=H∧x = .int (lo + i),fun i _=>n≤i⟩
theorem turn_list {P:Program} {w:World} {K:PySem.W.Frag} {tg:Expr} (a it:Addr):Turn P w K tg (Itl K a) [it] it (fun i h=>h.IsListIter it a i) where
  mem:=by simp
  obj:=fun i h st b hb=>by
    have e:b=it:=by simpa using hb
    subst e
    obtain ⟨o,e,c,d⟩:=st
    exact ⟨o,e,fun v z=>by rw [d] at z;cases z⟩
  keep:=fun i h h' st k=>st.at fun o e=>k it (by simp) o e
  item:=by
    intro X hP hw hK hc i pins s σ H E I hf st hg
    subst hP hw hK
    obtain ⟨xs,x,hq,hx⟩:=hg
    obtain ⟨its,rv,p,hz⟩:=I.list hq
    obtain ⟨u,hu,ru⟩:=rv.get hx
    obtain ⟨f0,f1,f2,f3,f4,f5⟩:=hf it (by simp)
    refine wpAny_pyNext_list_item st p.isList (x:=u) (by simpa using hu) fun h' st' sb=>?_
    have I1:Inv X pins σ H { s with heap:=h' }:=I.turned (t':=s.toks) (fun b o hb e=>(sb.2 b hb).trans e) f0 f1 f3 f4 f5
    obtain ⟨o,e,c,d⟩:=id st'
    exact ⟨u,rfl,go_of (s:={ s with heap:=h' }) e c d (by decide) ⟨x,H,I1,ru,⟨rfl,fun ys hy=>by rw [I.list_inj hy hq];exact hx⟩,st',fun b hb=>(hf b hb).1⟩⟩
  done:=by
    intro X hP hw hK hc i pins s σ H E I hf st hg
    subst hP hw hK
    obtain ⟨xs,hq,hx⟩:=hg
    obtain ⟨its,rv,p,hz⟩:=I.list hq
    obtain ⟨f0,f1,f2,f3,f4,f5⟩:=hf it (by simp)
    have hl:=rv.length
    exact wpAny_pyNext_list_end (I.ok.hd hc) st p.isList (by simp;omega) fun h' eb=>⟨rfl,I.turned (t':=s.toks) (fun b o hb e=>eb b o hb e) f0 f1 f3 f4 f5⟩
  self:=fun _ _ _ _ _ st h=>wpAny_pyIter_listiter st h
theorem turn_range {P:Program} {w:World} {K:PySem.W.Frag} {tg:Expr} (it:Addr) (lo:Int) (n:Nat):Turn P w K tg (Itr lo n) [it] it (fun i h=>IsRangeIter h it (lo + (i:Nat) * 1) ((n:Int) - (i:Nat)) 1) where
  mem:=by simp
  obj:=fun i h st b hb=>by
    have e:b=it:=by simpa using hb
    subst e
    exact ⟨_,st,fun v z=>by
      have z':Data.fields _=Data.cell v:=z
      cases z'⟩
  keep:=fun i h h' st k=>k it (by simp) _ st
  item:=by
    intro X hP hw hK hc i pins s σ H E I hf st hg
    subst hP hw hK
    obtain ⟨f0,f1,f2,f3,f4,f5⟩:=hf it (by simp)
    have W:=Walks.range (prog:=X.prog) (w:=X.w) (I.ok.hd hc) it lo 1 n
    refine W.item i s _ _ hg st fun v h' tk hv st' kk=>?_
    obtain ⟨t,rfl⟩:=hv
    have I1:Inv X pins σ H { s with heap:=h',toks:=tk }:=I.turned (fun b o hb e=>kk b o (by simpa using hb) e) f0 f1 f3 f4 f5
    refine ⟨_,rfl,go_of (s:={ s with heap:=h',toks:=tk }) (n:="range_iterator") st' rfl rfl (by decide) ⟨.int (lo + i),H,I1,⟨t,?_⟩,⟨rfl,rfl⟩,st',fun b hb=>(hf b hb).1⟩⟩
    rw [Int.mul_one]
  done:=by
    intro X hP hw hK hc i pins s σ H E I hf st hg
    subst hP hw hK
    obtain ⟨f0,f1,f2,f3,f4,f5⟩:=hf it (by simp)
    exact wpAny_pyNext_range_end (I.ok.hd hc) st (by have:n≤i:=hg;omega) fun h' eb=>⟨rfl,I.turned (t':=s.toks) (fun b o hb e=>eb b o hb e) f0 f1 f3 f4 f5⟩
  self:=fun _ _ _ _ _ st h=>wpAny_pyIter_rangeiter st h
end L2
namespace L2
open PySem PySem.Spec PyProof.Rows
section
variable {X:Cx} {tg:Expr}
noncomputable def iList (K:PySem.W.Frag) (tl:TE):TI:=fun σ H R=>tl σ H fun x H1=>∃ a,x = .ref a∧(∃ xs,SqL K H1 a xs)∧R (Itl K a) H1
theorem pi_list {l:Expr} {tl:TE} (hl:PE X l tl):PI X tg l (iList X.K tl):=by
  intro pins s σ H R I h
  refine thn (hl pins s σ H _ I h) fun v s1 hpq=>?_
  obtain ⟨x,H1,I1,r1,q1⟩:=hpq
  obtain ⟨a,e,⟨xs,hq⟩,q⟩:=q1
  subst e
  cases r1
  obtain ⟨its,rv,p,hz⟩:=I1.list hq
  refine wpAny_pyIter_list p.isList ?_
  refine ⟨s1.heap.objs.size,[s1.heap.objs.size],_,_,H1,rfl,I1.kept (t':=s1.toks) fun b o e=>Heap.get?_push_of_some _ e,turn_list a _,⟨_,Heap.get?_push_size _ rfl,rfl,rfl⟩,fun b hb=>?_,q⟩
  have e:b=s1.heap.objs.size:=by simpa using hb
  subst e
  exact I1.fpOk (Nat.le_refl _) (I1.hok.fresh (Nat.le_refl _))
theorem range_it {pins:List (Addr×Obj)} {σ:St} {H:Hp} {s:Shared} {R:It→Hp→Prop} {E:Value→Shared→Prop} {lo hi:Int} {t u v:Tok} {tk:Nat} (I:Inv X pins σ H s) (h1:-(2 ^ 62)≤lo) (h2:lo < 2 ^ 62) (h3:-(2 ^ 62)≤hi) (h4:hi < 2 ^ 62)
    (q:R (Itr lo (hi - lo).toNat) H):wpAny (model X.prog X.w) X.A (pyIter (.ref s.heap.objs.size)) (PIE X pins σ tg R) E { s with heap:=s.heap.push { cls:=.type "range",data:=.fields #[.int lo t,.int hi u,.int 1 v] },toks:=tk }:=by
  refine wpAny_pyIter_range (IsRange.new ..) (small_one h1 h2 h3 h4) ?_
  have I1:Inv X pins σ H { s with heap:=s.heap.push { cls:=.type "range",data:=.fields #[.int lo t,.int hi u,.int 1 v] },toks:=tk }:=I.kept fun b o e=>Heap.get?_push_of_some _ e
  refine ⟨(s.heap.push { cls:=.type "range",data:=.fields #[.int lo t,.int hi u,.int 1 v] }).objs.size,[(s.heap.push { cls:=.type "range",data:=.fields #[.int lo t,.int hi u,.int 1 v] }).objs.size],_,_,H,rfl,
    I1.kept (t':=tk) fun b o e=>Heap.get?_push_of_some _ e,turn_range _ lo (hi - lo).toNat,?_,fun b hb=>?_,q⟩
  · have e1:lo + ((0:Nat):Int) * 1=lo:=by simp
    have e2:(((hi - lo).toNat:Nat):Int) - ((0:Nat):Int)=Builtin.Range.rangeSize lo hi 1:=by rw [rangeSize_one];split <;> omega
    show IsRangeIter _ _ (lo + ((0:Nat):Int) * 1) ((((hi - lo).toNat:Nat):Int) - ((0:Nat):Int)) 1
    rw [e1,e2]
    exact Heap.get?_push_size _ rfl
  · have e:b=(s.heap.push { cls:=.type "range",data:=.fields #[.int lo t,.int hi u,.int 1 v] }).objs.size:=by simpa using hb
    subst e
    exact I1.fpOk (Nat.le_refl _) (I1.hok.fresh (Nat.le_refl _))
noncomputable def iRng1 (ta:TA):TI:=fun σ H R=>ta σ H fun vs H1=>∃ j:Int,vs=[.int j]∧-(2 ^ 62)≤j∧j < 2 ^ 62∧R (Itr 0 j.toNat) H1
noncomputable def iRng2 (ta:TA):TI:=fun σ H R=>ta σ H fun vs H1=>∃ i j:Int,vs=[.int i,.int j]∧(-(2 ^ 62)≤i∧i < 2 ^ 62∧-(2 ^ 62)≤j∧j < 2 ^ 62)∧R (Itr i (j - i).toNat) H1
theorem pi_range1 {a:Expr} {ta:TA} {p pos:Pos} (hg:Gl X "range") (hm:X.mg "range" = none) (ha:PA X [a] ta) (hs:starEach [a] X.env=[(false,eval a X.env)]:=by rfl):PI X tg (.Call (.Name "range" p) [a] [] pos) (iRng1 ta):=by
  intro pins s σ H R I h
  refine Call_ (ld_blt I hg hm boot_range (PyProof.Rows.callWith_type1 (thn (ha pos pins s σ H _ I h) fun us s1 hpq=>?_) hs rfl))
  obtain ⟨vs,H1,I1,r1,q1⟩:=hpq
  obtain ⟨j,e,q1,q2,q⟩:=q1
  subst e
  cases r1 with
  | cons r rr =>
    cases rr
    obtain ⟨t,rfl⟩:=r
    exact call_range_1 (range_it I1 (by omega) (by omega) q1 q2 (by simpa using q))
theorem pi_range2 {a b:Expr} {ta:TA} {p pos:Pos} (hg:Gl X "range") (hm:X.mg "range" = none) (ha:PA X [a,b] ta) (hs:starEach [a,b] X.env=[(false,eval a X.env),(false,eval b X.env)]:=by rfl) (hs2:starEach [b] X.env=[(false,eval b X.env)]:=by rfl) :
    PI X tg (.Call (.Name "range" p) [a,b] [] pos) (iRng2 ta):=by
  intro pins s σ H R I h
  refine Call_ (ld_blt I hg hm boot_range (PyProof.Rows.callWith_type1 (thn (ha pos pins s σ H _ I h) fun us s1 hpq=>?_) (by rw [hs,hs2]) (by rw [hs2];rfl)))
  obtain ⟨vs,H1,I1,r1,q1⟩:=hpq
  obtain ⟨i,j,e,⟨q1,q2,q3,q4⟩,q⟩:=q1
  subst e
  cases r1 with
  | cons r rr =>
    cases rr with
    | cons r' rr =>
      cases rr
      obtain ⟨t,rfl⟩:=r
      obtain ⟨t',rfl⟩:=r'
      exact call_range_2 (range_it I1 q1 q2 q3 q4 q)
noncomputable def tFor (wi:TI) (g:TG) (tb:TS):TS:=fun D σ H=>wi σ H fun J H1=>∃ W:Nat→Nat→St→Hp→Prop,(∃ m,W 0 m σ H1)∧∀ i m σ H,W i m σ H →
  (J.stop i H∧D.nx σ H)∨(J.go i H∧∃ N:St→Hp→Prop,(∀ σ' H',N σ' H'→∃ m',m' < m∧W (i + 1) m' σ' H')∧∀ x H',J.yld i H x H'→g x σ H' fun σ2 H2=>tb { D with nx:=N,ct:=N,bk:=D.nx } σ2 H2)
noncomputable def pinsAt (fp:List Addr) (h:Heap):List (Addr×Obj):=fp.filterMap fun b=>(h.get? b).map fun o=>(b,o)
theorem mem_pinsAt {fp:List Addr} {h:Heap} {b:Addr} {o:Obj} (hb:b∈fp) (e:h.get? b=some o):(b,o)∈pinsAt fp h:=List.mem_filterMap.mpr ⟨b,hb,by rw [e];rfl⟩
theorem of_pinsAt {fp:List Addr} {h:Heap} {p:Addr×Obj} (hp:p∈pinsAt fp h):p.1∈fp∧h.get? p.1=some p.2:=by
  obtain ⟨b,hb,e⟩:=List.mem_filterMap.mp hp
  cases q:h.get? b with
  | none=>rw [q] at e;cases e
  | some o =>
    rw [q] at e
    have e':(b,o)=p:=Option.some.inj e
    subst e'
    exact ⟨hb,q⟩
theorem Inv.pinned {pins:List (Addr×Obj)} {σ:St} {H:Hp} {s:Shared} {fp:List Addr} (I:Inv X pins σ H s) (hf:∀ b∈fp,FpOk X pins H b) (ho:∀ b∈fp,∃ o,s.heap.get? b=some o∧∀ v,o.data≠.cell v):Inv X (pins++pinsAt fp s.heap) σ H s :=
  I.pins_of fun p hp=>(List.mem_append.mp hp).elim (fun z=>I.pin p (List.mem_append_right _ z)) fun z=>by
    obtain ⟨hb,e⟩:=of_pinsAt z
    obtain ⟨f0,f1,f2,_⟩:=hf p.1 hb
    obtain ⟨o,e',d⟩:=ho p.1 hb
    rw [e] at e';cases e'
    exact ⟨e,f0,f1,f2,d⟩
theorem Inv.unpinned {pins pl:List (Addr×Obj)} {σ:St} {H:Hp} {s:Shared} (I:Inv X (pins++pl) σ H s):Inv X pins σ H s:=I.pins_of fun p hp=>I.pin p (List.mem_append_right _ (List.mem_append_left _ hp))
theorem ps_for {iter:Expr} {body:List Stmt} {wi:TI} {g:TG} {tb:TS} {pos:Pos} (hp:PassesOwn (model X.prog X.w) X.A X.env X.xe) (hc:X.calm=true) (hi:PI X tg iter wi) (hg:PG X tg g) (hb:PSs X body tb)
    (hs:∀ x,foldedSetIterable iter X.env x=pure x:=by intro _;rfl):PS X (.For tg iter body [] pos) (tFor wi g tb):=by
  intro pins s σ H D I h
  refine wpAny_For (thn (hi pins s σ H _ I h) fun v s1 h1=>thn h1 fun itv s2 h2=>?_) hs
  obtain ⟨it,fp,tn,J,H2,e,I2,T,st2,f2,W,⟨m0,w0⟩,turn⟩:=h2
  subst e
  have stat:∀ {H':Hp},(∀ b∈fp,H' b=none)→∀ b∈fp,FpOk X pins H' b:=fun hn b hb=>⟨hn b hb,(f2 b hb).2⟩
  refine codeAny_forLoop_any (fun n s'=>∃ i σ' H',Inv X pins σ' H' s'∧tn i s'.heap∧(∀ b∈fp,H' b=none)∧W i n σ' H') ?_ m0 ⟨0,σ,H2,I2,st2,fun b hb=>(f2 b hb).1,w0⟩
  rintro n s3 ⟨i,σ3,H3,I3,st3,fr3,w3⟩
  rcases turn i n σ3 H3 w3 with ⟨stop,qn⟩ | ⟨go,N,hN,step⟩
  · refine wpAny_passesOwn hp (thn (T.done X rfl rfl rfl hc i pins s3 σ3 H3 X.xe I3 (stat fr3) st3 stop) fun r s4 ⟨hr,I4⟩=>?_)
    subst hr
    exact wpAny_execs_nil ⟨σ3,H3,I4,qn⟩
  · refine wpAny_passesOwn hp (thn (T.item X rfl rfl rfl hc i pins s3 σ3 H3 X.xe I3 (stat fr3) st3 go) fun r s4 hpq=>?_)
    obtain ⟨u,hr,h4⟩:=hpq
    subst hr
    refine wpAny_passesOwn hp (thn h4 fun _ s5 hpq=>?_)
    obtain ⟨x,H5,I5,r5,y5,st5,fr5⟩:=hpq
    have I5':=I5.pinned (stat fr5) (T.obj _ _ st5)
    refine wpAny_passesOwn hp (thn (hg _ s5 σ3 H5 x u _ I5' r5 (step x H5 y5)) fun _ s6 hpq=>?_)
    obtain ⟨σ6,H6,I6,q6⟩:=hpq
    refine wpAny_passesOwn hp (thn (hb _ s6 σ6 H6 _ I6 q6) fun f s7 q7=>?_)
    have again:∀ {σ7:St} {H7:Hp},Inv X (pins++pinsAt fp s5.heap) σ7 H7 s7→N σ7 H7→∃ m,m < n∧∃ i σ' H',Inv X pins σ' H' s7∧tn i s7.heap∧(∀ b∈fp,H' b=none)∧W i m σ' H':=fun {σ7 H7} I7 n7=>by
      obtain ⟨m',hm,w7⟩:=hN σ7 H7 n7
      refine ⟨m',hm,i + 1,σ7,H7,I7.unpinned,T.keep _ _ _ st5 fun b hb o e=>(I7.pin (b,o) (List.mem_append_right _ (List.mem_append_right _ (mem_pinsAt hb e)))).1,fun b hb=>?_,w7⟩
      obtain ⟨o,e,d⟩:=T.obj _ _ st5 b hb
      exact (I7.pin (b,o) (List.mem_append_right _ (List.mem_append_right _ (mem_pinsAt hb e)))).2.1
    cases f with
    | next=>obtain ⟨σ7,H7,I7,n7⟩:=q7;exact again I7 n7
    | cont=>obtain ⟨σ7,H7,I7,n7⟩:=q7;exact again I7 n7
    | brk=>obtain ⟨σ7,H7,I7,q7⟩:=q7;exact ⟨σ7,H7,I7.unpinned,q7⟩
    | ret v=>obtain ⟨x7,σ7,H7,I7,r7,q7⟩:=q7;exact ⟨x7,σ7,H7,I7.unpinned,r7,q7⟩
end
theorem for_list {K:PySem.W.Frag} {a:Addr} {xs:List V} {g:TG} {tb:TS} {D:Ends} {σ:St} {H:Hp} (Pv:Nat→St→Hp→Prop) (h0:Pv 0 σ H) (hl:∀ i σ H,i≤xs.length→Pv i σ H→SqL K H a xs)
    (hs:∀ i x σ H,xs[i]? = some x→Pv i σ H→g x σ H fun σ2 H2=>tb { D with nx:=Pv (i + 1),ct:=Pv (i + 1),bk:=D.nx } σ2 H2) (hd:∀ σ H,Pv xs.length σ H→D.nx σ H) :
    ∃ W:Nat→Nat→St→Hp→Prop,(∃ m,W 0 m σ H)∧∀ i m σ H,W i m σ H →
      ((Itl K a).stop i H∧D.nx σ H)∨((Itl K a).go i H∧∃ N:St→Hp→Prop,(∀ σ' H',N σ' H'→∃ m',m' < m∧W (i + 1) m' σ' H')∧∀ x H',(Itl K a).yld i H x H'→g x σ H' fun σ2 H2=>tb { D with nx:=N,ct:=N,bk:=D.nx } σ2 H2):=by
  refine ⟨fun i m σ H=>m=xs.length - i∧i≤xs.length∧Pv i σ H,⟨xs.length,by simp,Nat.zero_le _,h0⟩,?_⟩
  rintro i m σ H ⟨rfl,hi,p⟩
  have q:=hl i σ H hi p
  by_cases hlt:i < xs.length
  · refine .inr ⟨⟨xs,xs[i],q,by simp [hlt]⟩,Pv (i + 1),fun σ' H' p'=>⟨xs.length - (i + 1),by omega,rfl,hlt,p'⟩,fun x H' y=>?_⟩
    obtain ⟨e,y⟩:=y
    subst e
    exact hs i x σ _ (y xs q) p
  · have e:i=xs.length:=by omega
    subst e
    exact .inl ⟨⟨xs,q,Nat.le_refl _⟩,hd σ H p⟩
end L2
namespace L2
open PySem PySem.Spec PyProof.Rows
noncomputable abbrev R2:=V→V→Hp→VK→Prop
noncomputable def OpR (X:Cx) (f:Value→Value→Sem Value) (r:R2):Prop :=
  ∀ (pins:List (Addr×Obj)) (s:Shared) (σ:St) (H:Hp) (x y:V) (v u:Value) (Q:VK),Inv X pins σ H s→RelV x v→RelV y u→r x y H Q →
    wpAny (model X.prog X.w) X.A (f v u) (EP X pins σ Q) X.xe s
noncomputable def UnR (X:Cx) (f:Value→Sem Value) (r:V→Hp→VK→Prop):Prop :=
  ∀ (pins:List (Addr×Obj)) (s:Shared) (σ:St) (H:Hp) (x:V) (v:Value) (Q:VK),Inv X pins σ H s→RelV x v→r x H Q →
    wpAny (model X.prog X.w) X.A (f v) (EP X pins σ Q) X.xe s
noncomputable def CallR (X:Cx) (f:Value) (r:List V→Hp→VK→Prop):Prop :=
  ∀ (pins:List (Addr×Obj)) (s:Shared) (σ:St) (H:Hp) (xs:List V) (us:List Value) (Q:VK),Inv X pins σ H s→Vals xs us→r xs H Q →
    wpAny (model X.prog X.w) X.A (call f us) (EP X pins σ Q) X.xe s
noncomputable def tOp (r:R2) (ta tb:TE):TE:=fun σ H Q=>ta σ H fun x H1=>tb σ H1 fun y H2=>r x y H2 Q
noncomputable def tUn (r:V→Hp→VK→Prop) (ta:TE):TE:=fun σ H Q=>ta σ H fun x H1=>r x H1 Q
noncomputable def rI (C:Int→Int→Prop) (g:Int→Int→V):R2:=fun x y H Q=>∃ i j,x = .int i∧y = .int j∧C i j∧Q (g i j) H
noncomputable def rI0 (g:Int→Int→V):R2:=fun x y H Q=>∃ i j,x = .int i∧y = .int j∧Q (g i j) H
noncomputable def rU (g:Int→V):V→Hp→VK→Prop:=fun x H Q=>∃ i,x = .int i∧Q (g i) H
section
variable {X:Cx} {a b c:Expr} {ta tb tc:TE} {pos:Pos}
theorem binT (ha:PE X a ta) (hb:PE X b tb) {pins:List (Addr×Obj)} {s:Shared} {σ:St} {H:Hp} {R:V→V→Hp→Prop} (I:Inv X pins σ H s)
    (h:ta σ H fun x H1=>tb σ H1 fun y H2=>R x y H2) {Q:Value→Shared→Prop} {f:Value→Value→Sem Value}
    (hf:∀ v u s2 x y H2,Inv X pins σ H2 s2→RelV x v→RelV y u→R x y H2→wpAny (model X.prog X.w) X.A (f v u) Q X.xe s2) :
    wpAny (model X.prog X.w) X.A (eval a X.env) (fun v s₁=>wpAny (model X.prog X.w) X.A (eval b X.env) (fun u s₂=>wpAny (model X.prog X.w) X.A (f v u) Q X.xe s₂) X.xe s₁) X.xe s:=by
  refine thn (ha pins s σ H _ I h) fun v s1 hpq=>?_
  obtain ⟨x,H1,I1,r1,q1⟩:=hpq
  refine thn (hb pins s1 σ H1 _ I1 q1) fun u s2 hpq=>?_
  obtain ⟨y,H2,I2,r2,q2⟩:=hpq
  exact hf v u s2 x y H2 I2 r1 r2 q2
theorem pe_op {op:Operator} {r:R2} (ho:OpR X (binaryOp op) r) (ha:PE X a ta) (hb:PE X b tb):PE X (.BinOp a op b pos) (tOp r ta tb):=by
  intro pins s σ H Q I h
  exact wpAny_BinOp (binT ha hb I h fun v u s2 x y H2 I2 rx ry q=>ho pins s2 σ H2 x y v u Q I2 rx ry q)
theorem pe_un {op:UnaryOp} {r:V→Hp→VK→Prop} (ho:UnR X (unaryOp op) r) (ha:PE X a ta):PE X (.UnaryOp op a pos) (tUn r ta):=by
  intro pins s σ H Q I h
  exact UnaryOp_ (thn (ha pins s σ H _ I h) fun v s1 ⟨x,H1,I1,r1,q1⟩=>ho pins s1 σ H1 x v Q I1 r1 q1)
theorem opI {f:Value→Value→Sem Value} {C:Int→Int→Prop} {g:Int→Int→Int}
    (rule:∀ (i j:Int) (t u:Tok) (s:Shared) (Q:Value→Shared→Prop) (E:Value→Shared→Prop),C i j→Q (.int (g i j) s.toks) { s with toks:=s.toks + 1 }→wpAny (model X.prog X.w) X.A (f (.int i t) (.int j u)) Q E s) :
    OpR X f (rI C fun i j=>.int (g i j)):=by
  intro pins s σ H x y v u Q I rx ry h
  obtain ⟨i,j,rfl,rfl,hc,q⟩:=h
  obtain ⟨t,rfl⟩:=rx
  obtain ⟨t',rfl⟩:=ry
  exact rule i j t t' s _ _ hc ⟨.int (g i j),H,I.tok _,⟨_,rfl⟩,q⟩
theorem opI0 {f:Value→Value→Sem Value} {g:Int→Int→Int}
    (rule:∀ (i j:Int) (t u:Tok) (s:Shared) (Q:Value→Shared→Prop) (E:Value→Shared→Prop),Q (.int (g i j) s.toks) { s with toks:=s.toks + 1 }→wpAny (model X.prog X.w) X.A (f (.int i t) (.int j u)) Q E s) :
    OpR X f (rI0 fun i j=>.int (g i j)):=by
  intro pins s σ H x y v u Q I rx ry h
  obtain ⟨i,j,rfl,rfl,q⟩:=h
  obtain ⟨t,rfl⟩:=rx
  obtain ⟨t',rfl⟩:=ry
  exact rule i j t t' s _ _ ⟨.int (g i j),H,I.tok _,⟨_,rfl⟩,q⟩
theorem opB0 {f:Value→Value→Sem Value} {g:Int→Int→Bool}
    (rule:∀ (i j:Int) (t u:Tok) (s:Shared) (Q:Value→Shared→Prop) (E:Value→Shared→Prop),Q (.bool (g i j)) s→wpAny (model X.prog X.w) X.A (f (.int i t) (.int j u)) Q E s) :
    OpR X f (rI0 fun i j=>.bl (g i j)):=by
  intro pins s σ H x y v u Q I rx ry h
  obtain ⟨i,j,rfl,rfl,q⟩:=h
  obtain ⟨t,rfl⟩:=rx
  obtain ⟨t',rfl⟩:=ry
  exact rule i j t t' s _ _ ⟨.bl (g i j),H,I,rfl,q⟩
noncomputable def CDiv (i j:Int):Prop:=0 < j∧j < 1073741824
noncomputable def CPow (i j:Int):Prop:=0≤j∧j≤1000000∧i.natAbs < 2 ^ 64
noncomputable def CMul (i j:Int):Prop:=(-(2 ^ 64) < i∧i < 2 ^ 64)∨(-(2 ^ 64) < j∧j < 2 ^ 64)
theorem CMul.ok {i j:Int} (h:CMul i j):IntMulOk i j:=by
  rcases h with ⟨h1,h2⟩ | ⟨h1,h2⟩
  · exact .of_left (intBits_le_64 h1 h2)
  · exact .of_right (intBits_le_64 h1 h2)
theorem op_add:OpR X (binaryOp .Add) (rI0 fun i j=>.int (i + j)):=opI0 fun _ _ _ _ _ _ _ q=>add_int q
theorem op_mul:OpR X (binaryOp .Mult) (rI CMul fun i j=>.int (i * j)):=opI fun _ _ _ _ _ _ _ hc q=>mul_int q hc.ok
theorem op_fdiv:OpR X (binaryOp .FloorDiv) (rI CDiv fun i j=>.int (i / j)):=opI fun i j _ _ _ _ _ hc q=>by
  have h1:(0:Int) < j:=hc.1
  have h2:j < 1073741824:=hc.2
  exact floordiv_int (by omega) (by rw [Int.fdiv_eq_ediv_of_nonneg i (by omega)];exact q) (.inl (PyProof.noPylong_small (by omega)))
theorem op_mod:OpR X (binaryOp .Mod) (rI (fun _ j=>0 < j) fun i j=>.int (i % j)):=opI fun i j _ _ _ _ _ hc q=>by
  have h1:(0:Int) < j:=hc
  exact mod_int' (by omega) (by rw [Int.fmod_eq_emod_of_nonneg i (by omega)];exact q)
theorem op_pow:OpR X (binaryOp .Pow) (rI CPow fun i j=>.int (i ^ j.toNat)):=opI fun _ _ _ _ _ _ _ hc q=>pow_int_small hc.1 hc.2.1 hc.2.2 q
theorem unI {f:Value→Sem Value} {g:Int→Int}
    (rule:∀ (i:Int) (t:Tok) (s:Shared) (Q:Value→Shared→Prop) (E:Value→Shared→Prop),Q (.int (g i) s.toks) { s with toks:=s.toks + 1 }→wpAny (model X.prog X.w) X.A (f (.int i t)) Q E s) :
    UnR X f (rU fun i=>.int (g i)):=by
  intro pins s σ H x v Q I rx h
  obtain ⟨i,rfl,q⟩:=h
  obtain ⟨t,rfl⟩:=rx
  exact rule i t s _ _ ⟨.int (g i),H,I.tok _,⟨_,rfl⟩,q⟩
theorem un_neg:UnR X (unaryOp .USub) (rU fun i=>.int (-i)):=unI fun _ _ _ _ _ q=>neg_int q
end
noncomputable def scal:V→V→Bool
  | .non,.non=>true | .non,.int _=>true | .int _,.non=>true | .non,.bl _=>true | .bl _,.non=>true | .non,.str _=>true | .str _,.non=>true
  | .int _,.int _=>true | .bl _,.bl _=>true | .str _,.str _=>true | .byt _,.byt _=>true
  | .int _,.str _=>true | .str _,.int _=>true | .bl _,.str _=>true | .str _,.bl _=>true
  | _,_=>false
noncomputable def rEq:R2:=fun x y H Q=>scal x y=true∧Q (.bl (decide (x=y))) H
noncomputable def rNe:R2:=fun x y H Q=>scal x y=true∧Q (.bl (!decide (x=y))) H
theorem dec_int {i j:Int}:decide (V.int i=V.int j)=(i == j):=by
  rw [Bool.eq_iff_iff]
  simp
theorem dec_bl {i j:Bool}:decide (V.bl i=V.bl j)=(i == j):=by
  rw [Bool.eq_iff_iff]
  simp
theorem dec_str {i j:Str}:decide (V.str i=V.str j)=(i == j):=by
  rw [Bool.eq_iff_iff]
  simp
theorem dec_byt {i j:Array UInt8}:decide (V.byt i=V.byt j)=(i.toList == j.toList):=by
  rw [Bool.eq_iff_iff]
  cases i
  cases j
  simp
section
variable {X:Cx} {a b c:Expr} {ta tb tc:TE} {pos:Pos}
theorem fin_bl {pins:List (Addr×Obj)} {σ:St} {H:Hp} {s:Shared} {Q:VK} {k k':Bool} (I:Inv X pins σ H s) (q:Q (.bl k) H) (e:k=k'):EP X pins σ Q (.bool k') s:=by
  subst e
  exact ⟨.bl k,H,I,rfl,q⟩
theorem op_eq:OpR X (compareOp .Eq) rEq:=by
  intro pins s σ H x y v u Q I rx ry h
  obtain ⟨hs,q⟩:=h
  cases x with
  | non =>
    cases rx
    cases y with
    | non=>cases ry;exact PySem.EqNone.eq_none_none (fin_bl I q (by simp))
    | bl j=>cases ry;exact PySem.EqNone.eq_none_bool (fin_bl I q (by simp))
    | int j=>obtain ⟨t',rfl⟩:=ry;exact PySem.EqNone.eq_none_int (fin_bl I q (by simp))
    | str j=>obtain ⟨t',rfl⟩:=ry;exact PySem.EqNone.eq_none_str (fin_bl I q (by simp))
    | _=>exact absurd (show false=true from hs) Bool.false_ne_true
  | bl i =>
    cases rx
    cases y with
    | non=>cases ry;exact PySem.EqNone.eq_bool_none (fin_bl I q (by simp))
    | bl j=>cases ry;exact eq_bool (fin_bl I q dec_bl)
    | str j=>obtain ⟨t',rfl⟩:=ry;exact PySem.EqMixed.eq_bool_str (fin_bl I q (by simp))
    | _=>exact absurd (show false=true from hs) Bool.false_ne_true
  | int i =>
    obtain ⟨t,rfl⟩:=rx
    cases y with
    | non=>cases ry;exact PySem.EqNone.eq_int_none (fin_bl I q (by simp))
    | int j=>obtain ⟨t',rfl⟩:=ry;exact eq_int (fin_bl I q dec_int)
    | str j=>obtain ⟨t',rfl⟩:=ry;exact PySem.EqMixed.eq_int_str (fin_bl I q (by simp))
    | _=>exact absurd (show false=true from hs) Bool.false_ne_true
  | str i =>
    obtain ⟨t,rfl⟩:=rx
    cases y with
    | non=>cases ry;exact PySem.EqNone.eq_str_none (fin_bl I q (by simp))
    | bl j=>cases ry;exact PySem.EqMixed.eq_str_bool (fin_bl I q (by simp))
    | int j=>obtain ⟨t',rfl⟩:=ry;exact PySem.EqMixed.eq_str_int (fin_bl I q (by simp))
    | str j=>obtain ⟨t',rfl⟩:=ry;exact eq_str (fin_bl I q dec_str)
    | _=>exact absurd (show false=true from hs) Bool.false_ne_true
  | byt i =>
    obtain ⟨t,rfl⟩:=rx
    cases y with
    | byt j=>obtain ⟨t',rfl⟩:=ry;exact PySem.W.eq_bytes (fin_bl I q dec_byt)
    | _=>exact absurd (show false=true from hs) Bool.false_ne_true
  | _=>cases y <;> exact absurd (show false=true from hs) Bool.false_ne_true
theorem op_ne:OpR X (compareOp .NotEq) rNe:=by
  intro pins s σ H x y v u Q I rx ry h
  obtain ⟨hs,q⟩:=h
  cases x with
  | non =>
    cases rx
    cases y with
    | non=>cases ry;exact PySem.EqNone.ne_none_none (fin_bl I q (by simp))
    | bl j=>cases ry;exact PySem.EqNone.ne_none_bool (fin_bl I q (by simp))
    | int j=>obtain ⟨t',rfl⟩:=ry;exact PySem.EqNone.ne_none_int (fin_bl I q (by simp))
    | str j=>obtain ⟨t',rfl⟩:=ry;exact PySem.EqNone.ne_none_str (fin_bl I q (by simp))
    | _=>exact absurd (show false=true from hs) Bool.false_ne_true
  | bl i =>
    cases rx
    cases y with
    | non=>cases ry;exact PySem.EqNone.ne_bool_none (fin_bl I q (by simp))
    | bl j=>cases ry;exact ne_bool (fin_bl I q (congrArg not dec_bl))
    | str j=>obtain ⟨t',rfl⟩:=ry;exact PySem.EqMixed.ne_bool_str (fin_bl I q (by simp))
    | _=>exact absurd (show false=true from hs) Bool.false_ne_true
  | int i =>
    obtain ⟨t,rfl⟩:=rx
    cases y with
    | non=>cases ry;exact PySem.EqNone.ne_int_none (fin_bl I q (by simp))
    | int j=>obtain ⟨t',rfl⟩:=ry;exact ne_int (fin_bl I q (congrArg not dec_int))
    | str j=>obtain ⟨t',rfl⟩:=ry;exact PySem.EqMixed.ne_int_str (fin_bl I q (by simp))
    | _=>exact absurd (show false=true from hs) Bool.false_ne_true
  | str i =>
    obtain ⟨t,rfl⟩:=rx
    cases y with
    | non=>cases ry;exact PySem.EqNone.ne_str_none (fin_bl I q (by simp))
    | bl j=>cases ry;exact PySem.EqMixed.ne_str_bool (fin_bl I q (by simp))
    | int j=>obtain ⟨t',rfl⟩:=ry;exact PySem.EqMixed.ne_str_int (fin_bl I q (by simp))
    | str j=>obtain ⟨t',rfl⟩:=ry;exact ne_str (fin_bl I q (congrArg not dec_str))
    | _=>exact absurd (show false=true from hs) Bool.false_ne_true
  | byt i =>
    obtain ⟨t,rfl⟩:=rx
    cases y with
    | byt j=>obtain ⟨t',rfl⟩:=ry;exact PySem.W.ne_bytes (fin_bl I q (congrArg not dec_byt))
    | _=>exact absurd (show false=true from hs) Bool.false_ne_true
  | _=>cases y <;> exact absurd (show false=true from hs) Bool.false_ne_true
theorem op_lt:OpR X (compareOp .Lt) (rI0 fun i j=>.bl (decide (i < j))):=opB0 fun _ _ _ _ _ _ _ q=>lt_int q
theorem op_gt:OpR X (compareOp .Gt) (rI0 fun i j=>.bl (decide (j < i))):=opB0 fun _ _ _ _ _ _ _ q=>gt_int q
theorem op_ge:OpR X (compareOp .GtE) (rI0 fun i j=>.bl (decide (j≤i))):=opB0 fun _ _ _ _ _ _ _ q=>ge_int q
theorem op_lt_str:OpR X (compareOp .Lt) (fun x y H Q=>∃ i j,x = .str i∧y = .str j∧Q (.bl (decide (i.cps.toList < j.cps.toList))) H):=by
  intro pins s σ H x y v u Q I rx ry h
  obtain ⟨i,j,rfl,rfl,q⟩:=h
  obtain ⟨t,rfl⟩:=rx
  obtain ⟨t',rfl⟩:=ry
  exact lt_str (fin_bl I q rfl)
theorem op_in_str:OpR X (compareOp .In) (fun x y H Q=>∃ i j,x = .str i∧y = .str j∧Q (.bl (!(Builtin.Str.occurrences j i 0 j.length 1).isEmpty)) H):=by
  intro pins s σ H x y v u Q I rx ry h
  obtain ⟨i,j,rfl,rfl,q⟩:=h
  obtain ⟨t,rfl⟩:=rx
  obtain ⟨t',rfl⟩:=ry
  exact in_str (fin_bl I q rfl)
theorem nomark (b:Expr) {op:CmpOp} (h:op≠.In:=by decide) (h2:op≠.NotIn:=by decide):behindInMarks op b=false:=by
  have e1:(op == CmpOp.In)=false:=by cases op <;> first | rfl | exact absurd rfl h
  have e2:(op == CmpOp.NotIn)=false:=by cases op <;> first | rfl | exact absurd rfl h2
  cases b <;> simp [behindInMarks,e1,e2]
theorem pe_cmpR {op:CmpOp} {r:R2} (ho:OpR X (compareOp op) r) (ha:PE X a ta) (hb:PE X b tb) (hm:behindInMarks op b=false):PE X (.Compare a [op] [b] pos) (tOp r ta tb):=by
  intro pins s σ H Q I h
  exact wpAny_Compare1 (binT ha hb I h fun v u s2 x y H2 I2 rx ry q=>ho pins s2 σ H2 x y v u Q I2 rx ry q) hm
noncomputable def tTest (t:TE):TT:=fun σ H Q=>t σ H fun x H'=>∃ k,x = .bl k∧Q k H'
theorem pt_cmpR {op:CmpOp} {r:R2} (ho:OpR X (compareOp op) r) (ha:PE X a ta) (hb:PE X b tb) (hm:behindInMarks op b=false):PT X (.Compare a [op] [b] pos) (tTest (tOp r ta tb)):=by
  intro pins s σ H Q I h
  refine wpAny_isTrue_Compare1 (thn (ha pins s σ H _ I h) fun v s1 ⟨x,H1,I1,r1,q1⟩=>thn (hb pins s1 σ H1 _ I1 q1) fun u s2 ⟨y,H2,I2,r2,q2⟩ =>
    thn (ho pins s2 σ H2 x y v u _ I2 r1 r2 q2) fun c s3 ⟨z,H3,I3,r3,k,e,q3⟩=>?_) hm
  subst e
  cases r3
  exact wpAny_truthy_bool ⟨H3,I3,q3⟩
theorem line63:(sizeLine:Nat) < 2 ^ 63:=by rw [sizeLine_eq];decide
theorem op_add_str:OpR X (binaryOp .Add) (fun x y H Q=>∃ i j,x = .str i∧y = .str j∧i.length + j.length≤sizeLine∧Q (.str (i++j)) H):=by
  intro pins s σ H x y v u Q I rx ry h
  obtain ⟨i,j,rfl,rfl,hz,q⟩:=h
  obtain ⟨t,rfl⟩:=rx
  obtain ⟨t',rfl⟩:=ry
  exact add_str (fun t' tk=>⟨.str (i++j),H,I.tok _,⟨_,rfl⟩,q⟩) hz
noncomputable def PlainIxT (b:Expr):Prop:=∀ o i,subscripted b false o i=operate [o,i] (getItem o i)
theorem pe_item_str (ha:PE X a ta) (hb:PE X b tb) (hs:PlainIxT b) :
    PE X (.Subscript a b pos) (tOp (fun x y H Q=>∃ z i c,x = .str z∧y = .int i∧0≤i∧i < 2 ^ 63∧i < z.length∧z.cps[i.toNat]? = some c∧Q (.str ⟨#[c]⟩) H) ta tb):=by
  intro pins s σ H Q I h
  refine Subscript_ (binT ha hb I h fun v u s2 x y H2 I2 rx ry q=>?_)
  obtain ⟨z,i,c,rfl,rfl,h0,h63,h1,hc,q⟩:=q
  obtain ⟨t,rfl⟩:=rx
  obtain ⟨t',rfl⟩:=ry
  have e:seqIndex? i z.length=some i.toNat:=PySem.StrLaws.seqIndex_nonneg h0 h1
  exact tail_any (typeIs_str s2 z t) slot_str_getitem.lookup (getItem_str (c:=c) (by
    have e1:decide (i < -(2 ^ 63:Int))=false:=decide_eq_false (by omega)
    have e2:decide (i ≥ 2 ^ 63)=false:=decide_eq_false (by omega)
    rw [e1,e2] <;> rfl) (by rw [e];exact hc) ⟨.str ⟨#[c]⟩,H2,I2.tok _,⟨_,rfl⟩,q⟩) (hs _ _)
theorem vals1 {x:V} {us:List Value} (r:Vals [x] us):∃ u,us=[u]∧RelV x u:=by
  cases r with
  | cons r1 r2=>cases r2;exact ⟨_,rfl,r1⟩
theorem vals2 {x y:V} {us:List Value} (r:Vals [x,y] us):∃ u w',us=[u,w']∧RelV x u∧RelV y w':=by
  cases r with
  | cons r1 r2 =>
    cases r2 with
    | cons r3 r4=>cases r4;exact ⟨_,_,rfl,r1,r3⟩
end
end L2
namespace L2
open PySem PySem.Spec PyProof.Rows
structure ObjM (h:Heap) (x dx C:Addr) (mA:Str→Option Value):Prop where
  obj:h.get? x=some (PySem.W.instObj C dx)
  ns:h.Ns1 dx mA
  ne:dx≠x
theorem lookIn_ns {h:Heap} {dx:Addr} {mA:Str→Option Value} (n:h.Ns1 dx mA):∃ od,h.get? dx=some od∧∀ name,PySem.W.lookIn name od=some (mA name):=by
  obtain ⟨o,es,ep,ho,hd,hk,_,hm⟩:=n
  refine ⟨o,ho,fun name=>?_⟩
  have e:=hm name
  unfold nsFind findBy at e
  rw [← Array.find?_toList] at e
  unfold PySem.W.lookIn
  rw [hd]
  dsimp only
  split
  · rename_i y q
    rw [q] at e
    exact congrArg some e
  · rename_i q
    rw [q] at e
    have a:es.toList.any (·.refKey)=false:=by
      rw [List.any_eq_false]
      intro y hy
      obtain ⟨z,t,hkey⟩:=hk y (Array.mem_toList_iff.mp hy)
      simp [DictEntry.refKey,hkey]
    have a':¬ es.toList.any (·.refKey)=true:=by rw [a];exact Bool.false_ne_true
    rw [if_neg a']
    exact congrArg some e
theorem ObjM.look {h:Heap} {x dx C:Addr} {mA:Str→Option Value} (I:ObjM h x dx C mA):∃ od,PySem.W.InstAt h x (PySem.W.instObj C dx) C (some od)∧∀ name,PySem.W.lookIn name od=some (mA name) :=
  let ⟨od,ho,hl⟩:=lookIn_ns I.ns
  ⟨od,⟨I.obj,rfl,rfl,ho⟩,hl⟩
section
variable {prog:Program} {w:World} {A:Around} {E:Value→Shared→Prop} {s:Shared} {K:PySem.W.Frag} {x dx C f:Addr} {mA:Str→Option Value} {name:Str} {v:Value}
theorem get_map {expr:Bool} {Q:Value→Shared→Prop} (X:K.In s.heap) (I:ObjM s.heap x dx C mA) (hg:PySem.W.plainGet K C name=true) (hh:PySem.W.hasDictIn K C=true)
    (ha:PySem.W.findIn K (.ref C) name=some none) (hv:mA name=some v) (hv':PySem.W.handedIn v=true) (h:Q v { s with toks:=s.toks + 1 }) :
    wpAny (model prog w) A (getAttr (.ref x) name expr) Q E s:=by
  obtain ⟨od,J,hl⟩:=I.look
  exact PySem.W.get_value X J (PySem.W.plainGet_of hg).1 (PySem.W.findObj_own hh ha rfl (by rw [hl,hv])) hv' h
theorem get_meth {pl:Sem Bool} {Q:Value×List Value→Shared→Prop} (X:K.In s.heap) (I:ObjM s.heap x dx C mA) (hg:PySem.W.plainGet K C name=true)
    (hf:PySem.W.findIn K (.ref C) name=some (some (.ref f))) (ht:PySem.W.isFn K (.ref f)=true) (hv:mA name=none) (h:Q (.ref f,[.ref x]) s) :
    wpAny (model prog w) A (getMethod (.ref x) name pl) Q E s:=by
  obtain ⟨od,J,hl⟩:=I.look
  exact PySem.W.method_fn X J (PySem.W.plainGet_of hg).1 (PySem.W.plainGet_of hg).2 hf (beq_iff_eq.mp ht) (by show (PySem.W.lookIn name od).map (·.isSome)=some false;rw [hl,hv];rfl) h
theorem set_map {ns:List Str} {Q:Unit→Shared→Prop} (X:K.In s.heap) (I:ObjM s.heap x dx C mA)
    (hs:PySem.W.findIn K (.ref C) "__setattr__" = some (some (.builtin "object.__setattr__"))) (hp:PySem.W.plainOver K C=true) (ht:PySem.W.takerIn K C name=some none) (hh:PySem.W.hasDictIn K C=true)
    (hw:PySem.Within mA ns) (hsz:ns.length≤sizeLine)
    (h:∀ h',ObjM h' x dx C (fun y=>if y=name then some v else mA y)→Heap.SameBut dx s.heap h'→Q () { s with heap:=h',toks:=s.toks + 2 }) :
    wpAny (model prog w) A (setAttr (.ref x) name v) Q E s:=by
  obtain ⟨od,J,hl⟩:=I.look
  refine PySem.W.set_plain X J hs (PySem.W.osa_open (s:={ s with toks:=s.toks + 1 }) (r:=none) X J hp ht fun b=>?_)
  obtain ⟨cd,hc,hd'⟩:=PySem.W.any_some hh
  have hx:s.heap.get? x=some ⟨.ref C,some dx,.plain,#[]⟩:=I.obj
  refine wpAny_bind (wpAny_pure (wpAny_bind (wpAny_bind (wpAny_loadPart hx (wpAny_bind (PySem.W.Looks.here (s:={ s with toks:=s.toks + 1 }) (PySem.W.looks_clsIn X hc) ?_))))))
  rw [hd']
  refine wpAny_pure (a:=some dx) (wpAny_bind (wpAny_pure (wpAny_bind ?_)))
  refine wpAny_nsSet1 (s:={ s with toks:=s.toks + 1 }) I.ns fun h' hn2 hs2=>?_
  obtain ⟨oD,esD,epD,hoD,hdD,hcD⟩:=hn2.count (PySem.Within.cons name v hw)
  refine wpAny_bind (wpAny_lookBehind hoD (by rw [hdD];exact pastItsLine_dict (Nat.le_trans hcD (by rw [List.length_cons];omega))) ?_)
  exact wpAny_pure (h _ ⟨(hs2.2 _ (Ne.symm I.ne)).trans I.obj,hn2,I.ne⟩ hs2)
theorem make_map {R:Result→Shared→Prop} {vs:List Value} {kw:List (Str×Value)} (X:K.In s.heap) (hm:PySem.W.makesIn K C=true)
    (hi:PySem.W.findIn K (.ref C) "__init__" = some (some (.ref f))) (hf:PySem.W.typeIn K (.ref f)=some (.type "function"))
    (h:codeAny (model prog w) (A.under (.builtin "type.__call__" ⟨.ref C :: vs,kw⟩)) (.call (.ref f) ⟨.ref (s.heap.objs.size + 1) :: vs,kw⟩) (PySem.W.InitBack (s.heap.objs.size + 1) R)
      { s with heap:=(s.heap.push PySem.W.emptyDict).push (PySem.W.instObj C s.heap.objs.size) }) :
    codeAny (model prog w) A (.call (.ref C) ⟨vs,kw⟩) R s:=by
  obtain ⟨hh,g,d,t,os⟩:=s
  exact PySem.W.make_core (PySem.W.makes_of X hm) (PySem.W.looks_findIn X hi) (fun self=>PySem.W.bind_fn X self hf) (.inl rfl) h
end
noncomputable def putF (f:Str) (v:V):List (Str×V)→List (Str×V)
  | []=>[(f,v)]
  | (g,x) :: r=>if g=f then (g,v) :: r else (g,x) :: putF f v r
theorem lookup_putF (f g:Str) (v:V):∀ fs:List (Str×V),(putF f v fs).lookup g=if g=f then some v else fs.lookup g
  | []=>by
    show List.lookup g [(f,v)]=_
    by_cases h:g=f
    · have hb:(g == f)=true:=beq_iff_eq.mpr h
      simp only [List.lookup,hb,if_pos h]
    · have hb:(g == f)=false:=beq_eq_false_iff_ne.mpr h
      simp only [List.lookup,hb,if_neg h]
  | (k,x) :: r=>by
    have ih:=lookup_putF f g v r
    rw [show putF f v ((k,x) :: r)=(if k=f then (k,v) :: r else (k,x) :: putF f v r) from rfl]
    by_cases hk:k=f
    · rw [if_pos hk]
      by_cases h:g=k
      · have hb:(g == k)=true:=beq_iff_eq.mpr h
        simp only [List.lookup,hb,if_pos (h.trans hk)]
      · have hb:(g == k)=false:=beq_eq_false_iff_ne.mpr h
        simp only [List.lookup,hb,if_neg (fun e:g=f=>h (e.trans hk.symm))]
    · rw [if_neg hk]
      by_cases h:g=k
      · have hb:(g == k)=true:=beq_iff_eq.mpr h
        simp only [List.lookup,hb,if_neg (fun e:g=f=>hk (h.symm.trans e))]
      · have hb:(g == k)=false:=beq_eq_false_iff_ne.mpr h
        simp only [List.lookup,hb]
        exact ih
theorem keys_putF (f:Str) (v:V):∀ fs:List (Str×V),f∈(putF f v fs).map (·.1)∧∀ g,g∈fs.map (·.1)→g∈(putF f v fs).map (·.1)
  | []=>⟨by simp [putF],fun g h=>by simp at h⟩
  | (k,x) :: r=>by
    obtain ⟨i1,i2⟩:=keys_putF f v r
    rw [show putF f v ((k,x) :: r)=(if k=f then (k,v) :: r else (k,x) :: putF f v r) from rfl]
    by_cases hk:k=f
    · rw [if_pos hk]
      subst hk
      exact ⟨by simp,fun g h=>by simpa using h⟩
    · rw [if_neg hk]
      refine ⟨?_,fun g h=>?_⟩
      · rw [List.map_cons]
        exact List.mem_cons_of_mem _ i1
      · rw [List.map_cons] at h ⊢
        rcases List.mem_cons.mp h with e | e
        · exact List.mem_cons.mpr (.inl e)
        · exact List.mem_cons_of_mem _ (i2 g e)
theorem length_putF (f:Str) (v:V):∀ fs:List (Str×V),(putF f v fs).length≤fs.length + 1
  | []=>by simp [putF]
  | (k,x) :: r=>by
    have ih:=length_putF f v r
    rw [show putF f v ((k,x) :: r)=(if k=f then (k,v) :: r else (k,x) :: putF f v r) from rfl]
    by_cases hk:k=f
    · rw [if_pos hk,List.length_cons,List.length_cons];omega
    · rw [if_neg hk,List.length_cons,List.length_cons];omega
theorem RelO.some_of {v:V} {o:Option Value} (r:RelO (some v) o):∃ u,o=some u∧RelV v u:=by
  cases o with
  | none=>exact (show False from r).elim
  | some u=>exact ⟨u,rfl,r⟩
theorem RelO.none_of {o:Option Value} (r:RelO none o):o=none:=by
  cases o with
  | none=>rfl
  | some u=>exact (show False from r).elim
theorem handed_of {v:V} {u:Value} (r:RelV v u):PySem.W.handedIn u=true:=by
  cases v with
  | non=>cases (show u=Value.none from r);rfl
  | bl b=>cases (show u=Value.bool b from r);rfl
  | int i=>obtain ⟨t,e⟩:=(show ∃ t,u=Value.int i t from r);cases e;rfl
  | str x=>obtain ⟨t,e⟩:=(show ∃ t,u=Value.str x t from r);cases e;rfl
  | byt b=>obtain ⟨t,e⟩:=(show ∃ t,u=Value.bytes b t from r);cases e;rfl
  | flt b=>obtain ⟨t,e⟩:=(show ∃ t,u=Value.float b t from r);cases e;rfl
  | ref a=>cases (show u=Value.ref a from r);rfl
  | ty n=>cases (show u=Value.type n from r);rfl
section
variable {P:Program} {w:World} {H H':Hp} {h h':Heap} {a C dx:Addr} {fs fs':List (Str×V)}
theorem ins_get (hok:HOk P w H h) (e:H a=some (.ins C dx fs)):∃ mA,ObjM h a dx C mA∧(∀ f,RelO (fs.lookup f) (mA f))∧PySem.Within mA (fs.map (·.1))∧fs.length≤1000∧H dx=some (.own a):=by
  obtain ⟨d,z,ne,ob,mA,n,r,q⟩:=(show ObjOk P w H h a (.ins C dx fs) from hok a _ e)
  exact ⟨mA,⟨ob,n,ne⟩,r,q,z,d⟩
end
structure Cls (K:PySem.W.Frag) (C:Addr):Prop where
  pg:PySem.W.plainGet K C Str.empty=true
  hd:PySem.W.hasDictIn K C=true
  po:PySem.W.plainOver K C=true
  sa:PySem.W.findIn K (.ref C) "__setattr__" = some (some (.builtin "object.__setattr__"))
theorem Cls.get {K:PySem.W.Frag} {C:Addr} (c:Cls K C) (f:Str):PySem.W.plainGet K C f=true:=c.pg
noncomputable def NoAttr (K:PySem.W.Frag) (C:Addr) (f:Str):Prop:=PySem.W.findIn K (.ref C) f=some none
theorem NoAttr.taker {K:PySem.W.Frag} {C:Addr} {f:Str} (n:NoAttr K C f):PySem.W.takerIn K C f=some none:=by
  unfold PySem.W.takerIn
  rw [show PySem.W.findIn K (.ref C) f=some none from n]
  rfl
structure Meth (K:PySem.W.Frag) (C:Addr) (m:Str) (f:Addr):Prop where
  at_:PySem.W.findIn K (.ref C) m=some (some (.ref f))
  fn:PySem.W.isFn K (.ref f)=true
  kp:PySem.W.keepIn K (.ref f)=true
section
variable {X:Cx} {pins:List (Addr×Obj)} {σ:St} {H:Hp} {s:Shared} {a C dx:Addr} {fs:List (Str×V)} {f:Str} {v:V} {A:Around} {E:Value→Shared→Prop}
theorem getattr_ok {b:Bool} {Q:Value→Shared→Prop} (I:Inv X pins σ H s) (e:H a=some (.ins C dx fs)) (c:Cls X.K C) (n:NoAttr X.K C f) (l:fs.lookup f=some v)
    (h:∀ u s',Inv X pins σ H s'→RelV v u→Q u s'):wpAny (model X.prog X.w) A (getAttr (.ref a) f b) Q E s:=by
  obtain ⟨mA,O,r,_,_,_⟩:=ins_get I.hok e
  obtain ⟨u,hu,ru⟩:=RelO.some_of (v:=v) (o:=mA f) (by rw [← l];exact r f)
  exact get_map I.kIn O (c.get f) c.hd n hu (handed_of ru) (h u _ (I.tok _) ru)
theorem getmeth_ok {m:Str} {g:Addr} {pl:Sem Bool} {Q:Value×List Value→Shared→Prop} (I:Inv X pins σ H s) (e:H a=some (.ins C dx fs)) (c:Cls X.K C) (k:Meth X.K C m g) (l:fs.lookup m=none)
    (h:Q (.ref g,[.ref a]) s):wpAny (model X.prog X.w) A (getMethod (.ref a) m pl) Q E s:=by
  obtain ⟨mA,O,r,_,_,_⟩:=ins_get I.hok e
  have hn:mA m=none:=RelO.none_of (by rw [← l];exact r m)
  exact get_meth I.kIn O (c.get m) k.at_ k.fn hn h
theorem setattr_ok {y:V} {u:Value} {Q:Unit→Shared→Prop} (I:Inv X pins σ H s) (e:H a=some (.ins C dx fs)) (c:Cls X.K C) (n:NoAttr X.K C f) (hl:fs.length < 1000) (ry:RelV y u)
    (h:∀ s',Inv X pins σ (upd H a (.ins C dx (putF f y fs))) s'→Q () s'):wpAny (model X.prog X.w) A (setAttr (.ref a) f u) Q E s:=by
  obtain ⟨mA,O,r,wi,_,ho⟩:=ins_get I.hok e
  have hz:(fs.map (·.1)).length≤sizeLine:=by rw [List.length_map,sizeLine_eq];omega
  refine set_map I.kIn O c.sa c.po n.taker c.hd wi hz fun h' O' sb=>h _ ?_
  have hd:∃ o,h'.get? dx=some o:=let ⟨o,_,_,e',_⟩:=O'.ns;⟨o,e'⟩
  refine I.write (x:=a) (e:=dx) (by rw [e];exact True.intro) (.inr ho) (fun b q hb z=>(sb.2 b hb).trans z) hd ?_
  refine ⟨by rw [upd_ne O.ne];exact ho,?_,O.ne,O'.obj,_,O'.ns,fun g=>?_,fun g hg=>?_⟩
  · have:=length_putF f y fs;omega
  · show RelO ((putF f y fs).lookup g) (if g=f then some u else mA g)
    rw [lookup_putF]
    by_cases q:g=f
    · rw [if_pos q,if_pos q];exact ry
    · rw [if_neg q,if_neg q];exact r g
  · by_cases q:g=f
    · rw [q];exact (keys_putF f y fs).1
    · refine (keys_putF f y fs).2 g (wi g fun z=>hg ?_)
      show (if g=f then some u else mA g)=none
      rw [if_neg q];exact z
theorem Inv.made (I:Inv X pins σ H s):Inv X pins σ (upd (upd H s.heap.objs.size (.own (s.heap.objs.size + 1))) (s.heap.objs.size + 1) (.ins C s.heap.objs.size []))
    { s with heap:=(s.heap.push PySem.W.emptyDict).push (PySem.W.instObj C s.heap.objs.size) }:=by
  have e1:(s.heap.push PySem.W.emptyDict).get? s.heap.objs.size=some PySem.W.emptyDict:=Heap.get?_push_size s.heap rfl
  have e2:((s.heap.push PySem.W.emptyDict).push (PySem.W.instObj C s.heap.objs.size)).get? (s.heap.objs.size + 1)=some (PySem.W.instObj C s.heap.objs.size):=by
    have:=Heap.get?_push_size (s.heap.push PySem.W.emptyDict) (o:=PySem.W.instObj C s.heap.objs.size) rfl
    rwa [Heap.size_push] at this
  have e3:(s.heap.push PySem.W.emptyDict).Ns s.heap.objs.size (fun _=>none):=⟨PySem.W.emptyDict,#[],_,e1,rfl,(fun e he=>absurd he (by simp)),fun _=>rfl⟩
  have I1:=I.laid (a:=s.heap.objs.size) (o:=.own (s.heap.objs.size + 1)) (h':=s.heap.push PySem.W.emptyDict) (t':=s.toks) (fun b u q=>Heap.get?_push_of_some _ q) (Nat.le_refl _) ⟨_,e1⟩
  refine I1.laid (a:=s.heap.objs.size + 1) (o:=.ins C s.heap.objs.size []) (t':=s.toks) (fun b u q=>Heap.get?_push_of_some _ q) (Nat.le_of_eq (Heap.size_push _ _)) ?_
  have ne:s.heap.objs.size≠s.heap.objs.size + 1:=Nat.ne_of_lt (Nat.lt_succ_self _)
  refine ⟨by rw [upd_ne ne,upd_same],Nat.zero_le _,ne,e2,fun _=>none,(Heap.Ns1.of_empty e3).at fun o q=>Heap.get?_push_of_some _ q,fun _=>True.intro,fun y hy=>absurd rfl hy⟩
theorem attr_of {prog:Program} {w:World} {env:Env} {e:Expr} {f:Str} {pos:Pos} {s:Shared} {Q:Value→Shared→Prop} (hb:attributeBase e f env (eval e env)=eval e env)
    (h:wpAny (model prog w) A (eval e env) (fun o s₁=>wpAny (model prog w) A (getAttr o f true) Q E s₁) E s):wpAny (model prog w) A (eval (.Attribute e f pos) env) Q E s :=
  Attribute_any_ h (by rw [arm_eval_Attribute,hb])
end
noncomputable def tFld (K:PySem.W.Frag) (ta:TE) (f:Str):TE:=fun σ H Q=>ta σ H fun x H1=>∃ a C dx fs v,x = .ref a∧H1 a=some (.ins C dx fs)∧Cls K C∧NoAttr K C f∧fs.lookup f=some v∧Q v H1
noncomputable def sFld (K:PySem.W.Frag) (ta tv:TE) (f:Str):TS:=fun D σ H=>tv σ H fun y H1=>ta σ H1 fun x H2=>∃ a C dx fs,x = .ref a∧H2 a=some (.ins C dx fs)∧Cls K C∧NoAttr K C f∧fs.length < 1000 ∧
  D.nx σ (upd H2 a (.ins C dx (putF f y fs)))
section
variable {X:Cx} {o e value:Expr} {f:Str} {pos pos' tpos:Pos} {ta tv:TE}
theorem pe_fld (he:PE X e ta) (hb:attributeBase e f X.env (eval e X.env)=eval e X.env):PE X (.Attribute e f pos) (tFld X.K ta f):=by
  intro pins s σ H Q I h
  refine attr_of hb (thn (he pins s σ H _ I h) fun u s1 hpq=>?_)
  obtain ⟨x,H1,I1,rx,a,C,dx,fs,v,ex,ea,c,n,l,q⟩:=hpq
  subst ex
  obtain rfl:u=Value.ref a:=rx
  exact getattr_ok I1 ea c n l fun u' s2 I2 ru=>⟨v,H1,I2,ru,q⟩
theorem ps_fld (ha:PE X o ta) (hv:PE X value tv) (hs:swapsWith value (some (.Attribute o f pos')) pos.line X.env=pure false):PS X (.Assign [.Attribute o f pos'] value pos) (sFld X.K ta tv f):=by
  intro pins s σ H D I h
  refine plainObj_wpAny_Assign_Attribute (thn (hv pins s σ H _ I h) fun u s1 ⟨y,H1,I1,ry,q⟩=>thn (ha pins s1 σ H1 _ I1 q) fun ov s2 hpq=>?_) hs
  obtain ⟨x,H2,I2,rx,a,C,dx,fs,ex,ea,c,n,l,q2⟩:=hpq
  subst ex
  obtain rfl:ov=Value.ref a:=rx
  exact setattr_ok I2 ea c n l ry fun s3 I3=>⟨σ,_,I3,q2⟩
end
section
variable {X:Cx} {pins:List (Addr×Obj)} {σ:St} {H:Hp} {s:Shared} {A:Around} {E:Value→Shared→Prop} {Q:Value→Shared→Prop} {c:Value} {b:Bool}
end
end L2
namespace L2
open PySem PySem.Spec PyProof.Rows
structure Room (k:Nat) (A:Around):Prop where
  hd:A.handled=none
  dp:A.depth + 3 * k + 5 < recursionLimit
  un:A.units + 16 * k + 200 < cLine
theorem Room.mono {j k:Nat} {A:Around} (r:Room k A) (h:j≤k):Room j A:=⟨r.hd,by have:=r.dp;omega,by have:=r.un;omega⟩
theorem Room.deeper {k:Nat} {A:Around} (r:Room (k + 1) A) (env:Env):Room k (A.deeper env) :=
  ⟨r.hd,by have:=r.dp;show A.depth + 1 + 3 * k + 5 < _;omega,by have:=r.un;show A.units + 3 + 16 * k + 200 < _;omega⟩
theorem make_depth {A:Around} {C:Addr} {us:List Value} {kw:List (Str×Value)}:(A.under (.builtin "type.__call__" ⟨.ref C :: us,kw⟩)).depth=A.depth + 1:=by
  first | rfl | simp [Around.under,Code.weight,Code.isCreation,Code.isGuard,Code.isCaller,Code.frames,Code.isFrame,guardIds]
theorem make_units {A:Around} {C:Addr} {us:List Value} {kw:List (Str×Value)}:(A.under (.builtin "type.__call__" ⟨.ref C :: us,kw⟩)).units=A.units + 1:=by
  first | rfl | simp [Around.under,Code.cUnits,Code.frames,Code.isFrame]
theorem Room.make {k:Nat} {A:Around} (r:Room (k + 1) A) (C:Addr) (us:List Value) (kw:List (Str×Value)):Room k (A.under (.builtin "type.__call__" ⟨.ref C :: us,kw⟩)) :=
  ⟨r.hd,by have:=r.dp;rw [make_depth];omega,by have:=r.un;rw [make_units];omega⟩
theorem Room.depth {k:Nat} {A:Around} (r:Room k A):A.depth < recursionLimit:=by have:=r.dp;omega
theorem Room.units {k:Nat} {A:Around} (r:Room k A):A.units + 64 < cLine:=by have:=r.un;omega
noncomputable def tNil:TA:=fun _ H Q=>Q [] H
noncomputable def tCons (ta:TE) (tr:TA):TA:=fun σ H Q=>ta σ H fun x H1=>tr σ H1 fun xs H2=>Q (x :: xs) H2
section
variable {X:Cx} {e:Expr} {es:List Expr} {te:TE} {t:TA} {pos:Pos}
theorem pa_nil:PA X [] tNil:=fun _ _ _ _ H Q I h=>Calls.spliced_nil ⟨[],H,I,.nil,h⟩
theorem pa_cons (ha:PE X e te) (hr:PA X es t) (hs:starEach (e :: es) X.env=(false,eval e X.env) :: starEach es X.env:=by rfl):PA X (e :: es) (tCons te t):=by
  intro pos pins s σ H Q I h
  rw [hs]
  show wpAny _ _ (spliced ((false,eval e X.env) :: backTo pos (starEach es X.env))) _ _ s
  refine Calls.spliced_cons (thn (ha pins s σ H _ I h) fun u s1 hpq=>?_)
  obtain ⟨x,H1,I1,r1,q1⟩:=hpq
  exact thn (hr pos pins s1 σ H1 _ I1 q1) fun us s2 ⟨xs,H2,I2,r2,q2⟩=>⟨x :: xs,H2,I2,.cons r1 r2,q2⟩
noncomputable def tTup (t:TA):TE:=fun σ H Q=>t σ H fun xs H1=>xs.length≤sizeLine∧∀ p,H1 p=none→Q (.ref p) (upd H1 p (.tup xs))
noncomputable def tLst (t:TA):TE:=fun σ H Q=>t σ H fun xs H1=>xs.length≤sizeLine∧∀ p,H1 p=none→Q (.ref p) (upd H1 p (.lst xs))
theorem pe_tup {x1} (h:PA X es t):PE X (.Tuple es x1 pos) (tTup t):=by
  intro pins s σ H Q I hq
  refine wpAny_Tuple_spliced (thn (h pos pins s σ H _ I hq) fun us s1 ⟨xs,H1,I1,r,z,q⟩=>⟨by rw [← r.length];exact z,?_⟩)
  have hf:H1 s1.heap.objs.size=none:=I1.hok.fresh (Nat.le_refl _)
  refine ⟨.ref s1.heap.objs.size,upd H1 s1.heap.objs.size (.tup xs),I1.laid (t':=s1.toks) (fun b u e=>Heap.get?_push_of_some _ e) (Nat.le_refl _) ?_,rfl,q _ hf⟩
  exact ⟨z,us,r,⟨_,Heap.get?_push_size _ rfl,rfl,_,rfl⟩⟩
theorem pe_lst (h:PA X es t):PE X (.List es pos) (tLst t):=by
  intro pins s σ H Q I hq
  refine wpAny_List_spliced (thn (h pos pins s σ H _ I hq) fun us s1 ⟨xs,H1,I1,r,z,q⟩=>⟨by rw [← r.length];exact z,?_⟩)
  have hf:H1 s1.heap.objs.size=none:=I1.hok.fresh (Nat.le_refl _)
  refine ⟨.ref s1.heap.objs.size,upd H1 s1.heap.objs.size (.lst xs),I1.laid (t':=s1.toks) (fun b u e=>Heap.get?_push_of_some _ e) (Nat.le_refl _) ?_,rfl,q _ hf⟩
  exact ⟨z,us,0,r,Heap.get?_push_size _ rfl⟩
end
noncomputable abbrev Sp:=List V→Hp→VK→XK→Prop
noncomputable abbrev CXT:=List Env→Hp→Shared→XK→Value→Shared→Prop
structure Env0 (P:Program) (w:World) (K:PySem.W.Frag) (mg:Str→Option Value) (base:Heap) (A:Around) (outer:List Env) (s:Shared) (H:Hp):Prop where
  frames:A.frames=some outer
  mod:Mod K mg base
  bs:∀ b o,base.get? b=some o→s.heap.get? b=some o∧H b=none
  bsz:base.objs.size≤s.heap.objs.size
  funs:s.heap.FunFrames base outer
  frf:∀ b∈frs outer,H b=none
  hok:HOk P w H s.heap
  bare:AllBare s.gens
noncomputable def CE (outer:List Env) (P:Program) (w:World) (H:Hp) (s:Shared) (Q:VK) (u:Value) (s':Shared):Prop :=
  ∃ v H',s'.os=s.os∧AllBare s'.gens∧Un (frs outer) [] H H' s.heap s'.heap∧HOk P w H' s'.heap∧RelV v u∧Q v H'
noncomputable def CR (CX:CXT) (outer:List Env) (P:Program) (w:World) (H:Hp) (s:Shared) (Q:VK) (E:XK) (r:Result) (s':Shared):Prop :=
  match r with
  | .ok (.ret u)=>CE outer P w H s Q u s'
  | .ok _=>False
  | .error e=>CX outer H s E e s'
structure FnOk (P:Program) (w:World) (K:PySem.W.Frag) (mg:Str→Option Value) (base:Heap) (CX:CXT) (k:Nat) (f:Addr) (fd:FuncData) (ps:List Str) (sp:Sp):Prop where
  len:∀ vs H Q E,sp vs H Q E→vs.length=ps.length
  run:∀ (A:Around) (outer:List Env) (s:Shared) (H:Hp) (args:Args) (us:List Value) (vs:List V) (Q:VK) (E:XK),Room k A→Env0 P w K mg base A outer s H→BindsTo s fd args (ps.zip us)→Vals vs us→sp vs H Q E →
    codeAny (model P w) A (.call (.ref f) args) (CR CX outer P w H s Q E) s
theorem Env0.make {P:Program} {w:World} {K:PySem.W.Frag} {mg:Str→Option Value} {base:Heap} {A:Around} {outer:List Env} {s:Shared} {H:Hp} (e:Env0 P w K mg base A outer s H) (C:Addr) (us:List Value) (kw:List (Str×Value)) :
    Env0 P w K mg base (A.under (.builtin "type.__call__" ⟨.ref C :: us,kw⟩)) outer s H:=⟨by first | exact e.frames | (simpa [Around.under,Code.envs,Code.isFrame,pushEnvs] using e.frames),e.mod,e.bs,e.bsz,e.funs,e.frf,e.hok,e.bare⟩
section
variable {X:Cx} {pins:List (Addr×Obj)} {σ:St} {H:Hp} {s s':Shared}
theorem Inv.env0 (I:Inv X pins σ H s):Env0 X.prog X.w X.K X.mg X.base X.A X.stack s H :=
  ⟨I.ok.frames,I.ok.mod,I.bs,Nat.le_trans I.ok.bsz I.sz,I.stack,I.stkFree,I.hok,I.bare⟩
theorem Inv.after {Q:VK} {u:Value} (I:Inv X pins σ H s) (h:CE X.stack X.prog X.w H s Q u s'):EP X pins σ Q u s':=by
  obtain ⟨v,H',os,bare,un,hok,r,q⟩:=h
  obtain ⟨hh,g,d,t,os'⟩:=s'
  obtain rfl:os'=s.os:=os
  exact ⟨v,H',I.call (h':=hh) (g':=g) (d':=d) (t':=t) (ch:=[]) un hok bare (fun b z=>absurd z (by simp)),r,q⟩
end
noncomputable def tCall (sp:Sp) (dvs:List V) (E:XK) (t:TA):TE:=fun σ H Q=>t σ H fun vs H1=>sp (vs++dvs) H1 Q E
noncomputable def tMeth (C:Addr) (m:Str) (sp:Sp) (dvs:List V) (E:XK) (ta:TE) (t:TA):TE:=fun σ H Q=>ta σ H fun x H1=>∃ a dx fs,x = .ref a∧H1 a=some (.ins C dx fs)∧fs.lookup m=none ∧
  t σ H1 fun vs H2=>sp (x :: (vs++dvs)) H2 Q E
noncomputable def tMake (C:Addr) (sp:Sp) (dvs:List V) (E:XK) (t:TA):TE:=fun σ H Q=>t σ H fun vs H1=>∀ x dx,H1 x=none→H1 dx=none→dx≠x →
  sp (.ref x :: (vs++dvs)) (upd (upd H1 dx (.own x)) x (.ins C dx [])) (fun v H2=>v = .non∧Q (.ref x) H2) E
noncomputable def Binds (K:PySem.W.Frag) (fd:FuncData) (ps:List Str) (ds:List Value):Prop :=
  ∀ (s:Shared) (us:List Value),K.In s.heap→(us++ds).length=ps.length→BindsTo s fd ⟨us,[]⟩ (ps.zip (us++ds))
theorem Binds.all {K:PySem.W.Frag} {fd:FuncData} {ps:List Str} (h:∀ us:List Value,us.length=ps.length→bindArgs fd ⟨us,[]⟩=pure (ps.zip us)):Binds K fd ps []:=fun s us _ hl=>by
  rw [List.append_nil] at hl ⊢
  exact .of_eq (h us hl)
noncomputable def Passes (CX:CXT) (X:Cx) (E:XK):Prop:=∀ (pins:List (Addr×Obj)) (σ:St) (H:Hp) (s:Shared) (e:Value) (s':Shared),Inv X pins σ H s→CX X.stack H s E e s'→X.xe e s'
section
variable {X:Cx} {CX:CXT} {k:Nat} {f C:Addr} {fd:FuncData} {ps:List Str} {sp:Sp} {dvs:List V} {ds:List Value} {E:XK} {x m:Str} {p pos apos:Pos} {e o:Expr} {es:List Expr} {ta:TE} {t:TA}
theorem run_fn {pins:List (Addr×Obj)} {σ:St} {H:Hp} {s:Shared} {Q:VK} {us:List Value} {vs:List V} (F:FnOk X.prog X.w X.K X.mg X.base CX k f fd ps sp) (hr:Room k X.A) (hb:Binds X.K fd ps ds) (hd:Vals dvs ds) (hx:Passes CX X E)
    (I:Inv X pins σ H s) (r:Vals vs us) (h:sp (vs++dvs) H Q E):wpAny (model X.prog X.w) X.A (call (.ref f) us) (EP X pins σ Q) X.xe s:=by
  have r2:Vals (vs++dvs) (us++ds):=r.append hd
  have hl:(us++ds).length=ps.length:=by rw [← r2.length];exact F.len _ _ _ _ h
  refine wpAny_call (codeAny_mono (F.run X.A X.stack s H ⟨us,[]⟩ (us++ds) (vs++dvs) Q E hr I.env0 (hb s us I.kIn hl) r2 h) fun r s' hq=>?_)
  cases r with
  | error e=>exact hx pins σ H s e s' I hq
  | ok fl =>
    cases fl with
    | ret u=>exact I.after hq
    | next=>exact False.elim hq
    | brk=>exact False.elim hq
    | cont=>exact False.elim hq
theorem pe_call (F:FnOk X.prog X.w X.K X.mg X.base CX k f fd ps sp) (hr:Room k X.A) (hg:Gl X x) (hm:X.mg x=some (.ref f)) (hk:PySem.W.keepIn X.K (.ref f)=true) (hb:Binds X.K fd ps ds) (hd:Vals dvs ds) (hx:Passes CX X E)
    (ha:PA X (e :: es) t) (hdb:(x == ("__debug__":Str))=false:=by decide) (he:starEach (e :: es) X.env=(false,eval e X.env) :: starEach es X.env:=by rfl) (hpl:(backTo pos (starEach es X.env)).any (·.1)=false:=by rfl) :
    PE X (.Call (.Name x p) (e :: es) [] pos) (tCall sp dvs E t):=by
  intro pins s σ H Q I h
  refine wpAny_Call_Name_kw (ld_glob I hg hm ?_ hdb)
  refine PySem.W.callWith_K (h₀:=X.base) I.ok.mod.kin hk (thn (ha pos pins s σ H _ I h) fun us s1 ⟨vs,H1,I1,r,q⟩=>⟨I1.kIn,?_⟩) he hpl
  exact run_fn F hr hb hd hx I1 r q
theorem pe_meth {pl:Sem Bool} (he:PE X o ta) (c:Cls X.K C) (hm:Meth X.K C m f) (F:FnOk X.prog X.w X.K X.mg X.base CX k f fd ps sp) (hr:Room k X.A) (hb:Binds X.K fd ps ds) (hd:Vals dvs ds) (hx:Passes CX X E) (ha:PA X (e :: es) t)
    (hst:starEach (e :: es) X.env=(false,eval e X.env) :: starEach es X.env:=by rfl) (hpl:(backTo pos (starEach es X.env)).any (·.1)=false:=by rfl)
    (ht:eval (.Call (.Attribute o m apos) (e :: es) [] pos) X.env=(do
      let ov ← eval o X.env
      standAt apos.atName
      let (f,first) ← holding [ov] (getMethod ov m pl)
      callWith pos f first (backTo pos (starEach (e :: es) X.env)) (backToKw pos (keywordEach [] X.env))):=by rfl) :
    PE X (.Call (.Attribute o m apos) (e :: es) [] pos) (tMeth C m sp dvs E ta t):=by
  intro pins s σ H Q I h
  refine PySem.W.methodCall_KW (pl:=pl) (thn (he pins s σ H _ I h) fun u s1 hpq=>?_) ht
  obtain ⟨x,H1,I1,rx,a,dx,fs,ex,ea,l,q⟩:=hpq
  subst ex
  obtain rfl:u=Value.ref a:=rx
  refine getmeth_ok I1 ea c hm l ?_
  refine PySem.W.callWith_K (first:=[.ref a]) (h₀:=X.base) I.ok.mod.kin hm.kp (thn (ha pos pins s1 σ H1 _ I1 q) fun us s2 ⟨vs,H2,I2,r,q2⟩=>⟨I2.kIn,?_⟩) hst hpl
  exact run_fn (us:=.ref a :: us) (vs:=.ref a :: vs) F hr hb hd hx I2 (.cons rfl r) q2
theorem pe_meth0 {pl:Sem Bool} (he:PE X o ta) (c:Cls X.K C) (hm:Meth X.K C m f) (F:FnOk X.prog X.w X.K X.mg X.base CX k f fd ps sp) (hr:Room k X.A) (hb:Binds X.K fd ps ds) (hd:Vals dvs ds) (hx:Passes CX X E)
    (ht:eval (.Call (.Attribute o m apos) [] [] pos) X.env=(do
      let ov ← eval o X.env
      standAt apos.atName
      let (f,first) ← holding [ov] (getMethod ov m pl)
      callWith pos f first (backTo pos (starEach [] X.env)) (backToKw pos (keywordEach [] X.env))):=by rfl) :
    PE X (.Call (.Attribute o m apos) [] [] pos) (tMeth C m sp dvs E ta tNil):=by
  intro pins s σ H Q I h
  refine PySem.W.methodCall_KW (pl:=pl) (thn (he pins s σ H _ I h) fun u s1 hpq=>?_) ht
  obtain ⟨x,H1,I1,rx,a,dx,fs,ex,ea,l,q⟩:=hpq
  subst ex
  obtain rfl:u=Value.ref a:=rx
  refine getmeth_ok I1 ea c hm l ?_
  exact PySem.W.callWith_K0 (first:=[.ref a]) I1.kIn hm.kp (run_fn (us:=[.ref a]) (vs:=[.ref a]) F hr hb hd hx I1 (.cons rfl .nil) q)
structure Mk (K:PySem.W.Frag) (C f:Addr):Prop where
  makes:PySem.W.makesIn K C=true
  init:PySem.W.findIn K (.ref C) "__init__" = some (some (.ref f))
  fn:PySem.W.isFn K (.ref f)=true
  kp:PySem.W.keepIn K (.ref C)=true
theorem run_make {pins:List (Addr×Obj)} {σ:St} {H:Hp} {s:Shared} {Q:VK} {us:List Value} {vs:List V} (M:Mk X.K C f) (F:FnOk X.prog X.w X.K X.mg X.base CX k f fd ps sp) (hr:Room (k + 1) X.A) (hb:Binds X.K fd ps ds) (hd:Vals dvs ds)
    (hx:Passes CX X E) (I:Inv X pins σ H s) (r:Vals vs us)
    (h:∀ x dx,H x=none→H dx=none→dx≠x→sp (.ref x :: (vs++dvs)) (upd (upd H dx (.own x)) x (.ins C dx [])) (fun v H2=>v = .non∧Q (.ref x) H2) E) :
    wpAny (model X.prog X.w) X.A (call (.ref C) us) (EP X pins σ Q) X.xe s:=by
  have hq:=h (s.heap.objs.size + 1) s.heap.objs.size (I.hok.fresh (Nat.le_succ _)) (I.hok.fresh (Nat.le_refl _)) (Nat.ne_of_lt (Nat.lt_succ_self _))
  have I2:=Inv.made (C:=C) I
  have r2:Vals (V.ref (s.heap.objs.size + 1) :: (vs++dvs)) (Value.ref (s.heap.objs.size + 1) :: (us++ds)):=.cons rfl (r.append hd)
  have hl:(Value.ref (s.heap.objs.size + 1) :: us++ds).length=ps.length:=by
    have e:=r2.length
    rw [F.len _ _ _ _ hq] at e
    exact e.symm
  refine wpAny_call (make_map (f:=f) I.kIn M.makes M.init (beq_iff_eq.mp M.fn) (codeAny_mono (F.run _ X.stack _ _ ⟨Value.ref (s.heap.objs.size + 1) :: us,[]⟩ (Value.ref (s.heap.objs.size + 1) :: (us++ds)) _ _ E (hr.make C us [])
    (I2.env0.make C us []) (hb _ (Value.ref (s.heap.objs.size + 1) :: us) I2.kIn hl) r2 hq) fun r s' hq'=>?_))
  cases r with
  | error e=>exact hx pins σ _ _ e s' I2 hq'
  | ok fl =>
    cases fl with
    | ret u =>
      obtain ⟨v,H',I3,rv,ev,q3⟩:=I2.after hq'
      subst ev
      exact ⟨rv,⟨V.ref (s.heap.objs.size + 1),H',I3,rfl,q3⟩⟩
    | next=>exact False.elim hq'
    | brk=>exact False.elim hq'
    | cont=>exact False.elim hq'
theorem pe_make (M:Mk X.K C f) (F:FnOk X.prog X.w X.K X.mg X.base CX k f fd ps sp) (hr:Room (k + 1) X.A) (hg:Gl X x) (hm:X.mg x=some (.ref C)) (hb:Binds X.K fd ps ds) (hd:Vals dvs ds) (hx:Passes CX X E)
    (ha:PA X (e :: es) t) (hdb:(x == ("__debug__":Str))=false:=by decide) (he:starEach (e :: es) X.env=(false,eval e X.env) :: starEach es X.env:=by rfl) (hpl:(backTo pos (starEach es X.env)).any (·.1)=false:=by rfl) :
    PE X (.Call (.Name x p) (e :: es) [] pos) (tMake C sp dvs E t):=by
  intro pins s σ H Q I h
  refine wpAny_Call_Name_kw (ld_glob I hg hm ?_ hdb)
  refine PySem.W.callWith_K (h₀:=X.base) I.ok.mod.kin M.kp (thn (ha pos pins s σ H _ I h) fun us s1 ⟨vs,H1,I1,r,q⟩=>⟨I1.kIn,?_⟩) he hpl
  exact run_make M F hr hb hd hx I1 r q
end
section
variable {X:Cx} {CX:CXT} {k:Nat} {f C:Addr} {fd:FuncData} {ps ks:List Str} {sp:Sp} {E:XK} {x m:Str} {p pos apos kpos:Pos} {e o:Expr} {es:List Expr} {kws:List Keyword} {te ta:TE} {t tk:TA} {nm:Option Str}
variable {g:List Value→List Value→List Value} {gV:List V→List V→List V}
end
structure FnScope (N P:List Str) (sc:Scope):Prop where
  kind:sc.kind = .function
  co:sc.isCoroutine=false
  gen:sc.isGenerator=false
  nd:N.Nodup
  pre:N.take P.length=P
  par:∀ x∈P,sc.names.lookup x=some .local∨sc.names.lookup x=some .cell
  nofree:∀ y∈sc.names,y.2≠.free
theorem bindL_out {kindOf:Str→Option NameKind} {x:Str}:∀ {binds:List (Str×Value)} {m:Str→Option Value},(∀ v,(x,v) ∉ binds)→bindL kindOf binds m x=m x
  | [],_,_=>rfl
  | (n,v) :: r,m,h=>by
    unfold bindL
    rw [bindL_out fun w hw=>h w (List.mem_cons_of_mem _ hw)]
    split
    · have:x≠n:=by rintro rfl;exact h v List.mem_cons_self
      simp [this]
    · rfl
theorem bindC_out {kindOf:Str→Option NameKind} {x:Str}:∀ {binds:List (Str×Value)} {m:Str→Option Value},(∀ v,(x,v) ∉ binds)→bindC kindOf binds m x=m x
  | [],_,_=>rfl
  | (n,v) :: r,m,h=>by
    unfold bindC
    rw [bindC_out fun w hw=>h w (List.mem_cons_of_mem _ hw)]
    split
    · rfl
    · have:x≠n:=by rintro rfl;exact h v List.mem_cons_self
      simp [this]
theorem bindL_get {kindOf:Str→Option NameKind} {x:Str} {v:Value}:∀ {P:List Str} {vs:List Value} {i:Nat} {m:Str→Option Value},P.Nodup→P[i]? = some x→vs[i]? = some v→kindOf x=some .local →
    bindL kindOf (P.zip vs) m x=some v
  | [],_,_,_,_,h,_,_=>by simp at h
  | _ :: _,[],_,_,_,_,h,_=>by simp at h
  | p :: P,w :: vs,0,m,nd,h1,h2,hk=>by
    simp at h1 h2;subst h1;subst h2
    show bindL kindOf ((p,w) :: P.zip vs) m p=_
    unfold bindL
    rw [bindL_out fun v hv=>(List.nodup_cons.mp nd).1 (List.of_mem_zip hv).1,if_pos hk]
    simp
  | p :: P,w :: vs,i + 1,m,nd,h1,h2,hk=>by
    show bindL kindOf ((p,w) :: P.zip vs) m x=_
    unfold bindL
    exact bindL_get (i:=i) (List.nodup_cons.mp nd).2 (by simpa using h1) (by simpa using h2) hk
theorem bindC_get {kindOf:Str→Option NameKind} {x:Str} {v:Value}:∀ {P:List Str} {vs:List Value} {i:Nat} {m:Str→Option Value},P.Nodup→P[i]? = some x→vs[i]? = some v→kindOf x≠some .local →
    bindC kindOf (P.zip vs) m x=some v
  | [],_,_,_,_,h,_,_=>by simp at h
  | _ :: _,[],_,_,_,_,h,_=>by simp at h
  | p :: P,w :: vs,0,m,nd,h1,h2,hk=>by
    simp at h1 h2;subst h1;subst h2
    show bindC kindOf ((p,w) :: P.zip vs) m p=_
    unfold bindC
    rw [bindC_out fun v hv=>(List.nodup_cons.mp nd).1 (List.of_mem_zip hv).1,if_neg hk]
    simp
  | p :: P,w :: vs,i + 1,m,nd,h1,h2,hk=>by
    show bindC kindOf ((p,w) :: P.zip vs) m x=_
    unfold bindC
    exact bindC_get (i:=i) (List.nodup_cons.mp nd).2 (by simpa using h1) (by simpa using h2) hk
noncomputable def start (N:List Str) (vs:List V):St:=vs.map some++List.replicate (N.length - vs.length) none
noncomputable def cxOf (CX:CXT) (P:Program) (w:World) (K:PySem.W.Frag) (mg:Str→Option Value) (base:Heap) (N:List Str) (qual:Str) (scope:Scope) (f:Addr) (cd:Value) (A:Around) (outer:List Env) (s:Shared) (H:Hp) (E:XK):Cx where
  prog:=P
  w:=w
  K:=K
  mg:=mg
  base:=base
  A:=A.deeper (envOfC qual scope s.heap.objs.size f cd)
  N:=N
  s₀:=s
  H₀:=H
  env:=envOfC qual scope s.heap.objs.size f cd
  outer:=outer
  stack:=envOfC qual scope s.heap.objs.size f cd :: outer
  ex:=[]
  calm:=true
  fn:=fun _=>true
  pn:=[]
  xe:=fun e s'=>wpAny (model P w) (A.deeper (envOfC qual scope s.heap.objs.size f cd)) (leaving (envOfC qual scope s.heap.objs.size f cd) e) (fun _ s''=>CX outer H s E e s'') (fun e' s''=>CX outer H s E e' s'') s'
theorem cell_has {sc:Scope} {n:Nat} {x:Str} (h:sc.names.lookup x=some .cell):∃ c,(cellsFrom n sc.names []).lookup x=some c:=by
  have q:=PySem.W.cellsFrom_some sc.names n [] (.inl h)
  exact Option.isSome_iff_exists.mp q
theorem inv_start {CX:CXT} {P:Program} {w:World} {K:PySem.W.Frag} {mg:Str→Option Value} {base:Heap} {N ps:List Str} {qual:Str} {scope:Scope} {f:Addr} {cd:Value} {A:Around} {outer:List Env} {s s1:Shared} {H:Hp} {E:XK} {us:List Value} {vs:List V}
    (S:FnScope N ps scope) (hd:A.handled=none) (e0:Env0 P w K mg base A outer s H) (hl:vs.length=ps.length) (r:Vals vs us)
    (x:InCallC s s.heap.objs.size (bindL (envOfC qual scope s.heap.objs.size f cd).kindOf (ps.zip us) fun _=>none) (cellsFrom (s.heap.objs.size + 1) scope.names []) (bindC (envOfC qual scope s.heap.objs.size f cd).kindOf (ps.zip us) fun _=>none) s1) :
    Inv (cxOf CX P w K mg base N qual scope f cd A outer s H E) [] (start N vs) H s1:=by
  have hpl:ps.length≤N.length:=by have:=congrArg List.length S.pre;rw [List.length_take] at this;omega
  obtain ⟨h1,tk,rfl,hk⟩:=x.done
  have noA:∀ b:Addr,b ∉ (cxOf CX P w K mg base N qual scope f cd A outer s H E).ex:=fun b z=>absurd (show b∈([]:List Addr) from z) (by simp)
  refine ⟨⟨e0.mod,S.kind,rfl,rfl,Nat.le_refl _,fun y z c h1 h2=>?_,fun y hy=>?_,fun y c _ h=>?_,fun _=>hd,Around.frames_deeper e0.frames,.inr ⟨rfl,rfl⟩,fun b z=>absurd z (noA b),e0.bs,e0.bsz,fun b _ _=>noA b,fun b z=>absurd z (noA b),e0.funs,e0.frf⟩,
    rfl,e0.bare,Un.kept hk,⟨_,x.toInCall.ns,fun i y v h1 h2 h3=>?_⟩,fun y c h=>⟨_,x.cell y c h⟩,e0.hok.fresh (Nat.le_refl _),fun y c h=>?_,fun p hp=>absurd (show p∈([]:List (Addr×Obj)) from hp) (by simp),e0.hok.kept hk,?_⟩
  · exact name_of_addr x.apart (PySem.mem_of_lookup h1) (PySem.mem_of_lookup h2)
  · have hy:scope.names.lookup y=some .cell∨scope.names.lookup y=some .free:=hy
    rcases hy with hy | hy
    · exact cell_has hy
    · exact absurd rfl (S.nofree _ (PySem.mem_of_lookup hy))
  · exact Nat.le_of_lt (x.above y c (PySem.mem_of_lookup h))
  · have hi:i < vs.length:=by
      unfold start at h2
      by_cases hi:i < vs.length
      · exact hi
      · rw [List.getElem?_append_right (by simpa using hi)] at h2
        rw [List.getElem?_replicate] at h2
        split at h2 <;> cases h2
    have ha:vs[i]? = some v:=by
      unfold start at h2
      rw [List.getElem?_append_left (by simpa using hi),List.getElem?_map] at h2
      cases e:vs[i]? with
      | none=>rw [e] at h2;cases h2
      | some a=>rw [e] at h2;cases h2;rfl
    obtain ⟨u,hu,rv⟩:=r.get ha
    have hp:ps[i]? = some y:=by
      rw [← S.pre,List.getElem?_take_of_lt (by omega)];exact h1
    have ndP:ps.Nodup:=by rw [← S.pre];exact S.nd.sublist (List.take_sublist _ _)
    refine ⟨u,rv,?_⟩
    rcases S.par y (List.mem_of_getElem? hp) with k | k
    · exact .inl ⟨k,bindL_get ndP hp hu k⟩
    · obtain ⟨c,e⟩:=cell_has (n:=s.heap.objs.size + 1) k
      refine .inr ⟨.inl k,c,e,?_⟩
      have q:=x.cell y c e
      rw [bindC_get ndP hp hu (by show scope.names.lookup y≠_;rw [k];decide)] at q
      exact q
  · exact e0.hok.fresh (Nat.le_of_lt (x.above y c (PySem.mem_of_lookup h)))
  · unfold start
    show _=N.length
    rw [List.length_append,List.length_map,List.length_replicate]
    omega
theorem fn_of {CX:CXT} {P:Program} {w:World} {K:PySem.W.Frag} {mg:Str→Option Value} {base:Heap} {k:Nat} {f:Addr} {name qual:Str} {params:Arguments} {body:List Stmt} {scope:Scope} {dV kV doc pm cdv ct oc:Value} {an od:Option Addr}
    {osl:Array (Option Value)} {N ps:List Str} {sp:Sp} (lk:K.lookup f=some ⟨oc,od,.func (PySem.W.fnOf name qual params body scope dV kV doc pm an cdv ct),osl⟩) (hcd:PySem.W.codeIn K cdv qual=true) (S:FnScope N ps scope)
    (len:∀ vs H Q E,sp vs H Q E→vs.length=ps.length)
    (hbody:∀ (A:Around) (outer:List Env) (s:Shared) (H:Hp) (vs:List V) (Q:VK) (E:XK),Room k (A.deeper (envOfC qual scope s.heap.objs.size f cdv))→sp vs H Q E →
      ∃ t,PSs (cxOf CX P w K mg base N qual scope f cdv A outer s H E) body t∧t { nx:=fun _ H'=>Q .non H',rt:=Q } (start N vs) H) :
    FnOk P w K mg base CX (k + 1) f (PySem.W.fnOf name qual params body scope dV kV doc pm an cdv ct) ps sp:=by
  refine ⟨len,fun A outer s H args us vs Q E hr e0 hb r hsp=>?_⟩
  have hl:=len _ _ _ _ hsp
  have KX:K.In s.heap:=e0.mod.kin.keeps fun b o e=>(e0.bs b o e).1
  have lim:s.heap.NoLimit:=e0.mod.nolimit.keeps fun b o e=>(e0.bs b o e).1
  have hkind:∀ y∈ps.zip us,scope.names.lookup y.1=some .local∨(scope.names.lookup y.1=some .cell∧((cellsFrom (s.heap.objs.size + 1) scope.names []).lookup y.1).isSome=true):=fun ⟨n,v⟩ hy=>by
    rcases S.par n (List.of_mem_zip hy).1 with q | q
    · exact .inl q
    · exact .inr ⟨q,PySem.W.cellsFrom_some _ _ _ (.inl q)⟩
  refine codeAny_call_function hr.depth (KX _ _ lk) rfl S.co S.gen rfl (PySem.W.codeRec_of KX hcd) (hb _ _ _ _ ?_)
  refine wpAny_newFunctionEnv_cells S.kind hkind fun env he s1 x=>?_
  subst he
  refine ⟨lim.keeps x.toInCall.keep,codeAny_func ?_⟩
  obtain ⟨t,ht,hq⟩:=hbody A outer s H vs Q E (hr.deeper _) hsp
  have I:Inv (cxOf CX P w K mg base N qual scope f cdv A outer s H E) [] (start N vs) H s1:=inv_start S hr.hd e0 hl r x
  refine wpAny_mono (ht [] s1 (start N vs) H _ I hq) (fun fl s' hs=>?_) fun e s' hs=>hs
  have fin:∀ {σ':St} {H':Hp} {v:V} {u:Value},Inv (cxOf CX P w K mg base N qual scope f cdv A outer s H E) [] σ' H' s'→RelV v u→Q v H'→CE outer P w H s Q u s' :=
    fun {σ' H' v u} J rv q=>⟨v,H',J.os,J.bare,J.base,J.hok,rv,q⟩
  cases fl with
  | ret u =>
    obtain ⟨v,σ',H',J,rv,q⟩:=hs
    exact fin J rv q
  | next =>
    obtain ⟨σ',H',J,q⟩:=hs
    exact fin (v:=V.non) (u:=Value.none) J rfl q
  | brk =>
    obtain ⟨_,_,_,q⟩:=hs
    exact False.elim q
  | cont =>
    obtain ⟨_,_,_,q⟩:=hs
    exact False.elim q
end L2
namespace L2
open PySem PySem.Spec PyProof.Rows
section
variable {X:Cx} {x:Str} {p pos:Pos} {e:Expr} {es:List Expr} {t:TA} {id T:String} {r:List V→Hp→VK→Prop}
noncomputable def tCB (r:List V→Hp→VK→Prop) (t:TA):TE:=fun σ H Q=>t σ H fun vs H1=>r vs H1 Q
theorem pe_callB (hc:CallR X (.builtin id) r) (hg:Gl X x) (hm:X.mg x=none) (hv:bootBuiltins x=some (.builtin id)) (ha:PA X (e :: es) t) (hn:x≠"__name__":=by decide) (hdb:(x == ("__debug__":Str))=false:=by decide)
    (he:starEach (e :: es) X.env=(false,eval e X.env) :: starEach es X.env:=by rfl) (hpl:(backTo pos (starEach es X.env)).any (·.1)=false:=by rfl):PE X (.Call (.Name x p) (e :: es) [] pos) (tCB r t):=by
  intro pins s σ H Q I h
  refine wpAny_Call_Name_kw (ld_blt I hg hm hv ?_ hn hdb)
  exact PyProof.Rows.callWith_builtin1 (thn (ha pos pins s σ H _ I h) fun us s1 ⟨vs,H1,I1,r1,q1⟩=>hc pins s1 σ H1 vs us Q I1 r1 q1) he hpl
theorem pe_callTy (hc:CallR X (.type T) r) (hg:Gl X x) (hm:X.mg x=none) (hv:bootBuiltins x=some (.type T)) (ha:PA X (e :: es) t) (hn:x≠"__name__":=by decide) (hdb:(x == ("__debug__":Str))=false:=by decide)
    (he:starEach (e :: es) X.env=(false,eval e X.env) :: starEach es X.env:=by rfl) (hpl:(backTo pos (starEach es X.env)).any (·.1)=false:=by rfl):PE X (.Call (.Name x p) (e :: es) [] pos) (tCB r t):=by
  intro pins s σ H Q I h
  refine wpAny_Call_Name_kw (ld_blt I hg hm hv ?_ hn hdb)
  exact PyProof.Rows.callWith_type1 (thn (ha pos pins s σ H _ I h) fun us s1 ⟨vs,H1,I1,r1,q1⟩=>hc pins s1 σ H1 vs us Q I1 r1 q1) he hpl
end
end L2
namespace HT
open PySem PyProof.Rows
section
open PySem.SeqAt
open PySem.AutoSeq1 (wpAny_loadPart')
open PySem.MeetsSeq PySem.MeetsSeq2 PySem.MeetsSeq3
end
section
variable {prog:Program} {w:World} {A:Around} {E:Value→Shared→Prop} {s:Shared}
end
end HT
namespace L2
open PySem PySem.Spec PyProof.Rows
noncomputable abbrev TO:=St→Hp→(Option Int→Hp→Prop)→Prop
noncomputable def PO (X:Cx) (e:Option Expr) (t:TO):Prop :=
  ∀ (pins:List (Addr×Obj)) (s:Shared) (σ:St) (H:Hp) (Q:Option Int→Hp→Prop),Inv X pins σ H s→t σ H Q →
    wpAny (model X.prog X.w) X.A (evalPart e X.env) (fun u s'=>∃ o H',Inv X pins σ H' s'∧IsPart u o∧Q o H') X.xe s
noncomputable def tNoPart:TO:=fun _ H Q=>Q none H
noncomputable def tPart (t:TE):TO:=fun σ H Q=>t σ H fun x H1=>∃ i,x = .int i∧Q (some i) H1
section
variable {X:Cx} {e:Expr} {te:TE} {lo hi:Option Expr} {tl th:TO} {pos p2:Pos}
theorem po_none:PO X none tNoPart:=by
  intro pins s σ H Q I h
  rw [evalPart_none]
  exact wpAny_pure ⟨none,H,I,.none,h⟩
theorem po_some (h:PE X e te):PO X (some e) (tPart te):=by
  intro pins s σ H Q I hw
  rw [evalPart_some]
  refine thn (h pins s σ H _ I hw) fun u s1 hpq=>?_
  obtain ⟨x,H1,I1,r1,q1⟩:=hpq
  obtain ⟨i,rfl,q⟩:=q1
  obtain ⟨t,rfl⟩:=r1
  exact ⟨some i,H1,I1,.int i t,q⟩
noncomputable def SlR (X:Cx) (r:V→Option Int→Option Int→Hp→VK→Prop):Prop :=
  ∀ (pins:List (Addr×Obj)) (s:Shared) (σ:St) (H:Hp) (x:V) (v vl vu:Value) (lo hi:Option Int) (sl:Addr) (Q:VK),Inv X pins σ H s→RelV x v→s.heap.IsSliceOf sl vl vu .none→IsPart vl lo→IsPart vu hi→r x lo hi H Q →
    ∃ T id,typeLookup (.type T) "__getitem__" = pure (some (.builtin id))∧s.TypeIs v T∧wpAny (model X.prog X.w) X.A (getItem v (.ref sl)) (EP X pins σ Q) X.xe s
noncomputable def tSl (r:V→Option Int→Option Int→Hp→VK→Prop) (te:TE) (tl th:TO):TE:=fun σ H Q=>te σ H fun x H1=>tl σ H1 fun l H2=>th σ H2 fun u H3=>r x l u H3 Q
theorem pe_slice {r:V→Option Int→Option Int→Hp→VK→Prop} (hr:SlR X r) (he:PE X e te) (hl:PO X lo tl) (hu:PO X hi th):PE X (.Subscript e (.Slice lo hi none p2) pos) (tSl r te tl th):=by
  intro pins s σ H Q I h
  refine Subscript_ (thn (he pins s σ H _ I h) fun v s1 hpq=>?_)
  obtain ⟨x,H1,I1,r1,q1⟩:=hpq
  refine wpAny_Slice (thn (hl pins s1 σ H1 _ I1 q1) fun vl s2 ⟨l,H2,I2,pl,q2⟩=>thn (hu pins s2 σ H2 _ I2 q2) fun vu s3 hpq=>?_)
  obtain ⟨u,H3,I3,pu,q3⟩:=hpq
  rw [evalPart_none]
  refine wpAny_pure ?_
  have I4:Inv X pins σ H3 { s3 with heap:=s3.heap.push { cls:=.type "slice",data:=.fields #[vl,vu,.none] } }:=I3.kept (t':=s3.toks) fun b ob q=>Heap.get?_push_of_some _ q
  obtain ⟨T,id,hT,ht,hg⟩:=hr pins { s3 with heap:=s3.heap.push { cls:=.type "slice",data:=.fields #[vl,vu,.none] } } σ H3 x v vl vu l u s3.heap.objs.size Q I4 r1 (Heap.IsSliceOf.new ..) pl pu q3
  show wpAny (model X.prog X.w) X.A (subscriptTail e (.Slice lo hi none p2) v (.ref s3.heap.objs.size)) (EP X pins σ Q) X.xe { s3 with heap:=s3.heap.push { cls:=.type "slice",data:=.fields #[vl,vu,.none] } }
  exact tail_any (ops:=[.ref s3.heap.objs.size,v]) ht hT hg (by with_unfolding_all rfl)
end
end L2
namespace L2
open PySem PySem.Spec PyProof.Rows
noncomputable def ixN (n:Nat) (i:Int):Option Nat:=if 0≤i then (if i < n then some i.toNat else none) else if -(n:Int)≤i then some (i + n).toNat else none
noncomputable def atI {α:Type} (xs:List α) (i:Int):Option α:=(ixN xs.length i).bind fun j=>xs[j]?
theorem ixN_seq {n:Nat} {i:Int} {j:Nat} (h:ixN n i=some j):seqIndex? i n=some j∧j < n∧-(n:Int)≤i∧i < n:=by
  unfold ixN at h
  by_cases h0:0≤i
  · rw [if_pos h0] at h
    by_cases h1:i < n
    · rw [if_pos h1] at h
      have e:i.toNat=j:=Option.some.inj h
      exact ⟨by rw [seqIndex_of h0 h1,e],by omega,by omega,h1⟩
    · rw [if_neg h1] at h;cases h
  · rw [if_neg h0] at h
    by_cases h1:-(n:Int)≤i
    · rw [if_pos h1] at h
      have e:(i + n).toNat=j:=Option.some.inj h
      exact ⟨by rw [seqIndex_neg (by omega) h1,e],by omega,h1,by omega⟩
    · rw [if_neg h1] at h;cases h
theorem atI_get {α:Type} {xs:List α} {i:Int} {v:α} (h:atI xs i=some v):∃ j,seqIndex? i xs.length=some j∧xs[j]? = some v∧j < xs.length∧-(xs.length:Int)≤i∧i < xs.length:=by
  unfold atI at h
  cases e:ixN xs.length i with
  | none=>rw [e] at h;cases h
  | some j =>
    rw [e] at h
    obtain ⟨h1,h2,h3,h4⟩:=ixN_seq e
    exact ⟨j,h1,h,h2,h3,h4⟩
theorem atI_nat {α:Type} {xs:List α} {j:Nat} {v:α} (h:xs[j]? = some v):atI xs (j:Int)=some v:=by
  have hj:j < xs.length:=(List.getElem?_eq_some_iff.mp h).1
  have e:ixN xs.length (j:Int)=some j:=by
    unfold ixN
    rw [if_pos (by omega),if_pos (by omega)];simp
  unfold atI;rw [e];exact h
noncomputable def PlainIx (b:Expr):Prop:=∀ o i,subscripted b false o i=operate [o,i] (getItem o i)
noncomputable def IxR (X:Cx) (r:R2):Prop :=
  ∀ (value slice:Expr) (pins:List (Addr×Obj)) (s:Shared) (σ:St) (H:Hp) (x y:V) (v u:Value) (Q:VK),Inv X pins σ H s→RelV x v→RelV y u→r x y H Q →
    subscripted slice false v u=operate [v,u] (getItem v u)→wpAny (model X.prog X.w) X.A (subscriptTail value slice v u) (EP X pins σ Q) X.xe s
noncomputable def MtR (X:Cx) (id:String) (r:V→List V→Hp→VK→Prop):Prop :=
  ∀ (pins:List (Addr×Obj)) (s:Shared) (σ:St) (H:Hp) (x:V) (xs:List V) (v:Value) (us:List Value) (Q:VK),Inv X pins σ H s→RelV x v→Vals xs us→r x xs H Q →
    wpAny (model X.prog X.w) X.A (call (.builtin id) (v :: us)) (EP X pins σ Q) X.xe s
section
variable {X:Cx} {a b:Expr} {ta tb:TE} {pos:Pos}
theorem pe_ix {r:R2} (hr:IxR X r) (ha:PE X a ta) (hb:PE X b tb) (hs:PlainIx b):PE X (.Subscript a b pos) (tOp r ta tb):=by
  intro pins s σ H Q I h
  exact Subscript_ (binT ha hb I h fun v u s2 x y H2 I2 rx ry q=>hr a b pins s2 σ H2 x y v u Q I2 rx ry q (hs _ _))
noncomputable def rIxL (K:PySem.W.Frag):R2:=fun x y H Q=>∃ p xs i v,x = .ref p∧y = .int i∧SqL K H p xs∧atI xs i=some v∧Q v H
noncomputable def rIxT (K:PySem.W.Frag):R2:=fun x y H Q=>∃ p xs i v,x = .ref p∧y = .int i∧SqT K H p xs∧atI xs i=some v∧Q v H
theorem ix_list:IxR X (rIxL X.K):=by
  intro value slice pins s σ H x y v u Q I rx ry h hs
  obtain ⟨p,xs,i,z,rfl,rfl,hq,he,q⟩:=h
  cases rx
  obtain ⟨t,rfl⟩:=ry
  obtain ⟨its,r,pl,hz⟩:=I.list hq
  obtain ⟨j,h1,h2,h3,h4,h5⟩:=atI_get he
  obtain ⟨w,ew,rw'⟩:=r.get h2
  have hl:=r.length
  have hn:=line63
  have fin:EP X pins σ Q w s:=⟨z,H,I,rw',q⟩
  by_cases h0:0≤i
  · have hj:i.toNat=j:=by
      rw [seqIndex_of h0 h5] at h1
      exact Option.some.inj h1
    exact item_listR pl.isList h0 (by omega) (by rw [hj];simpa using ew) fin hs
  · have hj:(i + (its.toArray.size:Int)).toNat=j:=by
      rw [seqIndex_neg (by omega) h4] at h1
      rw [List.size_toArray,← hl]
      exact Option.some.inj h1
    exact subscriptTail_builtinR (x:=w) pl.isList.typeIs slot_list_getitem.lookup
      (wpAny_getItem_list_neg (Q:=fun r s'=>r=w∧EP X pins σ Q r s') pl.isList (by omega) (by rw [List.size_toArray] <;> omega) (by omega) (by rw [hj];simpa using ew) ⟨rfl,fin⟩) hs
theorem ix_tup:IxR X (rIxT X.K):=by
  intro value slice pins s σ H x y v u Q I rx ry h hs
  obtain ⟨p,xs,i,z,rfl,rfl,hq,he,q⟩:=h
  cases rx
  obtain ⟨t,rfl⟩:=ry
  obtain ⟨its,r,pl,hz⟩:=I.tuple hq
  obtain ⟨j,h1,h2,h3,h4,h5⟩:=atI_get he
  obtain ⟨w,ew,rw'⟩:=r.get h2
  have hl:=r.length
  have hn:=line63
  have fin:EP X pins σ Q w s:=⟨z,H,I,rw',q⟩
  exact subscriptTail_builtinR (x:=w) pl.typeIs slot_tuple_getitem.lookup
    (getItem_tuple (j:=j) (Q:=fun r s'=>r=w∧EP X pins σ Q r s') pl (by omega) (by omega) (by rw [List.size_toArray,← hl];exact h1) (by simpa using ew) ⟨rfl,fin⟩) hs
noncomputable def flatV:V→Bool
  | .non=>true
  | .bl _=>true
  | .int _=>true
  | .str _=>true
  | _=>false
noncomputable def eqV:V→V→Bool
  | .non,.non=>true
  | .bl a,.bl b=>a == b
  | .bl a,.int b=>(if a then 1 else 0) == b
  | .int a,.bl b=>a == (if b then 1 else 0)
  | .int a,.int b=>a == b
  | .str a,.str b=>a == b
  | _,_=>false
theorem eqAt_V {A:Around} {s:Shared} {y x:V} {u v:Value} (ry:RelV y u) (rx:RelV x v) (fy:flatV y=true) (fx:flatV x=true):SeqAt.EqAt A s u v (eqV y x):=by
  cases y with
  | non =>
    cases ry
    cases x with
    | non=>cases rx;exact SeqAt.EqAt.same _
    | bl b=>cases rx;exact SeqAt.EqAt.none_bool b
    | int b=>obtain ⟨t,rfl⟩:=rx;exact SeqAt.EqAt.none_int b t
    | str b=>obtain ⟨t,rfl⟩:=rx;exact SeqAt.EqAt.none_str b t
    | _=>exact absurd (show false=true from fx) Bool.false_ne_true
  | bl a =>
    cases ry
    cases x with
    | non=>cases rx;exact SeqAt.EqAt.bool_none a
    | bl b=>cases rx;exact SeqAt.EqAt.bool_bool a b
    | int b=>obtain ⟨t,rfl⟩:=rx;exact SeqAt.EqAt.bool_int a b t
    | str b=>obtain ⟨t,rfl⟩:=rx;exact SeqAt.EqAt.bool_str a b t
    | _=>exact absurd (show false=true from fx) Bool.false_ne_true
  | int a =>
    obtain ⟨t',rfl⟩:=ry
    cases x with
    | non=>cases rx;exact SeqAt.EqAt.int_none a t'
    | bl b=>cases rx;exact SeqAt.EqAt.int_bool a t' b
    | int b=>obtain ⟨t,rfl⟩:=rx;exact SeqAt.EqAt.int_int a t' b t
    | str b=>obtain ⟨t,rfl⟩:=rx;exact SeqAt.EqAt.int_str a t' b t
    | _=>exact absurd (show false=true from fx) Bool.false_ne_true
  | str a =>
    obtain ⟨t',rfl⟩:=ry
    cases x with
    | non=>cases rx;exact SeqAt.EqAt.str_none a t'
    | bl b=>cases rx;exact SeqAt.EqAt.str_bool a t' b
    | int b=>obtain ⟨t,rfl⟩:=rx;exact SeqAt.EqAt.str_int a t' b t
    | str b=>obtain ⟨t,rfl⟩:=rx;exact SeqAt.EqAt.str_str a t' b t
    | _=>exact absurd (show false=true from fx) Bool.false_ne_true
  | _=>exact absurd (show false=true from fy) Bool.false_ne_true
noncomputable def eqU (x:V) (u:Value):Bool:=match u with
  | .none=>eqV .non x
  | .bool b=>eqV (.bl b) x
  | .int i _=>eqV (.int i) x
  | .str z _=>eqV (.str z) x
  | _=>false
theorem eqU_of {x y:V} {u:Value} (r:RelV y u) (f:flatV y=true):eqU x u=eqV y x:=by
  cases y with
  | non=>cases r;rfl
  | bl b=>cases r;rfl
  | int i=>obtain ⟨t,rfl⟩:=r;rfl
  | str z=>obtain ⟨t,rfl⟩:=r;rfl
  | _=>exact absurd (show false=true from f) Bool.false_ne_true
theorem any_eqU {x:V}:∀ {xs:List V} {us:List Value},Vals xs us→xs.all flatV=true→us.any (eqU x)=xs.any fun y=>eqV y x
  | _,_,.nil,_=>rfl
  | y :: xs,u :: us,.cons r t,f=>by
    rw [List.all_cons,Bool.and_eq_true] at f
    rw [List.any_cons,List.any_cons,eqU_of r f.1,any_eqU t f.2]
theorem mem_eqAt {A:Around} {s:Shared} {x:V} {v:Value} (rx:RelV x v) (fx:flatV x=true):∀ {xs:List V} {us:List Value},Vals xs us→xs.all flatV=true→∀ u∈us,SeqAt.EqAt A s u v (eqU x u)
  | _,_,.nil,_=>fun u hu=>by cases hu
  | y :: xs,u :: us,.cons r t,f=>fun u' hu=>by
    rw [List.all_cons,Bool.and_eq_true] at f
    rcases List.mem_cons.mp hu with rfl | hu
    · rw [eqU_of r f.1];exact eqAt_V r rx f.1 fx
    · exact mem_eqAt rx fx t f.2 u' hu
noncomputable def inV (x:V) (xs:List V):Bool:=xs.any fun y=>eqV y x
noncomputable def rIn (K:PySem.W.Frag) (neg:Bool):R2:=fun x y H Q=>∃ p xs,y = .ref p∧(SqL K H p xs∨SqT K H p xs)∧flatV x=true∧xs.all flatV=true∧Q (.bl (if neg then !inV x xs else inV x xs)) H
theorem op_in_seq:OpR X (compareOp .In) (rIn X.K false):=by
  intro pins s σ H x y v u Q I rx ry h
  obtain ⟨p,xs,rfl,hq,fx,fs,q⟩:=h
  cases ry
  rcases hq with hq | hq
  · obtain ⟨its,r,pl,hz⟩:=I.list hq
    refine SeqAt.in_listAt (eqU x) pl.isList (fun w hw=>mem_eqAt rx fx r fs w (by simpa using hw)) ⟨.bl _,H,I,rfl,?_⟩
    rw [show its.toArray.any (eqU x)=its.any (eqU x) by simp,any_eqU r fs]
    exact q
  · obtain ⟨its,r,pl,hz⟩:=I.tuple hq
    refine SeqAt.in_tupleAt (eqU x) pl (fun w hw=>mem_eqAt rx fx r fs w (by simpa using hw)) ⟨.bl _,H,I,rfl,?_⟩
    rw [show its.toArray.any (eqU x)=its.any (eqU x) by simp,any_eqU r fs]
    exact q
theorem op_notIn_seq:OpR X (compareOp .NotIn) (rIn X.K true):=by
  intro pins s σ H x y v u Q I rx ry h
  obtain ⟨p,xs,rfl,hq,fx,fs,q⟩:=h
  cases ry
  rcases hq with hq | hq
  · obtain ⟨its,r,pl,hz⟩:=I.list hq
    refine SeqAt.notIn_listAt (eqU x) pl.isList (fun w hw=>mem_eqAt rx fx r fs w (by simpa using hw)) ⟨.bl _,H,I,rfl,?_⟩
    rw [show its.toArray.any (eqU x)=its.any (eqU x) by simp,any_eqU r fs]
    exact q
  · obtain ⟨its,r,pl,hz⟩:=I.tuple hq
    refine SeqAt.notIn_tupleAt (eqU x) pl (fun w hw=>mem_eqAt rx fx r fs w (by simpa using hw)) ⟨.bl _,H,I,rfl,?_⟩
    rw [show its.toArray.any (eqU x)=its.any (eqU x) by simp,any_eqU r fs]
    exact q
theorem call_len_seq:CallR X (.builtin "len") (fun xs H Q=>∃ p ys,xs=[.ref p]∧(SqL X.K H p ys∨SqT X.K H p ys)∧Q (.int ys.length) H):=by
  intro pins s σ H xs us Q I r h
  obtain ⟨p,ys,rfl,hq,q⟩:=h
  obtain ⟨u,rfl,rx⟩:=vals1 r
  cases rx
  have hn:=line63
  rcases hq with hq | hq
  · obtain ⟨its,r',pl,hz⟩:=I.list hq
    have hlen:=r'.length
    exact Calls.call_len_list pl.isList (by simp only [List.size_toArray] <;> omega) ⟨.int ys.length,H,I.tok _,⟨s.toks + 1,by rw [List.size_toArray,hlen]⟩,q⟩
  · obtain ⟨its,r',pl,hz⟩:=I.tuple hq
    have hlen:=r'.length
    exact len_tuple pl (by simp only [List.size_toArray] <;> omega) ⟨.int ys.length,H,I.tok _,⟨s.toks + 1,by rw [List.size_toArray,hlen]⟩,q⟩
theorem call_len_str:CallR X (.builtin "len") (fun xs H Q=>∃ z,xs=[.str z]∧z.length≤sizeLine∧Q (.int z.length) H):=by
  intro pins s σ H xs us Q I r h
  obtain ⟨z,rfl,hz,q⟩:=h
  obtain ⟨u,rfl,t,rfl⟩:=vals1 r
  have hn:=line63
  exact len_str (by omega) ⟨.int z.length,H,I.tok _,⟨_,rfl⟩,q⟩
noncomputable def tyV (K:PySem.W.Frag) (T:String) (x:V) (H:Hp):Prop:=match x with
  | .str _=>T = "str"
  | .int _=>T = "int"
  | .ref p=>(T = "list"∧∃ xs,SqL K H p xs)∨(T = "tuple"∧∃ o,K.lookup p=some o∧o.cls = .type "tuple"∧o.dict=none) ∨
      (T = "dict"∧((∃ kvs,H p=some (.dK kvs))∨∃ kvs,H p=some (.dT kvs)))∨(T = "set"∧∃ S n,H p=some (.set S n))
  | _=>False
theorem tyV_is {pins:List (Addr×Obj)} {σ:St} {H:Hp} {s:Shared} {T:String} {x:V} {v:Value} (I:Inv X pins σ H s) (r:RelV x v) (ty:tyV X.K T x H) :
    s.TypeIs v T∧∀ a,v = .ref a→∃ ob,s.heap.get? a=some ob∧ob.dict=none:=by
  cases x with
  | str z =>
    obtain ⟨t,rfl⟩:=r
    cases (show T = "str" from ty)
    exact ⟨typeIs_str s z t,fun _ e=>nomatch e⟩
  | int i =>
    obtain ⟨t,rfl⟩:=r
    cases (show T = "int" from ty)
    exact ⟨typeIs_int s i t,fun _ e=>nomatch e⟩
  | ref p =>
    cases r
    rcases ty with ⟨rfl,xs,hq⟩ | ⟨rfl,o,hk,hc,hd⟩ | ⟨rfl,hk⟩ | ⟨rfl,S,n,hk⟩
    · obtain ⟨its,_,pl,_⟩:=I.list hq
      refine ⟨pl.isList.typeIs,fun a e=>?_⟩
      cases e
      obtain ⟨o,n,e,c,hd,_⟩:=pl
      exact ⟨o,e,hd⟩
    · refine ⟨⟨o,I.kIn p o hk,hc⟩,fun a e=>?_⟩
      cases e
      exact ⟨o,I.kIn _ o hk,hd⟩
    · have z:∃ o,s.heap.get? p=some o∧o.ExactDict:=by
        rcases hk with ⟨kvs,hk⟩ | ⟨kvs,hk⟩
        · obtain ⟨_,_,_,_,o,_,_,e,ex,_⟩:=I.hok p _ hk
          exact ⟨o,e,ex⟩
        · obtain ⟨_,_,_,_,o,_,_,e,ex,_⟩:=I.hok p _ hk
          exact ⟨o,e,ex⟩
      obtain ⟨o,e,ex⟩:=z
      refine ⟨⟨o,e,ex.1⟩,fun a e2=>?_⟩
      cases e2
      exact ⟨o,e,ex.2.1⟩
    · obtain ⟨o,_,_,_,e,ex,_⟩:=I.hok p _ hk
      refine ⟨⟨o,e,ex.1⟩,fun a e2=>?_⟩
      cases e2
      exact ⟨o,e,ex.2.1⟩
  | _=>exact False.elim ty
noncomputable def tBM (K:PySem.W.Frag) (T:String) (r:V→List V→Hp→VK→Prop) (to:TE) (t:TA):TE:=fun σ H Q=>to σ H fun x H1=>tyV K T x H1∧t σ H1 fun xs H2=>r x xs H2 Q
variable {o e:Expr} {es:List Expr} {to:TE} {t:TA} {name:Str} {apos cpos:Pos} {T id:String} {r:V→List V→Hp→VK→Prop}
theorem pe_bm (pa:PlainAttrs T) (slot:Slot T name id) (hty:typeOf (.builtin id)=pure (.type "method_descriptor")) (hm:MtR X id r) (ho:PE X o to) (ha:PA X (e :: es) t)
    (hbase:attributeBase o name X.env (eval o X.env)=eval o X.env:=by rfl)
    (hfew:((backTo cpos (starEach (e :: es) X.env)).all (fun x=>!x.1) && (backToKw cpos (keywordEach [] X.env)).all (fun x=>x.1.isSome)
      && decide ((e :: es).length + ([]:List Keyword).length + (if ([]:List Keyword).isEmpty then 0 else 1) < 30))=true:=by rfl)
    (hline:(apos.endLine == cpos.line)=true:=by rfl) (hs:starEach (e :: es) X.env=(false,eval e X.env) :: starEach es X.env:=by rfl) (hplain:(backTo cpos (starEach es X.env)).any (·.1)=false:=by rfl) :
    PE X (.Call (.Attribute o name apos) (e :: es) [] cpos) (tBM X.K T r to t):=by
  intro pins s σ H Q I h
  refine wpAny_Call_method_late hbase hfew hline rfl (thn (ho pins s σ H _ I h) fun v s1 hpq=>?_)
  obtain ⟨x,H1,I1,r1,ty,q1⟩:=hpq
  obtain ⟨h1,h2⟩:=tyV_is I1 r1 ty
  refine ⟨T,id,pa,slot,hty,h1,h2,?_⟩
  have hA:=ha cpos pins s1 σ H1 _ I1 q1
  rw [hs] at hA ⊢
  refine Calls.callWith_builtin (by show (false || (backTo cpos (starEach es X.env)).any (·.1))=false;rw [hplain] <;> rfl) (Calls.evalArgs_plain ?_)
  exact thn hA fun us s2 ⟨vs,H2,I2,r2,q2⟩=>hm pins s2 σ H2 x vs v us Q I2 r1 r2 q2
end
end L2
namespace L2
open PySem PySem.Spec PyProof.Rows
noncomputable def MtM (X:Cx) (id:String) (r:V→List V→Hp→VK→Prop):Prop :=
  ∀ (pins:List (Addr×Obj)) (s:Shared) (σ:St) (H:Hp) (x:V) (xs:List V) (v:Value) (us:List Value) (Q:VK),Inv X pins σ H s→RelV x v→Vals xs us→r x xs H Q →
    wpAny (model X.prog X.w) X.A (call (.builtin id) (v :: us)) (EP X pins σ Q) X.xe s
theorem Vals.one:∀ {x:V} {us:List Value},Vals [x] us→∃ u,us=[u]∧RelV x u
  | _,_,.cons r .nil=>⟨_,rfl,r⟩
section
variable {X:Cx} {pins:List (Addr×Obj)} {σ:St} {H:Hp} {s:Shared} {l b:Addr} {xs ys zs:List V}
theorem Inv.lset {its its':List Value} {n:Nat} {f:Array Value→Array Value} {t':Nat} (I:Inv X pins σ H s) (hH:H l=some (.lst xs))
    (e:s.heap.get? l=some { cls:=.type "list",data:=.seq its.toArray n }) (hf:f its.toArray=its'.toArray) (hv:Vals ys its') (hz:ys.length≤sizeLine) :
    Inv X pins σ (upd H l (.lst ys)) { s with heap:=s.heap.update l (Obj.mapSeq f),toks:=t' }:=by
  have q:=PySem.IsL.update e f
  rw [hf] at q
  refine I.write (x:=l) (e:=l) (by rw [hH];exact trivial) (.inl rfl) (fun b' u hb hu=>(Heap.get?_update_other s.heap (Obj.mapSeq f) (Ne.symm hb)).trans hu) ⟨_,q⟩ ?_
  exact ⟨hz,its',_,hv,q⟩
theorem Inv.lnew {its:List Value} {t':Nat} (I:Inv X pins σ H s) (hv:Vals ys its) (hz:ys.length≤sizeLine) :
    Inv X pins σ (upd H s.heap.objs.size (.lst ys)) { s with heap:=s.heap.push { cls:=.type "list",data:=.seq its.toArray },toks:=t' } :=
  I.laid (fun _ _ q=>Heap.get?_push_of_some _ q) (Nat.le_refl _) ⟨hz,its,0,hv,Heap.get?_push_size _ rfl⟩
theorem Inv.fresh (I:Inv X pins σ H s):H s.heap.objs.size=none:=I.hok.fresh (Nat.le_refl _)
theorem Inv.lstM (I:Inv X pins σ H s) (hH:H l=some (.lst xs)):xs.length≤sizeLine∧∃ (its:List Value) (n:Nat),Vals xs its∧xs.length=its.length∧s.heap.get? l=some { cls:=.type "list",data:=.seq its.toArray n }:=by
  obtain ⟨z,its,n,r,e⟩:=I.hok l _ hH
  exact ⟨z,its,n,r,r.length,e⟩
end
section
variable {X:Cx}
noncomputable def rAppend:V→List V→Hp→VK→Prop:=fun x vs H Q=>∃ l xs y,x = .ref l∧vs=[y]∧H l=some (.lst xs)∧xs.length < sizeLine∧Q .non (upd H l (.lst (xs++[y])))
theorem mt_append:MtM X "list.append" rAppend:=by
  intro pins s σ H x vs v us Q I rx rv h
  obtain ⟨l,xs,y,rfl,rfl,hH,hz,q⟩:=h
  cases rx
  obtain ⟨u,rfl,ru⟩:=rv.one
  obtain ⟨z,its,n,r,hl,e⟩:=I.lstM hH
  refine call_meets F.slot_list_append ⟨_,e,rfl⟩ F.entry_list_append (F.args_list_append_2 _ _) (PySem.list_append l its.toArray n u (by rw [List.size_toArray];omega)) ⟨e,?_⟩
  refine ⟨.non,_,I.lset (its':=its++[u]) hH e (by simp) (r.append (.cons ru .nil)) ?_,rfl,q⟩
  rw [List.length_append,List.length_singleton]
  omega
noncomputable def rCat:R2:=fun x y H Q=>∃ l b xs zs,x = .ref l∧y = .ref b∧H l=some (.lst xs)∧H b=some (.lst zs)∧xs.length + zs.length≤sizeLine∧∀ p,H p=none→Q (.ref p) (upd H p (.lst (xs++zs)))
theorem op_cat:OpR X (binaryOp .Add) rCat:=by
  intro pins s σ H x y v u Q I rx ry h
  obtain ⟨l,b,xs,zs,rfl,rfl,hH,hB,hz,q⟩:=h
  cases rx
  cases ry
  obtain ⟨z,its,n,r,hl,e⟩:=I.lstM hH
  obtain ⟨z2,its2,n2,r2,hl2,e2⟩:=I.lstM hB
  refine PySem.P.add_list e e2 ?_ (by rw [List.size_toArray,List.size_toArray];omega)
  have ea:its.toArray++its2.toArray=(its++its2).toArray:=by simp
  rw [ea]
  exact ⟨.ref _,_,I.lnew (t':=s.toks) (r.append r2) (by rw [List.length_append];omega),rfl,q _ I.fresh⟩
end
section
variable {prog:Program} {w:World} {A:Around} {E:Value→Shared→Prop} {s:Shared}
set_option maxRecDepth 100000 in
end
section
variable {X:Cx}
end
end L2
namespace L2
open PySem PySem.Spec PyProof.Rows
section
variable {κ:Type} [DecidableEq κ]
noncomputable def valV (kvs:List (κ×V)) (k:κ):Option V:=(kvs.find? fun kv=>decide (kv.1=k)).map (·.2)
noncomputable def putK (kvs:List (κ×V)) (k:κ) (v:V):List (κ×V) :=
  if (kvs.any fun kv=>decide (kv.1=k))=true then kvs.map (fun kv=>if kv.1=k then (kv.1,v) else kv) else kvs++[(k,v)]
theorem valV_pos {p:κ×V} {r:List (κ×V)} {k:κ} (e:p.1=k):valV (p :: r) k=some p.2:=by simp [valV,List.find?_cons,e]
theorem valV_neg {p:κ×V} {r:List (κ×V)} {k:κ} (e:¬ p.1=k):valV (p :: r) k=valV r k:=by simp [valV,List.find?_cons,e]
theorem valV_any (k:κ):∀ kvs:List (κ×V),(kvs.any fun kv=>decide (kv.1=k))=(valV kvs k).isSome
  | []=>rfl
  | p :: r=>by
    rw [List.any_cons]
    by_cases e:p.1=k
    · simp only [valV_pos e,decide_eq_true e,Bool.true_or,Option.isSome_some]
    · rw [valV_neg e,decide_eq_false e,Bool.false_or];exact valV_any k r
theorem length_putK (kvs:List (κ×V)) (k:κ) (v:V):(putK kvs k v).length≤kvs.length + 1:=by
  unfold putK
  split
  · rw [List.length_map];omega
  · rw [List.length_append,List.length_cons,List.length_nil];omega
theorem RelO.isSome_eq {o:Option V} {u:Option Value} (r:RelO o u):o.isSome=u.isSome:=by
  cases o with
  | none=>cases u with
    | none=>rfl
    | some _=>exact (show False from r).elim
  | some _=>cases u with
    | none=>exact (show False from r).elim
    | some _=>rfl
theorem RelO.getD {o:Option V} {u:Option Value} {d:V} {d':Value} (r:RelO o u) (rd:RelV d d'):RelV (o.getD d) (u.getD d'):=by
  cases o with
  | none=>cases u with
    | none=>exact rd
    | some _=>exact (show False from r).elim
  | some _=>cases u with
    | none=>exact (show False from r).elim
    | some _=>exact r
theorem KV.val {kvs:List (κ×V)} {vs:List (κ×Value)} (r:KV kvs vs) (k:κ):RelO (valV kvs k) (valueAt vs k):=by
  unfold KV at r
  induction r with
  | nil=>exact True.intro
  | @cons p q ps qs h t ih =>
    obtain ⟨h1,h2⟩:=h
    by_cases e:p.1=k
    · have e':q.1=k:=h1.symm.trans e
      have b:valueAt (q :: qs) k=some q.2:=by simp [valueAt,List.find?_cons,e']
      rw [valV_pos e,b];exact h2
    · have e':¬ q.1=k:=fun z=>e (h1.trans z)
      have b:valueAt (q :: qs) k=valueAt qs k:=by simp [valueAt,List.find?_cons,e']
      rw [valV_neg e,b];exact ih
theorem KV.any {kvs:List (κ×V)} {vs:List (κ×Value)} (r:KV kvs vs) (k:κ):(kvs.any fun kv=>decide (kv.1=k))=vs.any fun kv=>decide (kv.1=k):=by
  unfold KV at r
  induction r with
  | nil=>rfl
  | cons h t ih=>rw [List.any_cons,List.any_cons,ih,h.1]
theorem KV.repl {kvs:List (κ×V)} {vs:List (κ×Value)} (r:KV kvs vs) (k:κ) {y:V} {u:Value} (ry:RelV y u) :
    KV (kvs.map fun kv=>if kv.1=k then (kv.1,y) else kv) (vs.map fun kv=>if kv.1=k then (kv.1,u) else kv):=by
  unfold KV at r ⊢
  induction r with
  | nil=>exact .nil
  | @cons p q ps qs h t ih =>
    rw [List.map_cons,List.map_cons]
    refine .cons ?_ ih
    obtain ⟨h1,h2⟩:=h
    by_cases e:p.1=k
    · rw [if_pos e,if_pos (h1.symm.trans e)];exact ⟨h1,ry⟩
    · rw [if_neg e,if_neg (fun z=>e (h1.trans z))];exact ⟨h1,h2⟩
theorem KV.put {kvs:List (κ×V)} {vs:List (κ×Value)} (r:KV kvs vs) (k:κ) {y:V} {u:Value} (ry:RelV y u):KV (putK kvs k y) (stored vs k u):=by
  unfold putK stored
  rw [r.any k]
  by_cases e:(vs.any fun kv=>decide (kv.1=k))=true
  · rw [if_pos e,if_pos e];exact r.repl k ry
  · rw [if_neg e,if_neg e];exact Paired.snoc r ⟨rfl,ry⟩
theorem KV.length {kvs:List (κ×V)} {vs:List (κ×Value)} (r:KV kvs vs):kvs.length=vs.length:=Paired.length r
end
theorem kV_is {P:Program} {w:World} {k:Key} {u:Value} (r:RelV (kV k) u):(mixKind P w).is k u=true:=by
  cases k with
  | inl i=>obtain ⟨t,e⟩:=(show ∃ t,u=Value.int i t from r);subst e;exact mixKind_int P w i t
  | inr x=>obtain ⟨t,e⟩:=(show ∃ t,u=Value.str x t from r);subst e;exact mixKind_str P w x t
theorem items_are {P:Program} {w:World}:∀ {ks:List Key} {us:List Value},Vals (ks.map kV) us→ItemsAre (mixKind P w) ks us
  | [],_,r=>by rw [List.map_nil] at r;cases r;exact .nil
  | k :: ks,_,r=>by
    rw [List.map_cons] at r
    cases r with
    | cons h t=>exact .cons (kV_is h) (items_are t)
noncomputable abbrev KT (H:Hp):List (List Key×V)→List (List Key×Addr×Value)→Prop:=Paired fun p q=>p.1=q.1∧H q.2.1=some (.tup (p.1.map kV))∧RelV p.2 q.2.2
theorem KT.val {H:Hp} {kvs:List (List Key×V)} {xs:List (List Key×Addr×Value)} (r:KT H kvs xs) (k:List Key):RelO (valV kvs k) ((atKey xs k).map (·.2)):=by
  induction r with
  | nil=>exact True.intro
  | @cons p q ps qs h t ih =>
    obtain ⟨h1,_,h2⟩:=h
    by_cases e:p.1=k
    · have e':q.1=k:=h1.symm.trans e
      have b:atKey (q :: qs) k=some q.2:=by simp [atKey,List.find?_cons,e']
      rw [valV_pos e,b];exact h2
    · have e':¬ q.1=k:=fun z=>e (h1.trans z)
      have b:atKey (q :: qs) k=atKey qs k:=by simp [atKey,List.find?_cons,e']
      rw [valV_neg e,b];exact ih
theorem KT.repl {H:Hp} {kvs:List (List Key×V)} {xs:List (List Key×Addr×Value)} (r:KT H kvs xs) (k:List Key) {y:V} {u:Value} (ry:RelV y u) :
    KT H (kvs.map fun kv=>if kv.1=k then (kv.1,y) else kv) (xs.map (putAt k u)):=by
  induction r with
  | nil=>exact .nil
  | @cons p q ps qs h t ih =>
    rw [List.map_cons,List.map_cons]
    refine .cons ?_ ih
    obtain ⟨h1,h2,h3⟩:=h
    unfold putAt
    by_cases e:p.1=k
    · rw [if_pos e,if_pos (h1.symm.trans e)];exact ⟨h1,h2,ry⟩
    · rw [if_neg e,if_neg (fun z=>e (h1.trans z))];exact ⟨h1,h2,h3⟩
theorem KT.put {H:Hp} {kvs:List (List Key×V)} {xs:List (List Key×Addr×Value)} (r:KT H kvs xs) (k:List Key) {b:Addr} {y:V} {u:Value} (hb:H b=some (.tup (k.map kV))) (ry:RelV y u) :
    KT H (putK kvs k y) (storedH xs k b u):=by
  have e:(kvs.any fun kv=>decide (kv.1=k))=(atKey xs k).isSome:=by
    rw [valV_any,(r.val k).isSome_eq,Option.isSome_map]
  unfold putK storedH
  rw [e]
  by_cases q:(atKey xs k).isSome=true
  · rw [if_pos q,if_pos q];exact r.repl k ry
  · rw [if_neg q,if_neg q];exact Paired.snoc r ⟨rfl,hb,ry⟩
theorem KT.keeps {H H':Hp} {kvs:List (List Key×V)} {xs:List (List Key×Addr×Value)} (r:KT H kvs xs) (ht:∀ b ys,H b=some (.tup ys)→H' b=some (.tup ys)):KT H' kvs xs :=
  Paired.mapP r fun _ _ z=>⟨z.1,ht _ _ z.2.1,z.2.2⟩
section
variable {P:Program} {w:World} {H:Hp} {h:Heap} {a:Addr}
theorem rd_of {u:HO} (ok:HOk P w H h) (e:Rd H a u):ObjOk P w H h a u:=e.ok ok
theorem dk_rd {kvs:List (Key×V)} (ok:HOk P w H h) (e:Rd H a (.dK kvs)):kvs.length≤sizeLine∧(a == sysModules)=false∧∃ vs,KV kvs vs∧h.DictOf (mixKind P w) a vs :=
  show ObjOk P w H h a (.dK kvs) from rd_of ok e
theorem dk_of {kvs:List (Key×V)} (ok:HOk P w H h) (e:H a=some (.dK kvs)):kvs.length≤sizeLine∧(a == sysModules)=false∧∃ vs,KV kvs vs∧h.DictOf (mixKind P w) a vs:=dk_rd ok (.inl e)
theorem key_of {ks:List Key} (ok:HOk P w H h) (e:H a=some (.tup (ks.map kV))):(tupleKind (mixKind P w)).is h ks a:=by
  obtain ⟨_,its,r,o,h1,h2,n,h3⟩:=(show ObjOk P w H h a (.tup (ks.map kV)) from ok a _ e)
  exact ⟨o,its.toArray,n,h1,h2,h3,by simpa using items_are r⟩
theorem dt_rd {kvs:List (List Key×V)} (ok:HOk P w H h) (e:Rd H a (.dT kvs)):kvs.length≤sizeLine∧(a == sysModules)=false ∧
    ∃ xs,KT H kvs xs∧h.DictOfH (tupleKind (mixKind P w)) a xs:=by
  obtain ⟨z,y,xs,r,o,es,ep,h1,h2,h3,h4,h5⟩:=(show ObjOk P w H h a (.dT kvs) from rd_of ok e)
  refine ⟨z,y,xs,r,o,es,ep,h1,h2,h3,h4,fun x hx=>?_,h5⟩
  have all:∀ {l:List (List Key×V)} {m:List (List Key×Addr×Value)},KT H l m→∀ x∈m,(tupleKind (mixKind P w)).is h x.1 x.2.1:=by
    intro l m q
    induction q with
    | nil=>intro x hx;exact nomatch hx
    | @cons p q ps qs hq t ih =>
      intro x hx
      rcases List.mem_cons.mp hx with e | hx
      · subst e
        exact key_of ok (by rw [← hq.1];exact hq.2.1)
      · exact ih x hx
  exact all r x hx
theorem dt_of {kvs:List (List Key×V)} (ok:HOk P w H h) (e:H a=some (.dT kvs)):kvs.length≤sizeLine∧(a == sysModules)=false ∧
    ∃ xs,KT H kvs xs∧h.DictOfH (tupleKind (mixKind P w)) a xs:=dt_rd ok (.inl e)
end
noncomputable def DGet (H:Hp) (a:Addr) (y:V) (r:Option V):Prop :=
  (∃ kvs k,Rd H a (.dK kvs)∧y=kV k∧r=valV kvs k)∨∃ kvs k b,Rd H a (.dT kvs)∧y = .ref b∧H b=some (.tup (k.map kV))∧r=valV kvs k
noncomputable def DPut (H:Hp) (a:Addr) (y v:V) (H':Hp):Prop :=
  (∃ kvs k,H a=some (.dK kvs)∧y=kV k∧kvs.length < sizeLine∧H'=upd H a (.dK (putK kvs k v))) ∨
  ∃ kvs k b,H a=some (.dT kvs)∧y = .ref b∧H b=some (.tup (k.map kV))∧kvs.length < sizeLine∧H'=upd H a (.dT (putK kvs k v))
theorem DGet.k {H:Hp} {a:Addr} {kvs:List (Key×V)} {k:Key} (e:H a=some (.dK kvs)):DGet H a (kV k) (valV kvs k):=.inl ⟨kvs,k,.inl e,rfl,rfl⟩
theorem DGet.t {H:Hp} {a b:Addr} {kvs:List (List Key×V)} {k:List Key} (e:H a=some (.dT kvs)) (eb:H b=some (.tup (k.map kV))):DGet H a (.ref b) (valV kvs k):=.inr ⟨kvs,k,b,.inl e,rfl,eb,rfl⟩
theorem DPut.k {H:Hp} {a:Addr} {kvs:List (Key×V)} {k:Key} {v:V} (e:H a=some (.dK kvs)) (hl:kvs.length < sizeLine):DPut H a (kV k) v (upd H a (.dK (putK kvs k v))):=.inl ⟨kvs,k,e,rfl,hl,rfl⟩
theorem DPut.t {H:Hp} {a b:Addr} {kvs:List (List Key×V)} {k:List Key} {v:V} (e:H a=some (.dT kvs)) (eb:H b=some (.tup (k.map kV))) (hl:kvs.length < sizeLine) :
    DPut H a (.ref b) v (upd H a (.dT (putK kvs k v))):=.inr ⟨kvs,k,b,e,rfl,eb,hl,rfl⟩
section
variable {X:Cx} {pins:List (Addr×Obj)} {σ:St} {H:Hp} {s:Shared} {a:Addr} {y v:V} {u r:Value} {o:Option V} {A:Around} {E:Value→Shared→Prop}
theorem Inv.big (I:Inv X pins σ H s):sysModules < s.heap.objs.size:=by
  have h:mainGlobals < s.heap.objs.size:=(I.mod.glob.keeps I.bk).lt
  exact Nat.lt_trans (by decide) h
theorem d_getItem {Q:Value→Shared→Prop} (hu:A.units + 1 < cLine) (I:Inv X pins σ H s) (g:DGet H a y (some v)) (ry:RelV y u) (h:∀ w' s',Inv X pins σ H s'→RelV v w'→Q w' s') :
    wpAny (model X.prog X.w) A (getItem (.ref a) u) Q E s:=by
  rcases g with ⟨kvs,k,e,ey,l⟩ | ⟨kvs,k,b,e,ey,eb,l⟩
  · subst ey
    obtain ⟨z,hd,vs,rel,dd⟩:=dk_rd I.hok e
    obtain ⟨w',hw,rw'⟩:=RelO.some_of (v:=v) (o:=valueAt vs k) (by rw [l];exact rel.val k)
    exact wpAny_getItem_of (kV_is ry) dd.mapOf hw (h w' _ (I.tok _) rw')
  · subst ey
    cases (show u=Value.ref b from ry)
    obtain ⟨z,hd,xs,rel,dd⟩:=dt_rd I.hok e
    obtain ⟨w',hw,rw'⟩:=RelO.some_of (v:=v) (o:=(atKey xs k).map (·.2)) (by rw [l];exact rel.val k)
    obtain ⟨p,hp,hp2⟩:=Option.map_eq_some_iff.mp hw
    refine wpAny_getItem_heap (tupleKind_room_in1 hu) (key_of I.hok eb) dd hp ?_
    rw [hp2]
    exact h w' _ (I.tok _) rw'
theorem d_write {h':Heap} {t':Nat} {ob:HO} (I:Inv X pins σ H s) (mu:Mut (H a)) (hs:Heap.SameBut a s.heap h') (he:∃ q,h'.get? a=some q) (new:ObjOk X.prog X.w (upd H a ob) h' a ob) :
    Inv X pins σ (upd H a ob) { s with heap:=h',toks:=t' } :=
  I.write (x:=a) (e:=a) mu (.inl rfl) (fun b q hb z=>(hs.2 b hb).trans z) he new
theorem dk_new {P:Program} {w:World} {H':Hp} {h':Heap} {kvs:List (Key×V)} {vs:List (Key×Value)} (z:kvs.length≤sizeLine) (hd:(a == sysModules)=false) (rel:KV kvs vs) (dd:h'.DictOf (mixKind P w) a vs) :
    ObjOk P w H' h' a (.dK kvs):=⟨z,hd,vs,rel,dd⟩
theorem d_setItem {H':Hp} {Q:Unit→Shared→Prop} (hu:A.units + 1 < cLine) (I:Inv X pins σ H s) (g:DPut H a y v H') (ry:RelV y u) (rv:RelV v r) (h:∀ s',Inv X pins σ H' s'→Q () s') :
    wpAny (model X.prog X.w) A (setItem (.ref a) u r) Q E s:=by
  rcases g with ⟨kvs,k,e,ey,l,eH⟩ | ⟨kvs,k,b,e,ey,eb,l,eH⟩
  · subst ey eH
    obtain ⟨z,hd,vs,rel,dd⟩:=dk_of I.hok e
    have hz:vs.length≤sizeLine:=by rw [← rel.length];exact z
    have hl:(putK kvs k v).length≤sizeLine:=by have:=length_putK kvs k v;omega
    refine wpAny_setItem_pairs (hsz:=hz) (kV_is ry) dd fun h' dd' hs=>h _ ?_
    have he:∃ q,h'.get? a=some q:=let ⟨q,_,_,hq,_⟩:=dd';⟨q,hq⟩
    exact d_write I (by rw [e];exact True.intro) hs he (dk_new hl hd (rel.put k rv) dd')
  · subst ey eH
    cases (show u=Value.ref b from ry)
    obtain ⟨z,hd,xs,rel,dd⟩:=dt_of I.hok e
    have hz:xs.length≤sizeLine:=by rw [← Paired.length rel];exact z
    have hl:(putK kvs k v).length≤sizeLine:=by have:=length_putK kvs k v;omega
    refine wpAny_setItem_heap (hsz:=hz) (tupleKind_room_in1 hu) (key_of I.hok eb) dd fun h' dd' hs=>h _ ?_
    obtain ⟨q,es,ep,hq,h2,h3,h4,_,h5⟩:=dd'
    refine d_write I (by rw [e];exact True.intro) hs ⟨q,hq⟩ ⟨hl,hd,_,(rel.put k eb rv).keeps fun c ys ec=>?_,q,es,ep,hq,h2,h3,h4,h5⟩
    rw [upd_ne (ne_of ec e (fun z=>nomatch z))]
    exact ec
end
section
variable {X:Cx} {pins:List (Addr×Obj)} {σ:St} {H:Hp} {s:Shared} {a:Addr} {kvs:List (Key×V)} {k:Key} {u:Value} {A:Around} {E:Value→Shared→Prop}
theorem d_truth {Q:Bool→Shared→Prop} (I:Inv X pins σ H s) (e:Rd H a (.dK kvs)) (h:∀ s',Inv X pins σ H s'→Q (!kvs.isEmpty) s'):wpAny (model X.prog X.w) A (truthy (.ref a)) Q E s:=by
  obtain ⟨z,hd,vs,rel,dd⟩:=dk_rd I.hok e
  refine wpAny_truthy_dict hd dd (by rw [← rel.length];rw [sizeLine_eq] at z;omega) ?_
  have q:kvs.isEmpty=vs.isEmpty:=by cases rel <;> rfl
  rw [← q]
  exact h _ (I.tok _)
end
noncomputable def NoSl (i:Expr):Prop:=∀ ov iv,subscripted i false ov iv=operate [ov,iv] (getItem ov iv)
theorem subD_of {prog:Program} {w:World} {A:Around} {E:Value→Shared→Prop} {s:Shared} {env:Env} {value slice:Expr} {pos:Pos} {T id:String} {Q:Value→Shared→Prop}
    (hl:typeLookup (.type T) "__getitem__" = pure (some (.builtin id))) (hs:NoSl slice)
    (h:wpAny (model prog w) A (eval value env) (fun o s₁=>wpAny (model prog w) A (eval slice env) (fun i s₂=>s₂.TypeIs o T∧wpAny (model prog w) A (getItem o i) Q E s₂) E s₁) E s) :
    wpAny (model prog w) A (eval (.Subscript value slice pos) env) Q E s:=by
  refine Subscript_ (wpAny_mono h (fun o s₁ h₁=>wpAny_mono h₁ (fun i s₂ h₂=>?_) fun _ _ x=>x) fun _ _ x=>x)
  obtain ⟨hT,h₂⟩:=h₂
  unfold subscriptTail
  refine wpAny_bind ?_
  rw [getitemInPython_of_ne hT.not_modules]
  refine wpAny_bind (wpAny_specialOf hT hl ?_)
  have fin:wpAny (model prog w) A (subscripted slice false o i) (fun r s₃=>wpAny (model prog w) A (letTemporaryGo value o r >>= fun _=>pure r) Q E s₃) E s₂:=by
    rw [hs o i]
    exact wpAny_operating (wpAny_mono h₂ (fun r s₃ h₃=>wpAny_bind (wpAny_letTemporaryGo (wpAny_pure h₃))) fun _ _ x=>x)
  first
    | exact wpAny_pure (wpAny_bind fin)
    | exact wpAny_bind (wpAny_pure (wpAny_bind fin))
    | exact wpAny_bind fin
theorem dict_typeIs {X:Cx} {pins:List (Addr×Obj)} {σ:St} {H:Hp} {s:Shared} {a:Addr} {y:V} {o:Option V} (I:Inv X pins σ H s) (g:DGet H a y o):s.TypeIs (.ref a) "dict":=by
  rcases g with ⟨kvs,k,e,_,_⟩ | ⟨kvs,k,b,e,_,_,_⟩
  · obtain ⟨_,_,vs,_,dd⟩:=dk_rd I.hok e
    exact dd.typeIs
  · obtain ⟨_,_,xs,_,dd⟩:=dt_rd I.hok e
    exact dd.typeIs
noncomputable def tDGet (td ty:TE):TE:=fun σ H Q=>td σ H fun x H1=>ty σ H1 fun y H2=>∃ a v,x = .ref a∧DGet H2 a y (some v)∧Q v H2
noncomputable def sDPut (td ty tv:TE):TS:=fun D σ H=>tv σ H fun v H1=>td σ H1 fun x H2=>ty σ H2 fun y H3=>∃ a H4,x = .ref a∧DPut H3 a y v H4∧D.nx σ H4
section
variable {X:Cx} {o i e value:Expr} {pos pos' tpos:Pos} {td ty tv:TE}
theorem pe_dget (hu:X.A.units + 1 < cLine) (ho:PE X o td) (hi:PE X i ty) (hs:NoSl i):PE X (.Subscript o i pos) (tDGet td ty):=by
  intro pins s σ H Q I h
  refine subD_of PySem.F.slot_dict_getitem.lookup hs (thn (ho pins s σ H _ I h) fun u s1 ⟨x,H1,I1,rx,q1⟩=>thn (hi pins s1 σ H1 _ I1 q1) fun iv s2 hpq=>?_)
  obtain ⟨y,H2,I2,ry,a,v,ex,g,q2⟩:=hpq
  subst ex
  obtain rfl:u=Value.ref a:=rx
  exact ⟨dict_typeIs I2 g,d_getItem hu I2 g ry fun w' s3 I3 rw'=>⟨v,H2,I3,rw',q2⟩⟩
theorem ps_dput (hu:X.A.units + 1 < cLine) (ho:PE X o td) (hi:PE X i ty) (hv:PE X value tv) (hs:swapsWith value (some (.Subscript o i pos')) pos.line X.env=pure false) :
    PS X (.Assign [.Subscript o i pos'] value pos) (sDPut td ty tv):=by
  intro pins s σ H D I h
  refine wpAny_Assign_Subscript (thn (hv pins s σ H _ I h) fun r s1 ⟨v,H1,I1,rv,q1⟩=>thn (ho pins s1 σ H1 _ I1 q1) fun u s2 ⟨x,H2,I2,rx,q2⟩=>thn (hi pins s2 σ H2 _ I2 q2) fun iv s3 hpq=>?_) hs
  obtain ⟨y,H3,I3,ry,a,H4,ex,g,q3⟩:=hpq
  subst ex
  obtain rfl:u=Value.ref a:=rx
  exact d_setItem hu I3 g ry rv fun s4 I4=>⟨σ,H4,I4,q3⟩
end
theorem dk_empty {P:Program} {w:World} {H:Hp} (h:Heap) (hb:sysModules < h.objs.size):ObjOk P w H (h.push { cls:=.type "dict",data:=.dict #[] }) h.objs.size (.dK []) :=
  ⟨Nat.zero_le _,beq_eq_false_iff_ne.mpr (Ne.symm (Nat.ne_of_lt hb)),[],.nil,Heap.DictOf.new h⟩
noncomputable def tDNewK:TE:=fun _ H Q=>∀ p,H p=none→Q (.ref p) (upd H p (.dK []))
section
variable {X:Cx} {pos:Pos}
theorem pe_dnewK:PE X (.Dict [] [] pos) tDNewK:=fun pins s σ H Q I h =>
  wpAny_Dict_empty ⟨.ref s.heap.objs.size,_,I.laid (a:=s.heap.objs.size) (o:=.dK []) (t':=s.toks) (fun _ _ q=>Heap.get?_push_of_some _ q) (Nat.le_refl _) (dk_empty s.heap I.big),rfl,h _ (I.hok.fresh (Nat.le_refl _))⟩
end
noncomputable def tPairs:List (TE×TE)→St→Hp→(List (V×V)→Hp→Prop)→Prop
  | [],_,H,Q=>Q [] H
  | (tk,tv) :: r,σ,H,Q=>tk σ H fun x H1=>tv σ H1 fun y H2=>tPairs r σ H2 fun ps H3=>Q ((x,y) :: ps) H3
noncomputable abbrev VV:List (V×V)→List (Value×Value)→Prop:=Paired fun p q=>RelV p.1 q.1∧RelV p.2 q.2
noncomputable def PPs (X:Cx) (pos:Pos) (keys:List (Option Expr)) (values:List Expr) (trs:List (TE×TE)):Prop :=
  ∀ (pins:List (Addr×Obj)) (s:Shared) (σ:St) (H:Hp) (Q:List (V×V)→Hp→Prop),Inv X pins σ H s→tPairs trs σ H Q →
    wpAny (model X.prog X.w) X.A (evalPairs (pairTrees keys values X.env pos)) (fun vs s'=>∃ ps H',Inv X pins σ H' s'∧VV ps vs∧Q ps H') X.xe s
theorem pps_nil {X:Cx} {pos:Pos}:PPs X pos [] [] []:=fun pins s σ H Q I h=>pairTrees_nil_walk ⟨[],H,I,.nil,h⟩
theorem pps_cons {X:Cx} {pos:Pos} {k v:Expr} {ks:List (Option Expr)} {vs:List Expr} {tk tv:TE} {trs:List (TE×TE)} (hk:PE X k tk) (hv:PE X v tv) (hr:PPs X pos ks vs trs) :
    PPs X pos (some k :: ks) (v :: vs) ((tk,tv) :: trs):=fun pins s σ H Q I h =>
  pairTrees_cons_walk (thn (hk pins s σ H _ I h) fun u s1 ⟨x,H1,I1,rx,q1⟩=>thn (hv pins s1 σ H1 _ I1 q1) fun w2 s2 ⟨y,H2,I2,ry,q2⟩ =>
    thn (hr pins s2 σ H2 _ I2 q2) fun ws s3 ⟨ps,H3,I3,rel,q3⟩=>⟨(x,y) :: ps,H3,I3,.cons ⟨rx,ry⟩ rel,q3⟩)
noncomputable def mergeK (kvs more:List (Key×V)):List (Key×V):=more.foldl (fun acc kv=>putK acc kv.1 kv.2) kvs
theorem KV.merge:∀ {more:List (Key×V)} {rs:List (Key×Value)} {kvs:List (Key×V)} {vs:List (Key×Value)},KV more rs→KV kvs vs→KV (mergeK kvs more) (merged vs rs):=by
  intro more rs kvs vs r
  unfold KV at r
  induction r generalizing kvs vs with
  | nil=>intro q;exact q
  | @cons p q ps qs h t ih =>
    intro r0
    have e:KV (putK kvs p.1 p.2) (stored vs q.1 q.2):=by
      have:=r0.put p.1 h.2
      rw [← h.1];exact this
    exact ih e
theorem length_mergeK:∀ (more kvs:List (Key×V)),(mergeK kvs more).length≤kvs.length + more.length
  | [],kvs=>by show kvs.length≤kvs.length + 0;omega
  | p :: r,kvs=>by
    have h1:=length_mergeK r (putK kvs p.1 p.2)
    have h2:=length_putK kvs p.1 p.2
    show (mergeK (putK kvs p.1 p.2) r).length≤_
    rw [List.length_cons];omega
theorem carries_of {P:Program} {w:World}:∀ {kvs:List (Key×V)} {ws:List (Value×Value)},VV (kvs.map fun kv=>(kV kv.1,kv.2)) ws→∃ rs,Carries (mixKind P w) ws rs∧KV kvs rs
  | [],_,r=>by rw [List.map_nil] at r;cases r;exact ⟨[],True.intro,.nil⟩
  | p :: kvs,_,r=>by
    rw [List.map_cons] at r
    cases r with
    | @cons a b as bs h t =>
      obtain ⟨rs,c,q⟩:=carries_of (P:=P) (w:=w) t
      obtain ⟨b1,b2⟩:=b
      exact ⟨(p.1,b2) :: rs,⟨kV_is h.1,rfl,c⟩,.cons ⟨rfl,h.2⟩ q⟩
noncomputable def tDisp (trs:List (TE×TE)):TE:=fun σ H Q=>∀ p,H p=none→tPairs trs σ (upd H p (.dK [])) fun ps H2=>H2 p=some (.dK [])∧∃ kvs:List (Key×V),ps=kvs.map (fun kv=>(kV kv.1,kv.2))∧kvs.length≤15∧Q (.ref p) (upd H2 p (.dK (mergeK [] kvs)))
theorem pe_disp {X:Cx} {pos:Pos} {keys:List (Option Expr)} {values:List Expr} {trs:List (TE×TE)} (h:PPs X pos keys values trs) (hall:keys.all (·.isSome)=true) (hl:keys.length=values.length) (h0:keys≠[])
    (h15:keys.length≤15):PE X (.Dict keys values pos) (tDisp trs):=by
  intro pins s σ H Q I q
  have hn:=I.hok.fresh (Nat.le_refl s.heap.objs.size)
  have I1:=I.laid (a:=s.heap.objs.size) (o:=.dK []) (h':=s.heap.push { cls:=.type "dict",data:=.dict #[] }) (t':=s.toks) (fun _ _ q=>Heap.get?_push_of_some _ q) (Nat.le_refl _) (dk_empty s.heap I.big)
  refine wpAny_Dict_walk (knd:=mixKind X.prog X.w) hall hl h0 h15 (thn (h pins _ σ _ _ I1 (q _ hn)) fun ws s2 hpq=>?_)
  obtain ⟨ps,H2,I2,rel,e,kvs,ep,lk,q2⟩:=hpq
  subst ep
  obtain ⟨rs,c,rk⟩:=carries_of (P:=X.prog) (w:=X.w) rel
  obtain ⟨z,hd,vs0,r0,dd⟩:=dk_of I2.hok e
  cases r0
  refine ⟨rs,c,dd,fun h' dd' hs=>⟨.ref s.heap.objs.size,_,?_,rfl,q2⟩⟩
  have hz:(mergeK [] kvs).length≤sizeLine:=by
    have h1:=length_mergeK kvs []
    rw [List.length_nil] at h1
    rw [sizeLine_eq];omega
  have he:∃ q,h'.get? s.heap.objs.size=some q:=let ⟨q,_,_,hq,_⟩:=dd';⟨q,hq⟩
  exact d_write I2 (by rw [e];exact True.intro) hs he (dk_new hz hd (rk.merge .nil) dd')
structure M2 (X:Cx) (o:Expr) (m:Str) (apos:Pos) (e f:Expr) (cpos:Pos):Prop where
  base:attributeBase o m X.env (eval o X.env)=eval o X.env
  few:((backTo cpos (starEach [e,f] X.env)).all (fun x=>!x.1) && (backToKw cpos (keywordEach [] X.env)).all (fun x=>x.1.isSome)
    && decide (([e,f]:List Expr).length + ([]:List Keyword).length + (if ([]:List Keyword).isEmpty then 0 else 1) < 30))=true
  line:(apos.endLine == cpos.line)=true
  trees:backTo cpos (starEach [e,f] X.env)=[(false,eval e X.env),(false,eval f X.env)]
noncomputable def IsD (H:Hp) (a:Addr):Prop:=(∃ kvs,Rd H a (.dK kvs))∨∃ kvs,Rd H a (.dT kvs)
theorem isD_at {X:Cx} {pins:List (Addr×Obj)} {σ:St} {H:Hp} {s:Shared} {a:Addr} (I:Inv X pins σ H s) (d:IsD H a) :
    s.TypeIs (.ref a) "dict"∧(∀ b,Value.ref a = .ref b→∃ ob,s.heap.get? b=some ob∧ob.dict=none)∧(a == sysModules)=false:=by
  rcases d with ⟨kvs,e⟩ | ⟨kvs,e⟩
  · obtain ⟨_,hd,vs,_,dd⟩:=dk_rd I.hok e
    refine ⟨dd.typeIs,fun b q=>?_,hd⟩
    cases q
    obtain ⟨ob,_,_,h1,h2,_⟩:=dd
    exact ⟨ob,h1,h2.2.1⟩
  · obtain ⟨_,hd,xs,_,dd⟩:=dt_rd I.hok e
    refine ⟨dd.typeIs,fun b q=>?_,hd⟩
    cases q
    obtain ⟨ob,_,_,h1,h2,_⟩:=dd
    exact ⟨ob,h1,h2.2.1⟩
section
variable {X:Cx} {pins:List (Addr×Obj)} {σ:St} {H:Hp} {s:Shared} {a:Addr} {y d:V} {u r:Value} {o:Option V} {A:Around} {E:Value→Shared→Prop}
theorem d_get2 {Q:Value→Shared→Prop} (hu:A.units + 1 < cLine) (I:Inv X pins σ H s) (g:DGet H a y o) (ry:RelV y u) (rd:RelV d r) (h:∀ w' s',Inv X pins σ H s'→RelV (o.getD d) w'→Q w' s') :
    wpAny (model X.prog X.w) A (call (.builtin "dict.get") [.ref a,u,r]) Q E s:=by
  rcases g with ⟨kvs,k,e,ey,l⟩ | ⟨kvs,k,b,e,ey,eb,l⟩
  · subst ey
    obtain ⟨z,hd,vs,rel,dd⟩:=dk_rd I.hok e
    refine call_meetsIn PySem.F.slot_dict_get dd.typeIs PySem.F.entry_dict_get (PySem.F.args_dict_get_3 _ _ _) (meets_dict_get_default (mixKind X.prog X.w) a (kV_is ry) hd r) ⟨_,dd.mapOf,h _ _ (I.tok _) ?_⟩
    rw [l]
    exact (rel.val k).getD rd
  · subst ey
    cases (show u=Value.ref b from ry)
    obtain ⟨z,hd,xs,rel,dd⟩:=dt_rd I.hok e
    refine call_meetsIn PySem.F.slot_dict_get dd.typeIs PySem.F.entry_dict_get (PySem.F.args_dict_get_3 _ _ _) (meetsH_dict_get_default (tupleKind (mixKind X.prog X.w)) a b hd r) ⟨tupleKind_room_in1 hu,k,xs,key_of I.hok eb,dd,h _ _ (I.tok _) ?_⟩
    rw [l]
    exact (rel.val k).getD rd
end
noncomputable def tDGet2 (td ty tx:TE):TE:=fun σ H Q=>td σ H fun x H1=>∃ a,x = .ref a∧IsD H1 a∧ty σ H1 fun y H2=>tx σ H2 fun z H3=>∃ o,DGet H3 a y o∧Q (o.getD z) H3
section
variable {X:Cx} {o e f:Expr} {apos cpos:Pos} {td ty tx:TE}
theorem pe_dget2 (hu:X.A.units + 1 < cLine) (ho:PE X o td) (he:PE X e ty) (hf:PE X f tx) (m:M2 X o "get" apos e f cpos):PE X (.Call (.Attribute o "get" apos) [e,f] [] cpos) (tDGet2 td ty tx):=by
  intro pins s σ H Q I h
  refine wpAny_Call_method m.base m.few m.line PySem.F.plainAttrs_dict PySem.F.slot_dict_get PySem.F.type_dict_get (thn (ho pins s σ H _ I h) fun u s1 hpq=>?_)
  obtain ⟨x,H1,I1,rx,a,ex,d,q1⟩:=hpq
  subst ex
  obtain rfl:u=Value.ref a:=rx
  obtain ⟨t1,t2,_⟩:=isD_at I1 d
  refine ⟨t1,t2,?_⟩
  rw [m.trees]
  refine Calls.callWith_builtin rfl (Calls.evalArgs_plain (Calls.spliced_cons (thn (he pins s1 σ H1 _ I1 q1) fun iv s2 ⟨y,H2,I2,ry,q2⟩ =>
    Calls.spliced_cons (thn (hf pins s2 σ H2 _ I2 q2) fun fv s3 ⟨z,H3,I3,rz,ov,g,q3⟩=>Calls.spliced_nil ?_))))
  exact d_get2 hu I3 g ry rz fun w' s4 I4 rw'=>⟨_,H3,I4,rw',q3⟩
end
section
variable {X:Cx} {pins:List (Addr×Obj)} {σ:St} {H:Hp} {s:Shared} {a:Addr} {kvs:List (Key×V)} {A:Around} {E:Value→Shared→Prop}
end
section
variable {X:Cx} {pins:List (Addr×Obj)} {σ:St} {H:Hp} {s:Shared} {a:Addr} {y:V} {u:Value} {A:Around} {E:Value→Shared→Prop}
end
end L2
namespace Att
open PySem PySem.W PySem.Calls PyProof.Rows
theorem ints_of_wellAll {P:Params} {h:Heap}:∀ (ns:List Int) (vs:List Value),WellAll P h vs (ns.map WData.int)→IntsAre vs ns:=by
  intro ns
  induction ns with
  | nil =>
    intro vs w
    rw [List.map_nil] at w
    cases w
    exact .nil
  | cons n ns ih =>
    intro vs w
    rw [List.map_cons] at w
    cases w with
    | cons a b =>
      cases a
      exact .cons _ _ (ih _ b)
theorem script_of {l:OpenLaw} {n:Nat} (hn:l.most=some n) {P:Params} {h:Heap} {args:List WData} {vals:List Value}
    (hpre:l.row.toRowW.claim.pre args=true) (hwl:WellAll P h vals args) :
    ∃ a vs ns,vals=[Value.ref a]∧args=[WData.list (ns.map WData.int)]∧h.get? a=some { cls:=.type "list",data:=.seq vs.toArray }∧IntsAre vs ns∧ns.length≤n:=by
  have hsh:WShape.hasAll [] args [.list .int]=true:=(pre_splitW hpre).1
  have hc:l.pre.holds [] { args:=args }=true:=(pre_splitW hpre).2
  obtain ⟨d,r,rfl,h1,h2⟩:=hasAllW_cons hsh
  obtain rfl:=hasAllW_nil h2
  obtain ⟨xs,rfl,h3⟩:=hasW_list h1
  obtain ⟨ns,rfl⟩:=items_int h3
  have hlen:ns.length≤n:=by
    unfold OpenLaw.pre at hc
    have h4:(WTm.not (.lt (.lit (.int (n:Int))) (.len (.arg 0)))).holds [] { args:=[.list (ns.map .int)] }=true:=by
      have h4:=(holds_andW hc).1
      rw [hn] at h4
      exact h4
    have h5:=condW_of h4 (w_not (w_lt w_lit (w_len_list (w_arg rfl))))
    rw [List.length_map] at h5
    refine Nat.le_of_not_lt fun q=>?_
    have q':(n:Int) < ((ns.length:Nat):Int):=by omega
    first
      | (rw [decide_eq_true q'] at h5;exact absurd h5 (by decide))
      | (simp at h5;omega)
  cases hwl with
  | cons w1 w2 =>
    cases w2
    cases w1 with
    | list ho hall=>exact ⟨_,_,ns,rfl,rfl,ho,ints_of_wellAll ns _ hall,hlen⟩
theorem post_true (l:OpenLaw) (args:List WData):l.row.toRowW.claim.post args (.bool true) args=true :=
  postW_of (r:=l.row.toRowW) (X:=(true == true))
    (show WShape.has [] (.bool true) .bool=true by first | rfl | decide | simp [WShape.has,WShape.arms,WShape.armsAll])
    (show (WTm.eq .res (.lit (.bool true))).value [] { args:=args,res:=some (.bool true),after:=args }=some (.bool (true == true)) from w_eq_bool (w_res rfl) w_lit) rfl
theorem attach_call {l:OpenLaw} {n:Nat} {q:Program} {loose:List Str} {XP:(Str→Option Value)→Heap→Prop} {YP:World→Heap→Prop} {d:DefRec}
    (hn:l.most=some n) (hdf:d.params.defaults=[])
    (call:∀ (w:World) (s₀ s₁:Shared) (mg mb:Str→Option Value) (fa:Addr) (o:Obj) (pm cd doc:Value) (a:Addr) (vs:List Value) (ns:List Int),
      Ground q loose [] XP w s₀ mg mb s₁.heap→YP w s₁.heap →
      s₁.heap.get? fa=some o→o.data = .func (docDef d.name d.params d.body d.scope pm cd doc)→s₁.heap.CodeRec cd d.name→mg d.name=some (.ref fa) →
      s₁.heap.get? a=some { cls:=.type "list",data:=.seq vs.toArray }→IntsAre vs ns→ns.length≤n→s₁.gens = #[] →
      codeAny (model l.prog w) callerA (.call (.ref fa) ⟨[.ref a],[]⟩) (fun r s'=>r = .ok (.ret (.bool true))∧OldK s₁.heap s'.heap∧s'.os=s₁.os∧AllBare s'.gens) s₁) :
    WalkO q loose XP YP l.row.toRowW d [] (fun f vs=>PySem.call f vs):=by
  intro w s₀ s₁ mg mb G Y fa o pm cd doc dV kV ho hd hcd hD hmg hg args vals as hpre hlay hrd hwl hlo
  obtain rfl:dV = .none:=Dflts.none hD hdf
  obtain rfl:kV = .none:=Dflts.noKw hD
  obtain ⟨a,vs,ns,rfl,rfl,hobj,hints,hlen⟩:=script_of hn hpre hwl
  refine enter_call (codeAny_mono (call w s₀ s₁ mg mb fa o pm cd doc a vs ns G Y ho (fd_plain hd) hcd hmg hobj hints hlen hg) fun r s' hq=>?_)
  obtain ⟨rfl,h2,h3,h4⟩:=hq
  exact ⟨.inl ⟨.bool true,.bool true,[],rfl,fun _=>rfl,.bool true,post_true l _,fun _=>⟨List.Pairwise.nil,fun _ hm=>(nomatch hm)⟩⟩,h2,h3,h4⟩
section
variable {prog:Program} {w:World} {A:Around} {E:Value→Shared→Prop} {s:Shared} {K:Frag}
end
end Att
namespace L2
open PySem PySem.Spec PyProof.Rows
theorem vals_ints:∀ {vs:List Value} {ns:List Int},IntsAre vs ns→Vals (ns.map V.int) vs
  | _,_,.nil=>.nil
  | _,_,.cons n t h=>.cons ⟨t,rfl⟩ (vals_ints h)
noncomputable def Only (H:Hp):Prop:=∀ b,H b=none∨∃ o xs,H b=some (.frz o (.lst xs))
theorem law_call {P:Program} {w:World} {K:PySem.W.Frag} {mg mb:Str→Option Value} {CX:CXT} {k:Nat} {fa a:Addr} {fd:FuncData} {x:Str} {sp:Sp} {s₁:Shared} {vs:List Value} {ns:List Int}
    (KX:K.In s₁.heap) (hns:s₁.heap.Ns mainGlobals mg) (hb:s₁.heap.Ns builtinsNs mb) (hbb:∀ x:Str,x≠"__name__"→mb x=bootBuiltins x) (hlim:s₁.heap.NoLimit) (hg:s₁.gens = #[])
    (ha:s₁.heap.get? a=some { cls:=.type "list",data:=.seq vs.toArray }) (hi:IntsAre vs ns) (hl:ns.length≤sizeLine) (hr:Room k callerA)
    (F:∀ base:Heap,K.In base→base.Ns mainGlobals mg→FnOk P w K mg base CX k fa fd [x] sp) (hbind:∀ (s:Shared) (u:Value),BindsTo s fd ⟨[u],[]⟩ [(x,u)])
    (hsp:∀ H:Hp,Only H→SqL K H a (ns.map V.int)→sp [.ref a] H (fun v _=>v = .bl true) fun _ _ _=>False)
    (hCX:∀ H e s',CX [] H s₁ (fun _ _ _=>False) e s'→False) :
    codeAny (model P w) callerA (.call (.ref fa) ⟨[.ref a],[]⟩) (fun r s'=>r = .ok (.ret (.bool true))∧OldK s₁.heap s'.heap∧s'.os=s₁.os∧AllBare s'.gens) s₁:=by
  have rv:=vals_ints hi
  have lenV:=hi.length
  have core:∀ H:Hp,Only H→SqL K H a (ns.map V.int)→HOk P w H s₁.heap→(∀ b,H b≠none→b=a)→(H a≠none→K.lookup a=none) →
      codeAny (model P w) callerA (.call (.ref fa) ⟨[.ref a],[]⟩) (fun r s'=>r = .ok (.ret (.bool true))∧OldK s₁.heap s'.heap∧s'.os=s₁.os∧AllBare s'.gens) s₁:=by
    intro H hO hS hok hA hK
    have base_of:∀ {b:Addr} {o:Obj},s₁.heap.get? b=some o→H b=none→(hidT s₁.heap H).get? b=some o:=fun e n=>hidT_get e n
    have noA:∀ {b:Addr} {o:Obj} {es:Array DictEntry} {ep:Nat},s₁.heap.get? b=some o→o.data = .dict es ep→H b=none:=fun {b o es ep} e d=>by
      cases q:H b with
      | none=>rfl
      | some u =>
        have e':b=a:=hA b (by rw [q];simp)
        subst e'
        rw [ha] at e;cases e
        have d':Data.seq vs.toArray _=Data.dict es ep:=d
        cases d'
    have nsK:∀ {b:Addr} {m:Str→Option Value},s₁.heap.Ns b m→(hidT s₁.heap H).Ns b m:=fun {b m} ⟨o,es,ep,e,d,r⟩=>⟨o,es,ep,base_of e (noA e d),d,r⟩
    have hKb:K.In (hidT s₁.heap H):=fun b o e=>base_of (KX b o e) (by
      cases q:H b with
      | none=>rfl
      | some u =>
        have e':b=a:=hA b (by rw [q];simp)
        subst e'
        rw [hK (by rw [q];simp)] at e;cases e)
    have hM:Mod K mg (hidT s₁.heap H):=⟨hKb,nsK hns,⟨mb,nsK hb,hbb⟩,let ⟨mc,h1,h2⟩:=hlim;⟨mc,nsK h1,h2⟩⟩
    have e0:Env0 P w K mg (hidT s₁.heap H) callerA [] s₁ H:=⟨rfl,hM,fun b o e=>of_hidT e,Nat.le_of_eq (hidT_size _ _),trivial,fun b hb=>absurd (show b∈([]:List Addr) from hb) (by simp),hok,.of_eq hg⟩
    refine codeAny_mono ((F _ hKb (nsK hns)).run callerA [] s₁ H ⟨[.ref a],[]⟩ [.ref a] [.ref a] _ _ hr e0 (hbind s₁ (.ref a)) (.cons rfl .nil) (hsp H hO hS)) fun r s' h=>?_
    cases r with
    | error e=>exact (hCX H e s' h).elim
    | ok fl =>
      cases fl with
      | next=>exact False.elim h
      | brk=>exact False.elim h
      | cont=>exact False.elim h
      | ret u =>
        obtain ⟨v,H',os,bare,un,hok',r',q⟩:=h
        have q':v = .bl true:=q
        subst q'
        obtain rfl:u=Value.bool true:=r'
        refine ⟨rfl,OldK.of_keep fun b o e=>?_,os,bare⟩
        cases q:H b with
        | none=>exact un.keep b o e q (by intro z;exact absurd (show b∈([]:List Addr) from z) (by simp)) (by simp)
        | some u =>
          rcases hO b with z | ⟨ob,xs,z⟩
          · rw [q] at z;cases z
          · have z2:=un.frzs b ob _ z
            obtain ⟨e1,_⟩:=hok b _ z
            obtain ⟨e2,_⟩:=hok' b _ z2
            rw [e] at e1;cases e1
            exact e2
  cases hk:K.lookup a with
  | some o =>
    have e:=KX a o hk
    rw [ha] at e
    cases e
    refine core (fun _=>none) (fun _=>.inl rfl) (.inr ⟨_,vs.toArray,_,hk,rfl,rfl,rfl,by rw [List.size_toArray,lenV];exact hl,by simpa using rv⟩) (fun b u z=>by have z':(none:Option HO)=some u:=z;cases z') (fun b z=>absurd rfl z) fun z=>absurd rfl z
  | none =>
    refine core (fun b=>if b=a then some (.frz { cls:=.type "list",data:=.seq vs.toArray } (.lst (ns.map V.int))) else none) (fun b=>?_) (.inl (.inr ⟨{ cls:=.type "list",data:=.seq vs.toArray },if_pos rfl⟩)) (fun b u z=>?_) (fun b z=>?_) fun _=>hk
    · by_cases hb:b=a
      · exact .inr ⟨_,_,if_pos hb⟩
      · exact .inl (if_neg hb)
    · by_cases hb:b=a
      · have z':=(if_pos hb).symm.trans z
        cases z'
        subst hb
        exact ⟨ha,by rw [List.length_map];exact hl,vs,_,rv,ha⟩
      · have z':=(if_neg hb).symm.trans z
        cases z'
    · by_cases hb:b=a
      · exact hb
      · exact absurd (if_neg hb) z
end L2
namespace L2
open PySem PySem.Spec PyProof.Rows
theorem walk_of {l:PySem.W.OpenLaw} {n k:Nat} {q:Program} {loose:List Str} {XP:(Str→Option Value)→Heap→Prop} {YP:World→Heap→Prop} {d:DefRec} {K:Params→PySem.W.Frag} {CX:World→CXT} {sp:World→Sp} {x:Str}
    (hn:l.most=some n) (hn2:n≤sizeLine) (hdf:d.params.defaults=[]) (hr:Room k callerA)
    (hY:∀ (w:World) (h:Heap),YP w h→(K w.params).In h)
    (F:∀ (w:World) (mg:Str→Option Value) (fa:Addr) (h:Heap),(K w.params).In h→h.Ns mainGlobals mg→mg d.name=some (.ref fa) →
      ∃ fd:FuncData,(∀ (s:Shared) (u:Value),BindsTo s fd ⟨[u],[]⟩ [(x,u)]) ∧
        ∀ base:Heap,(K w.params).In base→base.Ns mainGlobals mg→FnOk l.prog w (K w.params) mg base (CX w) k fa fd [x] (sp w))
    (hsp:∀ (w:World) (H:Hp) (a:Addr) (ns:List Int),ns.length≤n→Only H→SqL (K w.params) H a (ns.map V.int)→sp w [.ref a] H (fun v _=>v = .bl true) fun _ _ _=>False)
    (hCX:∀ (w:World) (H:Hp) (s:Shared) (e:Value) (s':Shared),CX w [] H s (fun _ _ _=>False) e s'→False) :
    PySem.W.WalkO q loose XP YP l.row.toRowW d [] (fun f vs=>PySem.call f vs):=by
  refine Att.attach_call hn hdf fun w s₀ s₁ mg mb fa o pm cd doc a vs ns G Y ho hd hcd hmg hobj hints hlen hg=>?_
  have KX:=hY w _ Y
  obtain ⟨fd,hb,hF⟩:=F w mg fa _ KX G.T.g hmg
  exact law_call KX G.T.g G.T.b G.T.builtins G.T.nolimit hg hobj hints (Nat.le_trans hlen hn2) hr hF hb (fun H hO hS=>hsp w H a ns hlen hO hS) fun H e s'=>hCX w H s₁ e s'
end L2
namespace L2
open PySem PySem.Spec PyProof.Rows
noncomputable def inClass (s:Stmt) (j:Nat):Stmt:=match s with
  | .ClassDef _ _ _ body _ _ _ _ _ _ _=>body.getD j (.Pass ⟨0,0,0,0⟩)
  | _=>.Pass ⟨0,0,0,0⟩
noncomputable def defArgs (s:Stmt):Arguments:=match s with
  | .FunctionDef _ a _ _ _ _ _ _ _ _=>a
  | _=>{ posonlyargs:=[],args:=[],vararg:=none,kwonlyargs:=[],kw_defaults:=[],kwarg:=none,defaults:=[] }
noncomputable def defBody (s:Stmt):List Stmt:=match s with
  | .FunctionDef _ _ b _ _ _ _ _ _ _=>b
  | _=>[]
noncomputable def defScope (s:Stmt):Scope:=match s with
  | .FunctionDef _ _ _ _ _ _ sc _ _ _=>sc
  | _=>{ kind:=.function,names:=[],isGenerator:=false,isCoroutine:=false }
noncomputable abbrev CX0:CXT:=fun _ _ _ _ _ _=>False
noncomputable abbrev E0:XK:=fun _ _ _=>False
theorem pass0 {X:Cx}:Passes CX0 X E0:=fun _ _ _ _ _ _ _ h=>h.elim
structure Fun (K:PySem.W.Frag) (x qual:Str) (st:Stmt) (f:Addr) (fd:FuncData):Prop where
  ex:∃ (oc:Value) (od:Option Addr) (kV doc pm:Value) (an:Option Addr) (cdv ct:Value) (osl:Array (Option Value)),
    fd=PySem.W.fnOf x qual (defArgs st) (defBody st) (defScope st) .none kV doc pm an cdv ct∧K.lookup f=some ⟨oc,od,.func fd,osl⟩∧PySem.W.codeIn K cdv qual=true
  kp:PySem.W.keepIn K (.ref f)=true
section
variable {P:Program} {w:World} {K:PySem.W.Frag} {mg:Str→Option Value} {base:Heap}
theorem Fun.ok {x qual:Str} {st:Stmt} {f:Addr} {fd:FuncData} {N ps:List Str} {k:Nat} {sp:Sp} (F:Fun K x qual st f fd) (S:FnScope N ps (defScope st)) (len:∀ vs H Q E,sp vs H Q E→vs.length=ps.length)
    (hbody:∀ (cdv:Value) (A:Around) (outer:List Env) (s:Shared) (H:Hp) (vs:List V) (Q:VK) (E:XK),Room k (A.deeper (envOfC qual (defScope st) s.heap.objs.size f cdv))→sp vs H Q E →
      ∃ t,PSs (cxOf CX0 P w K mg base N qual (defScope st) f cdv A outer s H E).nox (defBody st) t∧t { nx:=fun _ H'=>Q .non H',rt:=Q } (start N vs) H):FnOk P w K mg base CX0 (k + 1) f fd ps sp:=by
  obtain ⟨oc,od,kV,doc,pm,an,cdv,ct,osl,rfl,lk,hcd⟩:=F.ex
  refine fn_of lk hcd S len fun A outer s H vs Q E hr hsp=>?_
  obtain ⟨t,h,q⟩:=hbody cdv A outer s H vs Q E hr hsp
  exact ⟨t,h.nox,q⟩
theorem Fun.binds {x qual:Str} {st:Stmt} {f:Addr} {fd:FuncData} {ps:List Str} (F:Fun K x qual st f fd)
    (h:∀ (kV doc pm:Value) (an:Option Addr) (cdv ct:Value) (us:List Value),us.length=ps.length→bindArgs (PySem.W.fnOf x qual (defArgs st) (defBody st) (defScope st) .none kV doc pm an cdv ct) ⟨us,[]⟩=pure (ps.zip us)):Binds K fd ps []:=by
  obtain ⟨oc,od,kV,doc,pm,an,cdv,ct,osl,rfl,lk,hcd⟩:=F.ex
  exact .all (h kV doc pm an cdv ct)
theorem fun_mk {x qual:Str} {st:Stmt} {f:Addr} {oc:Value} {od an:Option Addr} {osl:Array (Option Value)} {kV doc pm cdv ct:Value} (l:K.lookup f=some ⟨oc,od,.func (PySem.W.fnOf x qual (defArgs st) (defBody st) (defScope st) .none kV doc pm an cdv ct),osl⟩)
    (c:PySem.W.codeIn K cdv qual=true) (k:PySem.W.keepIn K (.ref f)=true):Fun K x qual st f (PySem.W.fnOf x qual (defArgs st) (defBody st) (defScope st) .none kV doc pm an cdv ct):=⟨⟨oc,od,kV,doc,pm,an,cdv,ct,osl,rfl,l,c⟩,k⟩
end
theorem hu_of {A:Around} {k:Nat} (hr:Room k A):A.units + 1 < cLine:=Nat.lt_of_le_of_lt (Nat.add_le_add_left (by decide:1≤64) _) hr.units
section
variable {X:Cx}
theorem pv (i:Nat) {x:Str} {pos:Pos} (hN:X.N[i]? = some x:=by rfl) (hv:Vis X.env.scope x:=by first | exact Or.inl rfl | exact Or.inr (Or.inl rfl) | exact Or.inr (Or.inr rfl)) (hd:(x == ("__debug__":Str))=false:=by decide)
    (hcd:(x == ("__classdict__":Str))=false:=by decide):PE X (.Name x pos) (tVar i):=pe_var hN hv hd hcd
end
theorem iteF {A B:Prop} (h:B):if false=true then A else B:=by
  rw [if_neg Bool.false_ne_true]
  exact h
theorem iteT {A B:Prop} (h:A):if true=true then A else B:=by
  rw [if_pos rfl]
  exact h
theorem ite2 {c A B:Prop} [Decidable c] (h1:c→A) (h2:¬ c→B):if c then A else B:=by
  by_cases h:c
  · rw [if_pos h]
    exact h1 h
  · rw [if_neg h]
    exact h2 h
noncomputable def Same (H H':Hp):Prop:=∀ b o,H b=some o→H' b=some o
theorem Same.refl (H:Hp):Same H H:=fun _ _ h=>h
theorem Same.trans {H H1 H2:Hp} (a:Same H H1) (b:Same H1 H2):Same H H2:=fun c o h=>b c o (a c o h)
theorem Same.free {H H':Hp} (e:Same H H') {l:Addr} (h:H' l=Option.none):H l=Option.none:=by
  cases q:H l with
  | none=>rfl
  | some o =>
    rw [e l o q] at h
    cases h
theorem Same.seq {K:PySem.W.Frag} {H H':Hp} {a:Addr} {xs:List V} (e:Same H H') (h:SqL K H a xs):SqL K H' a xs:=by
  rcases h with (h | ⟨o,h⟩) | h
  · exact .inl (.inl (e _ _ h))
  · exact .inl (.inr ⟨o,e _ _ h⟩)
  · exact .inr h
section
variable {κ:Type} [DecidableEq κ]
end
end L2
end
section
namespace L2
open PySem PySem.Spec PyProof.Rows
section
variable {X:Cx} {pins:List (Addr×Obj)} {σ:St} {H:Hp} {s:Shared}
theorem Inv.freeze {d:Addr} {kvs:List (Key×V)} (I:Inv X pins σ H s) (e:H d=some (.dK kvs)):∃ o,s.heap.get? d=some o∧Inv X pins σ (upd H d (.frz o (.dK kvs))) s:=by
  obtain ⟨z,hd,vs,rel,ob,es,ep,h1,h2⟩:=(show ObjOk X.prog X.w H s.heap d (.dK kvs) from I.hok d _ e)
  refine ⟨ob,h1,?_⟩
  exact I.write (x:=d) (e:=d) (o:=.frz ob (.dK kvs)) (h':=s.heap) (t':=s.toks) (by rw [e];trivial) (.inl rfl) (fun b u _ q=>q) ⟨_,h1⟩
    ⟨h1,show ObjOk X.prog X.w _ s.heap d (.dK kvs) from ⟨z,hd,vs,rel,ob,es,ep,h1,h2⟩⟩
theorem Inv.turnLaid {fp:List Addr} {a:Addr} {o:HO} {h':Heap} {t':Nat} (I:Inv X pins σ H s) (f:∀ b∈fp,FpOk X pins H b) (ha:s.heap.objs.size≤a)
    (k:∀ b u,b ∉ fp→s.heap.get? b=some u→h'.get? b=some u) (new:ObjOk X.prog X.w (upd H a o) h' a o):Inv X pins σ (upd H a o) { s with heap:=h',toks:=t' }:=by
  have hn:H a=none:=I.hok.fresh ha
  have lt:∀ b u,s.heap.get? b=some u→b≠a:=fun b u e=>Nat.ne_of_lt (Nat.lt_of_lt_of_le (Heap.lt_size e) ha)
  have nf:∀ b u,H b=some u→b ∉ fp:=fun b u e hb=>by rw [(f b hb).1] at e;cases e
  refine I.call (g':=s.gens) (d':=s.drawn) (ch:=fp) ⟨fun b u e n _ hx=>k b u hx e,fun b u e n _ hx=>⟨u.slots,k b u hx e⟩,fun b u e n hx=>by rw [upd_ne (lt b u e)];exact n,fun b u e hx=>⟨u,k b u hx e⟩,
    fun b xs e=>by rw [upd_ne (ne_of_none e hn)];exact e,fun b u xs e=>by rw [upd_ne (ne_of_none e hn)];exact e,fun b ps e=>⟨#[],by rw [upd_ne (ne_of_none e hn),e];simp⟩⟩ ?_ I.bare (fun b hb=>?_)
  · intro b u e
    by_cases hb:b=a
    · subst hb;rw [upd_same] at e;cases e;exact new
    · rw [upd_ne hb] at e
      refine (I.hok b u e).stay (fun c v hc q=>k c v ?_ q) (fun c q=>by rw [upd_ne (ne_of_none q hn)];exact q) fun c xs q=>by rw [upd_ne (ne_of_none q hn)];exact q
      rcases hc with z | z
      · rw [z];exact nf b u e
      · exact nf c _ z
  · obtain ⟨f0,f1,f2,f3,f4,f5⟩:=f b hb
    exact ⟨f3,f1,f4,f5⟩
theorem Inv.dictAt {d:Addr} {o:Obj} {kvs:List (Key×V)} (I:Inv X pins σ H s) (e:H d=some (.frz o (.dK kvs))):kvs.length≤sizeLine∧(d == sysModules)=false∧s.heap.get? d=some o ∧
    ∃ vs,KV kvs vs∧∀ es ep,o.data = .dict es ep→s.heap.DictAt (mixKind X.prog X.w) d vs ep:=by
  obtain ⟨h1,z,hd,vs,rel,o',es,ep,h2,h3,h4,h5⟩:=(show ObjOk X.prog X.w H s.heap d (.frz o (.dK kvs)) from I.hok d _ e)
  rw [h1] at h2
  cases h2
  refine ⟨z,hd,h1,vs,rel,fun es' ep' q=>?_⟩
  rw [h4] at q
  cases q
  exact ⟨o,es,h1,h3,h4,h5⟩
theorem Inv.dictEp {d:Addr} {o:Obj} {kvs:List (Key×V)} (I:Inv X pins σ H s) (e:H d=some (.frz o (.dK kvs))):∃ es ep,o.data = .dict es ep:=by
  obtain ⟨h1,z,hd,vs,rel,o',es,ep,h2,h3,h4,h5⟩:=(show ObjOk X.prog X.w H s.heap d (.frz o (.dK kvs)) from I.hok d _ e)
  rw [h1] at h2
  cases h2
  exact ⟨es,ep,h4⟩
end
theorem kV_rel {P:Program} {w:World} {k:Key} {u:Value} (h:(mixKind P w).is k u=true):RelV (kV k) u:=by
  rcases keyIs_shape (show keyIs k u=true from h) with ⟨i,t,rfl,rfl⟩ | ⟨x,t,rfl,rfl⟩
  · exact ⟨t,rfl⟩
  · exact ⟨t,rfl⟩
theorem KV.at {kvs:List (Key×V)} {vs:List (Key×Value)} (r:KV kvs vs) {i:Nat} {k:Key} {v:V} (e:kvs[i]? = some (k,v)):∃ u,vs[i]? = some (k,u)∧RelV v u:=by
  unfold KV at r
  induction r generalizing i with
  | nil=>simp at e
  | @cons p q ps qs h t ih =>
    cases i with
    | zero =>
      simp only [List.getElem?_cons_zero,Option.some.injEq] at e
      subst e
      obtain ⟨q1,q2⟩:=q
      obtain ⟨h1,h2⟩:=h
      dsimp only at h1 h2
      subst h1
      exact ⟨q2,by simp,h2⟩
    | succ i =>
      rw [List.getElem?_cons_succ] at e ⊢
      exact ih e
noncomputable def iFz (J:Addr→Obj→List (Key×V)→It) (tl:TE):TI:=fun σ H R=>tl σ H fun x H1=>∃ d kvs,x = .ref d ∧
  ((H1 d=some (.dK kvs)∧∀ o,R (J d o kvs) (upd H1 d (.frz o (.dK kvs))))∨∃ o,H1 d=some (.frz o (.dK kvs))∧R (J d o kvs) H1)
theorem fz_go {X:Cx} {pins:List (Addr×Obj)} {σ:St} {H:Hp} {s:Shared} {d:Addr} {kvs:List (Key×V)} {J:Addr→Obj→List (Key×V)→It} {R:It→Hp→Prop} (I:Inv X pins σ H s)
    (h:(H d=some (.dK kvs)∧∀ o,R (J d o kvs) (upd H d (.frz o (.dK kvs))))∨∃ o,H d=some (.frz o (.dK kvs))∧R (J d o kvs) H) :
    ∃ o H',Inv X pins σ H' s∧H' d=some (.frz o (.dK kvs))∧R (J d o kvs) H':=by
  rcases h with ⟨e,h⟩ | ⟨o,e,h⟩
  · obtain ⟨o,_,I'⟩:=I.freeze e
    exact ⟨o,_,I',upd_same,h o⟩
  · exact ⟨o,H,I,e,h⟩
section
variable {X:Cx} {tg:Expr}
end
noncomputable def Iti (d:Addr) (o:Obj) (kvs:List (Key×V)):It :=
  ⟨fun i H=>H d=some (.frz o (.dK kvs))∧i < kvs.length,fun i H x H'=>∃ a k v,kvs[i]? = some (k,v)∧H a=none∧x = .ref a∧H'=upd H a (.tup [kV k,v]),fun i H=>H d=some (.frz o (.dK kvs))∧kvs.length≤i⟩
theorem turn_items {P:Program} {w:World} {K:PySem.W.Frag} {elts:List Expr} {x1} {tpos:Pos} (d it:Addr) (o:Obj) (kvs:List (Key×V)) {es:Array DictEntry} {ep:Nat} (hep:o.data = .dict es ep) :
    Turn P w K (.Tuple elts x1 tpos) (Iti d o kvs) [it] it (fun i h=>∃ ok ov,IsItemIter h it d i kvs.length ep ok ov) where
  mem:=by simp
  obj:=fun i h st b hb=>by
    have e:b=it:=by simpa using hb
    subst e
    obtain ⟨ok,ov,e⟩:=st
    exact ⟨_,e,fun v z=>nomatch z⟩
  keep:=fun i h h' st k=>by
    obtain ⟨ok,ov,e⟩:=st
    exact ⟨ok,ov,k it (by simp) _ e⟩
  item:=by
    intro X hP hw hK hc i pins s σ H E I hf st hg
    subst hP hw hK
    obtain ⟨fz,hi⟩:=hg
    obtain ⟨ok,ov,st⟩:=st
    obtain ⟨z,hd,h1,vs,rel,da⟩:=I.dictAt fz
    obtain ⟨⟨k,v⟩,hk⟩:∃ p,kvs[i]? = some p:=⟨_,List.getElem?_eq_getElem hi⟩
    obtain ⟨u,hu,ru⟩:=rel.at hk
    rw [rel.length] at st
    have hit:it < s.heap.objs.size:=Heap.lt_size st
    refine wpAny_pyNext_items_item st (da es ep hep) hu fun key h' hkey hout htup hsz hkp=>⟨_,rfl,?_⟩
    refine wpAny_letOwnedTupleGo_items (s:={ s with heap:=h' }) hout fun h2 st2 sb=>?_
    have tup2:h2.get? s.heap.objs.size=some { cls:=.type "tuple",data:=.seq #[key,u] }:=(sb.2 _ (Nat.ne_of_gt hit)).trans htup
    refine ⟨.ref s.heap.objs.size,upd H s.heap.objs.size (.tup [kV k,v]),?_,rfl,⟨_,k,v,hk,I.hok.fresh (Nat.le_refl _),rfl,rfl⟩,⟨key,u,by rw [rel.length];exact st2⟩,fun b hb=>?_⟩
    · refine I.turnLaid (fp:=[it]) (t':=s.toks) hf (Nat.le_refl _) (fun b o' hb e=>?_) ⟨by show 2≤sizeLine;decide,[key,u],.cons (kV_rel hkey) (.cons ru .nil),⟨_,tup2,rfl,_,rfl⟩⟩
      have hb:b≠it:=by simpa using hb
      exact (sb.2 b hb).trans (hkp b o' hb e)
    · have e:b=it:=by simpa using hb
      subst e
      rw [upd_ne (Nat.ne_of_lt hit)]
      exact (hf b (by simp)).1
  done:=by
    intro X hP hw hK hc i pins s σ H E I hf st hg
    subst hP hw hK
    obtain ⟨fz,hi⟩:=hg
    obtain ⟨ok,ov,st⟩:=st
    obtain ⟨z,hd,h1,vs,rel,da⟩:=I.dictAt fz
    obtain ⟨f0,f1,f2,f3,f4,f5⟩:=hf it (by simp)
    have hn:vs[i]? = none:=List.getElem?_eq_none (by rw [← rel.length];exact hi)
    rw [rel.length] at st
    exact wpAny_pyNext_items_end (I.ok.hd hc) st (da es ep hep) hn fun h' eb=>⟨rfl,I.turned (t':=s.toks) (fun b o hb e=>eb b o hb e) f0 f1 f3 f4 f5⟩
  self:=fun A i s Q E st h=>by
    obtain ⟨ok,ov,st⟩:=st
    exact PySem.W.kcp_self st h
section
variable {X:Cx}
theorem pi_items {o:Expr} {tl:TE} {elts:List Expr} {x1} {tpos apos cpos:Pos} (hl:PE X o tl) (hbase:attributeBase o "items" X.env (eval o X.env)=eval o X.env:=by rfl) (hline:(apos.endLine == cpos.line)=true:=by rfl) :
    PI X (.Tuple elts x1 tpos) (.Call (.Attribute o "items" apos) [] [] cpos) (iFz Iti tl):=by
  intro pins s σ H R I h
  refine wpAny_Call_method (T:="dict") (id:="dict.items") hbase rfl hline PySem.F.plainAttrs_dict PySem.F.slot_dict_items PySem.F.type_dict_items (thn (hl pins s σ H _ I h) fun v s1 hpq=>?_)
  obtain ⟨x,H1,I1,r1,q1⟩:=hpq
  obtain ⟨d,kvs,e,q⟩:=q1
  subst e
  cases r1
  obtain ⟨ob,H2,I2,fz,q⟩:=fz_go I1 q
  obtain ⟨z,hd,h1,vs,rel,da⟩:=I2.dictAt fz
  obtain ⟨es,ep,hep⟩:=I2.dictEp fz
  have dd:=(da es ep hep)
  refine ⟨dd.dictOf.typeIs,dd.dictOf.mapOf.noDict,?_⟩
  refine method_meetsIn PySem.F.slot_dict_items PySem.F.entry_dict_items rfl (PySem.evalArgs_none ⟨rfl,dd.dictOf.typeIs,PySem.F.args_dict_items_1 _,_,meets_dict_items (mixKind X.prog X.w) d hd,⟨vs,dd.dictOf⟩,?_⟩)
  have I3:Inv X pins σ H2 { s1 with heap:=s1.heap.push { cls:=.type "dict_items",data:=.fields #[.ref d] } }:=I2.kept (t':=s1.toks) fun b o e=>Heap.get?_push_of_some _ e
  refine wpAny_pyIter_items (knd:=mixKind X.prog X.w) (d:=d) (kvs:=vs) (ep:=ep) ⟨_,Heap.get?_push_size _ rfl,rfl,rfl⟩ (dd.push _) ?_
  refine ⟨_,[_],_,_,H2,rfl,I3.kept (t':=s1.toks) fun b o e=>Heap.get?_push_of_some _ e,turn_items d _ ob kvs hep,⟨.none,.none,?_⟩,fun b hb=>?_,q⟩
  · rw [rel.length];exact Heap.get?_push_size _ rfl
  · have e:=List.mem_singleton.mp hb
    subst e
    exact I3.fpOk (Nat.le_refl _) (I3.hok.fresh (Nat.le_refl _))
end
theorem for_items {d:Addr} {o:Obj} {kvs:List (Key×V)} {g:TG} {tb:TS} {D:Ends} {σ:St} {H:Hp} (Pv:Nat→St→Hp→Prop) (h0:Pv 0 σ H) (hl:∀ i σ H,i≤kvs.length→Pv i σ H→H d=some (.frz o (.dK kvs)))
    (hs:∀ i k v a σ H,kvs[i]? = some (k,v)→H a=none→Pv i σ H→g (.ref a) σ (upd H a (.tup [kV k,v])) fun σ2 H2=>tb { D with nx:=Pv (i + 1),ct:=Pv (i + 1),bk:=D.nx } σ2 H2) (hd:∀ σ H,Pv kvs.length σ H→D.nx σ H) :
    ∃ W:Nat→Nat→St→Hp→Prop,(∃ m,W 0 m σ H)∧∀ i m σ H,W i m σ H →
      ((Iti d o kvs).stop i H∧D.nx σ H)∨((Iti d o kvs).go i H∧∃ N:St→Hp→Prop,(∀ σ' H',N σ' H'→∃ m',m' < m∧W (i + 1) m' σ' H')∧∀ x H',(Iti d o kvs).yld i H x H'→g x σ H' fun σ2 H2=>tb { D with nx:=N,ct:=N,bk:=D.nx } σ2 H2):=by
  refine ⟨fun i m σ H=>m=kvs.length - i∧i≤kvs.length∧Pv i σ H,⟨kvs.length,by simp,Nat.zero_le _,h0⟩,?_⟩
  rintro i m σ H ⟨rfl,hi,p⟩
  have q:=hl i σ H hi p
  by_cases hlt:i < kvs.length
  · refine .inr ⟨⟨q,hlt⟩,Pv (i + 1),fun σ' H' p'=>⟨kvs.length - (i + 1),by omega,rfl,hlt,p'⟩,fun x H' y=>?_⟩
    obtain ⟨a,k,v,y,hn,rfl,rfl⟩:=y
    exact hs i k v a σ _ y hn p
  · have e:i=kvs.length:=by omega
    subst e
    exact .inl ⟨⟨q,Nat.le_refl _⟩,hd σ H p⟩
section
variable {X:Cx}
end
theorem vals_of_items {P:Nat→Value→Prop} {acc:Array Value} {ks:List V} (h:ItemsOf P acc ks.length) (hp:∀ (i:Nat) (v:V) (u:Value),ks[i]? = some v→P i u→RelV v u):Vals ks acc.toList:=by
  have go:∀ (ks:List V) (us:List Value),us.length=ks.length→(∀ (i:Nat) (v:V) (u:Value),ks[i]? = some v→us[i]? = some u→RelV v u)→Vals ks us:=by
    intro ks
    induction ks with
    | nil=>intro us hl _;cases us with
      | nil=>exact .nil
      | cons _ _=>simp at hl
    | cons k ks ih=>intro us hl hr;cases us with
      | nil=>simp at hl
      | cons u us=>exact .cons (hr 0 k u rfl rfl) (ih us (by simpa using hl) fun i v w e1 e2=>hr (i + 1) v w (by simpa using e1) (by simpa using e2))
  refine go ks acc.toList (by rw [Array.length_toList];exact h.1) fun i v u e1 e2=>hp i v u e1 (h.2 i u ?_)
  rw [← Array.getElem?_toList];exact e2
section
variable {X:Cx}
end
end L2
end
section
namespace L2
open PySem PySem.Spec PyProof.Rows
noncomputable def compCx (X:Cx) (N':List Str) (scope:Scope) (cl:List (Str×Addr)) (C:Addr) (s₀:Shared) (H₀:Hp) (ex:List Addr) (pn:List (Addr×Obj)) (xe:Value→Shared→Prop):Cx :=
  { prog:=X.prog,w:=X.w,K:=X.K,mg:=X.mg,base:=X.base,A:=X.A,N:=N',s₀:=s₀,H₀:=H₀,env:=compEnvC scope cl C X.env,outer:=X.stack,stack:=X.stack,ex:=ex,fn:=fun _=>false,calm:=X.calm,pn:=pn,xe:=xe }
structure CompOk (X:Cx) (N':List Str) (scope:Scope) (cl:List (Str×Addr)):Prop where
  clos:closureFor scope X.env=pure cl
  nocell:∀ y∈scope.names,y.2≠.cell
  kind:scope.kind = .function
  names:∀ y∈scope.names,y.2 = .local→scope.names.lookup y.1=some .local
  sub:∀ x c,cl.lookup x=some c→X.env.cells.lookup x=some c
  has:∀ x,((relabel scope X.env).names.lookup x=some .cell∨(relabel scope X.env).names.lookup x=some .free)→∃ c,cl.lookup x=some c
noncomputable def Capt (X:Cx) (N':List Str) (scope:Scope) (cl:List (Str×Addr)) (σ σb:St):Prop :=
  σb.length=N'.length∧∀ (i:Nat) (x:Str) (v:V),N'[i]? = some x→σb[i]? = some (some v)→∃ j:Nat,X.N[j]? = some x∧σ[j]? = some (some v)∧X.env.scope.names.lookup x=some .cell ∧
    (relabel scope X.env).names.lookup x=some .cell
section
variable {X:Cx} {elt iter:Expr} {x:Str} {px pos:Pos} {scope:Scope} {N':List Str} {cl:List (Str×Addr)} {wi:TI} {te:TE} {iw:Nat}
theorem comp_ok {pins:List (Addr×Obj)} {σ:St} {H:Hp} {s:Shared} {fp:List Addr} {C:Addr} {xe:Value→Shared→Prop} (I:Inv X pins σ H s) (hc:X.calm=true) (O:CompOk X N' scope cl) (f:∀ b∈fp,FpOk X pins H b) (hC:s.heap.objs.size≤C)
    (hfp:∀ b∈fp,b < s.heap.objs.size):(compCx X N' scope cl C s H fp (X.pn++pins) xe).Ok where
  mod:=I.ok.mod
  kind:=O.kind
  glob:=I.ok.glob
  blt:=I.ok.blt
  above:=hC
  inj:=fun x y c e1 e2=>I.ok.inj x y c (O.sub x c e1) (O.sub y c e2)
  has:=fun x h=>O.has x h
  cab:=fun x c h=>by cases h
  hd:=fun _=>I.ok.hd hc
  frames:=I.ok.frames
  stk:=.inl rfl
  exf:=fun b hb=>⟨Nat.ne_of_lt (Nat.lt_of_lt_of_le (hfp b hb) hC),fun x c e=>(f b hb).2.2.2.2.1 x c (O.sub x c e)⟩
  bs:=I.bs
  bsz:=Nat.le_trans I.ok.bsz I.sz
  noex:=fun b o e hb=>by
    rcases (f b hb).2.2.2.1 with q | q
    · exact I.ok.noex b o e q
    · exact absurd (Nat.lt_of_lt_of_le (Heap.lt_size e) (Nat.le_trans I.ok.bsz q)) (Nat.lt_irrefl _)
  exfs:=fun b hb z=>by
    rcases List.mem_cons.mp (I.stkSub b z) with q | q
    · exact (f b hb).2.1 q
    · exact (f b hb).2.2.1 q
  funs:=I.stack
  frf:=I.stkFree
theorem comp_start {pins:List (Addr×Obj)} {σ σb:St} {H:Hp} {s:Shared} {fp:List Addr} {C D:Addr} {xe:Value→Shared→Prop} {h1:Heap} {tk:Nat} {m:Str→Option Value} (I:Inv X pins σ H s) (hc:X.calm=true) (O:CompOk X N' scope cl)
    (cap:Capt X N' scope cl σ σb) (f:∀ b∈fp,FpOk X pins H b) (hfp:∀ b∈fp,b < s.heap.objs.size) (hC:s.heap.objs.size≤C) (hD:s.heap.objs.size≤D) (hDC:D≠C)
    (k:∀ b u,s.heap.get? b=some u→h1.get? b=some u) (hns:h1.Ns C m) (hDo:h1.get? D=some { cls:=.type "list",data:=.seq #[] }) :
    Inv (compCx X N' scope cl C s H fp (X.pn++pins) xe) [] σb (upd H D (.lst [])) { s with heap:=h1,toks:=tk }:=by
  have hn:H D=none:=I.hok.fresh hD
  have ltD:∀ b u,s.heap.get? b=some u→b≠D:=fun b u e=>Nat.ne_of_lt (Nat.lt_of_lt_of_le (Heap.lt_size e) hD)
  have ltC:∀ b u,s.heap.get? b=some u→b≠C:=fun b u e=>Nat.ne_of_lt (Nat.lt_of_lt_of_le (Heap.lt_size e) hC)
  refine ⟨comp_ok I hc O f hC hfp,rfl,I.bare,Un.laid k hD hn,⟨m,hns,fun i x v e1 e2 e3=>?_⟩,fun x c e=>?_,?_,fun x c e=>?_,fun p hp=>?_,I.hok.laid k hD ?_,cap.1⟩
  · obtain ⟨j,q1,q2,q3,q4⟩:=cap.2 i x v e1 e2
    obtain ⟨m0,hn0,l0⟩:=I.loc
    obtain ⟨u,ru,lk⟩:=l0 j x v q1 q2 (.inr (.inl q3))
    refine ⟨u,ru,.inr ⟨.inl q4,?_⟩⟩
    rcases lk with ⟨z,_⟩ | ⟨_,c,hc2,cell⟩
    · have z:X.env.scope.names.lookup x=some .local:=z
      rw [q3] at z;cases z
    · obtain ⟨c',hc'⟩:=O.has x (.inl q4)
      have e:=O.sub x c' hc'
      rw [hc2] at e
      cases e
      obtain ⟨o,ho,hd⟩:=cell
      exact ⟨c,hc',o,k c o ho,hd⟩
  · obtain ⟨v,o,ho,hd⟩:=I.cell x c (O.sub x c e)
    exact ⟨v,o,k c o ho,hd⟩
  · show upd H D (.lst []) C=none
    rw [upd_ne (Ne.symm hDC)];exact I.hok.fresh hC
  · obtain ⟨v,o,ho,hd⟩:=I.cell x c (O.sub x c e)
    show upd H D (.lst []) c=none
    rw [upd_ne (ltD c o ho)];exact I.freeC x c (O.sub x c e)
  · have hp:p∈X.pn++pins:=by
      have hp:p∈(X.pn++pins)++[]:=hp
      simpa using hp
    obtain ⟨e,n,ne,nf,d⟩:=I.pin p hp
    refine ⟨k _ _ e,by rw [upd_ne (ltD _ _ e)];exact n,ltC _ _ e,fun z=>?_,d⟩
    rcases List.mem_cons.mp (I.stkSub _ z) with q | q
    · exact ne q
    · exact nf q
  · exact ⟨Nat.zero_le _,[],0,.nil,hDo⟩
theorem comp_end {pins pins':List (Addr×Obj)} {σ σ':St} {H H':Hp} {s s':Shared} {fp:List Addr} {C:Addr} {xe:Value→Shared→Prop} {h':Heap} (I:Inv X pins σ H s) (f:∀ b∈fp,FpOk X pins H b) (hC:s.heap.objs.size≤C)
    (I':Inv (compCx X N' scope cl C s H fp (X.pn++pins) xe) pins' σ' H' s') (sb:Heap.SameBut C s'.heap h'):Inv X pins σ H' { s' with heap:=h' }:=by
  have ltC:∀ b u,s.heap.get? b=some u→b≠C:=fun b u e=>Nat.ne_of_lt (Nat.lt_of_lt_of_le (Heap.lt_size e) hC)
  have u:Un (frs X.stack) fp H H' s.heap s'.heap:=I'.base
  have hC':H' C=none:=I'.free
  refine I.call' (s':={ s' with heap:=h' }) (ch:=fp) I'.os ⟨fun b o e n hb hx=>(sb.2 b (ltC b o e)).trans (u.keep b o e n hb hx),fun b o e n hb hx=>?_,u.free,fun b o e hx=>?_,u.tups,u.frzs,u.tbls⟩ ?_ I'.bare (fun b hb=>?_)
  · obtain ⟨sl,q⟩:=u.slot b o e n hb hx
    exact ⟨sl,(sb.2 b (ltC b o e)).trans q⟩
  · obtain ⟨o',q⟩:=u.there b o e hx
    exact ⟨o',(sb.2 b (ltC b o e)).trans q⟩
  · intro b o e
    refine (I'.hok b o e).stay (fun c v hc q=>(sb.2 c ?_).trans q) (fun c q=>q) fun c xs q=>q
    rcases hc with z | z
    · rw [z];intro z2;rw [z2,hC'] at e;cases e
    · intro z2;rw [z2,hC'] at z;cases z
  · obtain ⟨f0,f1,f2,f3,f4,f5⟩:=f b hb
    exact ⟨f3,f1,f4,f5⟩
end
end L2
end
section
namespace L2
open PySem PySem.Spec PyProof.Rows Tim
section
variable {X:Cx} {pins:List (Addr×Obj)} {σ:St} {H:Hp} {s:Shared}
theorem strsAre_of {ss:List Str}:∀ {us:List Value},Vals (ss.map V.str) us→StrsAre us ss:=by
  induction ss with
  | nil=>intro us r;rw [List.map_nil] at r;cases r;exact .nil
  | cons x ss ih =>
    intro us r
    rw [List.map_cons] at r
    cases r with
    | cons r1 r2 =>
      obtain ⟨t,e⟩:=r1
      subst e
      exact .cons x t (ih r2)
theorem vals_of_strs:∀ {us:List Value} {ss:List Str},StrsAre us ss→Vals (ss.map V.str) us
  | _,_,.nil=>.nil
  | _,_,.cons x t h=>.cons ⟨t,rfl⟩ (vals_of_strs h)
end
section
variable {X:Cx}
end
section
variable {X:Cx} {pins:List (Addr×Obj)} {σ:St} {H:Hp} {s:Shared}
end
end L2
end
section
namespace L2
open PySem PySem.Spec PyProof.Rows Tim
section
variable {X:Cx} {pins:List (Addr×Obj)} {σ:St} {H:Hp} {s:Shared}
end
section
variable {X:Cx}
end
end L2
namespace L2
open PySem PySem.Spec PyProof.Rows Tim
section
variable {X:Cx}
end
end L2
end
section
namespace L2
open PySem PySem.Spec PyProof.Rows Tim
inductive Isi (H:Hp):V→String→Bool→Prop where
  | ss (x:Str):Isi H (.str x) "str" true
  | ii (i:Int):Isi H (.int i) "int" true
  | ib (i:Int):Isi H (.int i) "bool" false
  | ts {a:Addr} {xs:List V} (e:H a=some (.tup xs)):Isi H (.ref a) "str" false
  | tt {a:Addr} {xs:List V} (e:H a=some (.tup xs)):Isi H (.ref a) "tuple" true
  | ll {a:Addr} {xs:List V} (e:H a=some (.lst xs)):Isi H (.ref a) "list" true
  | st (x:Str):Isi H (.str x) "tuple" false
  | bb (b:Bool):Isi H (.bl b) "bool" true
section
variable {X:Cx}
theorem call_isi:CallR X (.builtin "isinstance") (fun xs H Q=>∃ x n b,xs=[x,.ty n]∧Isi H x n b∧Q (.bl b) H):=by
  intro pins s σ H xs us Q I r h
  obtain ⟨x,n,b,rfl,hi,q⟩:=h
  obtain ⟨u,v,rfl,rx,ry⟩:=vals2 r
  cases ry
  cases hi with
  | ss x=>obtain ⟨t,rfl⟩:=rx;exact PySem.IsiPair.str_str ⟨.bl true,H,I,rfl,q⟩
  | ii i=>obtain ⟨t,rfl⟩:=rx;exact PySem.IsiPair.int_int ⟨.bl true,H,I,rfl,q⟩
  | ib i=>obtain ⟨t,rfl⟩:=rx;exact PySem.IsiPair.int_bool ⟨.bl false,H,I.tok _,rfl,q⟩
  | st x=>obtain ⟨t,rfl⟩:=rx;exact PySem.IsiPair.str_tuple ⟨.bl false,H,I.tok _,rfl,q⟩
  | bb b=>cases rx;exact PySem.IsiPair.bool_bool ⟨.bl true,H,I,rfl,q⟩
  | @ts a xs e =>
    cases rx
    obtain ⟨_,us,ru,o,e7,e8,n,e9⟩:=(show ObjOk X.prog X.w H s.heap a (.tup xs) from I.hok a _ e)
    exact PySem.IsiPair.tuple_str e7 e8 ⟨.bl false,H,I.tok _,rfl,q⟩
  | @tt a xs e =>
    cases rx
    obtain ⟨_,us,ru,o,e7,e8,n,e9⟩:=(show ObjOk X.prog X.w H s.heap a (.tup xs) from I.hok a _ e)
    exact PySem.IsiPair.tuple_tuple e7 e8 ⟨.bl true,H,I,rfl,q⟩
  | @ll a xs e =>
    cases rx
    obtain ⟨_,us,n,ru,e7⟩:=(show ObjOk X.prog X.w H s.heap a (.lst xs) from I.hok a _ e)
    exact PySem.IsiPair.list_list e7 rfl ⟨.bl true,H,I,rfl,q⟩
theorem pe_ty {x:Str} {n:String} {pos:Pos} (hg:Gl X x) (hm:X.mg x=none) (hv:bootBuiltins x=some (.type n)) (hn:x≠"__name__":=by decide) (hd:(x == ("__debug__":Str))=false:=by decide):PE X (.Name x pos) (tC (.ty n)) :=
  pe_bltn hg hm hv rfl hn hd
theorem boot_isi:bootBuiltins "isinstance" = some (.builtin "isinstance"):=by decide +kernel
end
end L2
end
section
namespace L2
open PySem PySem.Spec PyProof.Rows
section
variable {X:Cx} {elt iter tst:Expr} {x:Str} {px pos:Pos} {scope:Scope} {N':List Str} {cl:List (Str×Addr)} {wi:TI} {te:TE} {tc:TT} {iw:Nat}
end
end L2
end
section
namespace L2
open PySem PySem.Spec PyProof.Rows
noncomputable def rSlS:V→Option Int→Option Int→Hp→VK→Prop:=fun x lo hi H Q=>∃ z,x = .str z∧z.length≤sizeLine∧Q (.str (Txt.slice z lo hi)) H
section
variable {X:Cx}
theorem part_ex {v:Value} {o:Option Int} (h:IsPart v o):∃ p:Option (Int×Tok),v=partValue p∧o=p.map (·.1):=by
  cases h with
  | none=>exact ⟨none,rfl,rfl⟩
  | int i t=>exact ⟨some (i,t),rfl,rfl⟩
theorem sl_str:SlR X rSlS:=by
  intro pins s σ H x v vl vu lo hi sl Q I rx hs pl pu h
  obtain ⟨z,rfl,hz,q⟩:=h
  obtain ⟨t,rfl⟩:=rx
  obtain ⟨p1,rfl,rfl⟩:=part_ex pl
  obtain ⟨p2,rfl,rfl⟩:=part_ex pu
  refine ⟨"str",_,PySem.F.slot_str_getitem.lookup,typeIs_str _ _ _,?_⟩
  refine wpAny_getItem_str_slice (l:=p1) (u:=p2) (st:=none) hs rfl (post_val_or_str ⟨Nat.le_trans (Txt.slice_le z _ _) hz,fun t' k=>⟨.str (Txt.slice z (p1.map (·.1)) (p2.map (·.1))),H,I.kept (t':=k) (fun b o e=>e),⟨t',rfl⟩,q⟩⟩)
theorem sl_mid {x:Str} {i j:Int} (h:0≤i∧i≤j∧j≤x.length):(Txt.slice x (some i) (some j)).cps.toList=(x.cps.toList.drop i.toNat).take (j - i).toNat:=by
  have h':0≤i∧i≤j∧j≤(x.cps.toList.length:Int):=by
    have e:(x.cps.toList.length:Int)=x.length:=by rw [Array.length_toList];rfl
    omega
  have:=eq_of_beq (slice_closes h')
  rw [this]
theorem sl_to {x:Str} {j:Int} (h:0≤j∧j≤x.length):(Txt.slice x none (some j)).cps.toList=x.cps.toList.take j.toNat:=by
  have h':0≤j∧j≤(x.cps.toList.length:Int):=by
    have e:(x.cps.toList.length:Int)=x.length:=by rw [Array.length_toList];rfl
    omega
  have:=eq_of_beq (slice_closes_to h')
  rw [this]
  simp
theorem sl_from {x:Str} {i:Int} (h:0≤i∧i≤x.length):(Txt.slice x (some i) none).cps.toList=x.cps.toList.drop i.toNat:=by
  have e:(x.length:Nat)=x.cps.toList.length:=by rw [Array.length_toList];rfl
  rw [slice_from_eq (b:=x.length) h.1 h.2 rfl]
  show (x.cps.toList.drop i.toNat).take ((x.length:Int) - i).toNat=_
  refine List.take_of_length_le ?_
  rw [List.length_drop]
  omega
end
end L2
end
section
namespace L2
open PySem PySem.Spec PyProof.Rows Tim
theorem argBest_low {bt:Nat→Nat→Bool} (irr:∀ i,bt i i=false) (tr:∀ i j k,bt i j=true→bt j k=true→bt i k=true):∀ k i,i≤k→bt i (argBest bt k)=false
  | 0,i,h=>by
    have e:i=0:=by omega
    subst e;exact irr 0
  | k + 1,i,h=>by
    unfold argBest
    split
    · rename_i hb
      by_cases e:i=k + 1
      · subst e;exact irr _
      · have ih:=argBest_low irr tr k i (by omega)
        cases q:bt i (k + 1) with
        | false=>rfl
        | true=>rw [tr _ _ _ q hb] at ih;cases ih
    · rename_i hb
      by_cases e:i=k + 1
      · subst e;simpa using hb
      · exact argBest_low irr tr k i (by omega)
section
variable {X:Cx} {pins:List (Addr×Obj)} {σ:St} {H:Hp} {s:Shared}
end
section
variable {X:Cx}
theorem cmp_strs {P:Program} {w:World} {A:Around} {p:Nat→Value→Prop} (val:Nat→Str) (hval:∀ i v,p i v→∃ t,v = .str (val i) t):CmpOf P w A .Lt p (fun i j=>decide ((val i).cps.toList < (val j).cps.toList)):=fun i j vi vj s Q E hi hj h=>by
  obtain ⟨t,rfl⟩:=hval i vi hi
  obtain ⟨u,rfl⟩:=hval j vj hj
  exact lt_str h
end
end L2
end
section
namespace L2
open PySem PySem.Spec PyProof.Rows Tim
theorem boot_all:bootBuiltins "all" = some (.builtin "all"):=by decide +kernel
theorem boot_min:bootBuiltins "min" = some (.builtin "min"):=by decide +kernel
section
variable {X:Cx}
theorem call_all (hc:X.calm=true):CallR X (.builtin "all") (fun xs H Q=>∃ (l:Addr) (bs:List Bool),xs=[.ref l]∧SqL X.K H l (bs.map V.bl)∧Q (.bl (bs.all id)) H):=by
  intro pins s σ H xs us Q I r h
  obtain ⟨l,bs,rfl,hl,q⟩:=h
  obtain ⟨u,rfl,rx⟩:=vals1 r
  cases rx
  obtain ⟨its,r,p,hz⟩:=I.list hl
  have hlt:l < s.heap.objs.size:=by obtain ⟨o,n,e,_⟩:=p;exact Heap.lt_size e
  have hlen:its.length=bs.length:=by rw [← r.length,List.length_map]
  have hsz:its.toArray.size=bs.length:=by simp [hlen]
  refine call_all_walk (wpAny_pyIter_list p.isList ?_)
  refine ⟨_,_,_,_,_,_,fun i=>bs.getD i true,rfl,Walks.list (A:=X.A.in1) (I.ok.hd hc) s.heap.objs.size l (Nat.ne_of_lt hlt) its.toArray,⟨⟨_,Heap.get?_push_size _ rfl,rfl,rfl⟩,p.isList.push _⟩,?_,fun h' tk hk=>?_⟩
  · intro i v s' Q' E' hv h'
    have hv:its[i]? = some v:=by simpa using hv
    have hi:i < bs.length:=by rw [← hlen];exact (List.getElem?_eq_some_iff.mp hv).1
    obtain ⟨u,hu,ru⟩:=r.get (i:=i) (x:=V.bl bs[i]) (by rw [List.getElem?_map,List.getElem?_eq_getElem hi];rfl)
    rw [hu] at hv
    have e0:u=v:=Option.some.inj hv
    have ru:u=Value.bool bs[i]:=ru
    rw [← e0,ru]
    have e:bs.getD i true=bs[i]:=by simp [List.getD,List.getElem?_eq_getElem hi]
    have h':Q' (bs.getD i true) s':=h'
    rw [e] at h'
    exact wpAny_pure h'
  · rw [hsz]
    have e:(List.range bs.length).all (fun i=>bs.getD i true)=bs.all id:=by
      rw [Bool.eq_iff_iff,List.all_eq_true,List.all_eq_true]
      constructor
      · intro h b hb
        obtain ⟨i,hi,rfl⟩:=List.mem_iff_getElem.mp hb
        have:=h i (List.mem_range.mpr hi)
        simpa [List.getD,List.getElem?_eq_getElem hi] using this
      · intro h i hi
        have hi:=List.mem_range.mp hi
        have:=h bs[i] (List.getElem_mem hi)
        simpa [List.getD,List.getElem?_eq_getElem hi] using this
    rw [e]
    refine ⟨.bl (bs.all id),H,?_,rfl,q⟩
    refine I.kept (t':=tk) fun b o e=>hk b o (fun hm=>?_) (Heap.get?_push_of_some _ e)
    simp only [List.mem_cons,List.not_mem_nil,or_false] at hm
    subst hm
    exact absurd (Heap.lt_size e) (Nat.lt_irrefl _)
end
theorem upd_same2' {H:Hp} {D:Addr} {o:HO} (h:H D=none):Same H (upd H D o):=fun b u e=>by rw [upd_ne (ne_of_none e h)];exact e
end L2
end
section
namespace L2
open PySem PySem.Spec PyProof.Rows Tim
noncomputable def lstEq (xs ys:List V) (e:Nat→Bool):Bool:=decide (xs.length=ys.length) && (List.range xs.length).all e
inductive EqV (K:PySem.W.Frag) (H:Hp):Nat→V→V→Bool→Prop where
  | int (n:Nat) (i j:Int):EqV K H n (.int i) (.int j) (i == j)
  | str (n:Nat) (x y:Str):EqV K H n (.str x) (.str y) (x == y)
  | bl (n:Nat) (x y:Bool):EqV K H n (.bl x) (.bl y) (x == y)
  | same (n:Nat) (a:Addr):EqV K H n (.ref a) (.ref a) true
  | tup {n:Nat} {a b:Addr} {xs ys:List V} {e:Nat→Bool} (ne:a≠b) (ha:SqT K H a xs) (hb:SqT K H b ys) (h:∀ (j:Nat) u v,xs[j]? = some u→ys[j]? = some v→EqV K H n u v (e j)) :
      EqV K H (n + 1) (.ref a) (.ref b) ((List.range (min xs.length ys.length)).all e && xs.length == ys.length)
  | lst {n:Nat} {a b:Addr} {xs ys:List V} {e:Nat→Bool} (ne:a≠b) (ha:SqL K H a xs) (hb:SqL K H b ys) (h:xs.length=ys.length→∀ (j:Nat) u v,xs[j]? = some u→ys[j]? = some v→EqV K H n u v (e j)) :
      EqV K H (n + 1) (.ref a) (.ref b) (lstEq xs ys e)
section
variable {X:Cx}
theorem isTup_tuple {h:Heap} {a:Addr} {its:Array Value} (p:IsTup h a its):h.IsTuple a its:=p
theorem eqv_at {pins:List (Addr×Obj)} {σ:St} {H:Hp} {s:Shared} (I:Inv X pins σ H s) {n:Nat} {x y:V} {b:Bool} (h:EqV X.K H n x y b):∀ {A:Around} {u v:Value},RelV x u→RelV y v→A.units + n < cLine→SeqAt.EqAt A s u v b:=by
  induction h with
  | int n i j=>intro A u v r r' _;obtain ⟨t,rfl⟩:=r;obtain ⟨t',rfl⟩:=r';exact SeqAt.EqAt.int_int _ _ _ _
  | str n i j=>intro A u v r r' _;obtain ⟨t,rfl⟩:=r;obtain ⟨t',rfl⟩:=r';exact SeqAt.EqAt.str_str _ _ _ _
  | bl n i j=>intro A u v r r' _;cases r;cases r';exact SeqAt.EqAt.bool_bool _ _
  | same n a=>intro A u v r r' _;cases r;cases r';exact SeqAt.EqAt.same _
  | @tup n a b xs ys e ne ha hb h ih =>
    intro A u v r r' hu
    cases r
    cases r'
    obtain ⟨us1,r1,p1,_⟩:=I.tuple ha
    obtain ⟨us2,r2,p2,_⟩:=I.tuple hb
    have l1:=r1.length
    have l2:=r2.length
    have key:=SeqAt.RcAt.tuples (A:=A) (s:=s) (e:=e) (isTup_tuple p1) (isTup_tuple p2) (by omega) fun j j1 j2=>by
      have j1:j < us1.length:=by simpa using j1
      have j2:j < us2.length:=by simpa using j2
      have jx:j < xs.length:=by omega
      have jy:j < ys.length:=by omega
      obtain ⟨w1,e1,q1⟩:=r1.get (List.getElem?_eq_getElem jx)
      obtain ⟨w2,e2,q2⟩:=r2.get (List.getElem?_eq_getElem jy)
      rw [List.getElem?_eq_getElem j1] at e1
      rw [List.getElem?_eq_getElem j2] at e2
      have:=ih j _ _ (List.getElem?_eq_getElem jx) (List.getElem?_eq_getElem jy) (A:=A.in1) q1 q2 (by show A.units + 1 + n < cLine;omega)
      simp only [List.getElem_toArray]
      rw [Option.some.inj e1,Option.some.inj e2]
      exact this
    refine SeqAt.EqAt.of_refs ne ?_
    have e3:us1.toArray.size=xs.length:=by simp [l1]
    have e4:us2.toArray.size=ys.length:=by simp [l2]
    rw [e3,e4] at key
    exact key
  | @lst n a b xs ys e ne ha hb h ih =>
    intro A u v r r' hu
    cases r
    cases r'
    obtain ⟨us1,r1,p1,_⟩:=I.list ha
    obtain ⟨us2,r2,p2,_⟩:=I.list hb
    have l1:=r1.length
    have l2:=r2.length
    have e3:us1.toArray.size=xs.length:=by simp [l1]
    have e4:us2.toArray.size=ys.length:=by simp [l2]
    refine SeqAt.EqAt.of_refs ne ?_
    unfold lstEq
    by_cases hl:xs.length=ys.length
    · have key:=SeqAt.RcAt.lists (A:=A) (s:=s) (e:=e) p1.isList p2.isList (by omega) (by omega) fun j j1 j2=>by
        have j1:j < us1.length:=by simpa using j1
        have j2:j < us2.length:=by simpa using j2
        have jx:j < xs.length:=by omega
        have jy:j < ys.length:=by omega
        obtain ⟨w1,e1,q1⟩:=r1.get (List.getElem?_eq_getElem jx)
        obtain ⟨w2,e2,q2⟩:=r2.get (List.getElem?_eq_getElem jy)
        rw [List.getElem?_eq_getElem j1] at e1
        rw [List.getElem?_eq_getElem j2] at e2
        have:=ih hl j _ _ (List.getElem?_eq_getElem jx) (List.getElem?_eq_getElem jy) (A:=A.in1) q1 q2 (by show A.units + 1 + n < cLine;omega)
        simp only [List.getElem_toArray]
        rw [Option.some.inj e1,Option.some.inj e2]
        exact this
      rw [e3] at key
      rw [decide_eq_true hl,Bool.true_and]
      exact key
    · have key:=SeqAt.RcAt.lists_lengths (A:=A) (s:=s) p1.isList p2.isList (by rw [e3,e4];simpa using hl) (by omega)
      rw [decide_eq_false hl,Bool.false_and]
      exact key
structure Items (K:PySem.W.Frag) (H:Hp) (n:Nat) (xs ys:List V) (e:Nat→Bool):Prop where
  h:∀ (j:Nat) u v,xs[j]? = some u→ys[j]? = some v→EqV K H n u v (e j)
theorem items_at {pins:List (Addr×Obj)} {σ:St} {H:Hp} {s:Shared} (I:Inv X pins σ H s) {n:Nat} {xs ys:List V} {us1 us2:List Value} {e:Nat→Bool} (h:Items X.K H n xs ys e) {A:Around} (hu:A.units + n + 1 < cLine) (r1:Vals xs us1) (r2:Vals ys us2) :
    ∀ j (h1:j < us1.toArray.size) (h2:j < us2.toArray.size),SeqAt.EqAt A.in1 s us1.toArray[j] us2.toArray[j] (e j):=fun j j1 j2=>by
  have l1:=r1.length
  have l2:=r2.length
  have j1:j < us1.length:=by simpa using j1
  have j2:j < us2.length:=by simpa using j2
  have jx:j < xs.length:=by omega
  have jy:j < ys.length:=by omega
  obtain ⟨w1,e1,q1⟩:=r1.get (List.getElem?_eq_getElem jx)
  obtain ⟨w2,e2,q2⟩:=r2.get (List.getElem?_eq_getElem jy)
  rw [List.getElem?_eq_getElem j1] at e1
  rw [List.getElem?_eq_getElem j2] at e2
  have:=eqv_at I (h.h j _ _ (List.getElem?_eq_getElem jx) (List.getElem?_eq_getElem jy)) (A:=A.in1) q1 q2 (by show A.units + 1 + n < cLine;omega)
  simp only [List.getElem_toArray]
  rw [Option.some.inj e1,Option.some.inj e2]
  exact this
theorem op_eqLs:OpR X (compareOp .Eq) (fun x y H Q=>∃ a b xs ys n e,x = .ref a∧y = .ref b∧SqL X.K H a xs∧SqL X.K H b ys∧(xs.length=ys.length→Items X.K H n xs ys e)∧X.A.units + n + 1 < cLine∧Q (.bl (lstEq xs ys e)) H):=by
  intro pins s σ H x y v u Q I rx ry h
  obtain ⟨a,b,xs,ys,n,e,rfl,rfl,ha,hb,he,hu,q⟩:=h
  cases rx
  cases ry
  obtain ⟨us1,r1,p1,_⟩:=I.list ha
  obtain ⟨us2,r2,p2,_⟩:=I.list hb
  have e3:us1.toArray.size=xs.length:=by simp [r1.length]
  have e4:us2.toArray.size=ys.length:=by simp [r2.length]
  unfold lstEq at q
  by_cases hl:xs.length=ys.length
  · have key:=SeqAt.RcAt.lists (A:=X.A) (s:=s) (e:=e) p1.isList p2.isList (by omega) (by omega) (items_at I (he hl) hu r1 r2)
    rw [e3] at key
    rw [decide_eq_true hl,Bool.true_and] at q
    exact key X.prog X.w _ _ ⟨.bl _,H,I,rfl,q⟩
  · have key:=SeqAt.RcAt.lists_lengths (A:=X.A) (s:=s) p1.isList p2.isList (by rw [e3,e4];simpa using hl) (by omega)
    rw [decide_eq_false hl,Bool.false_and] at q
    exact key X.prog X.w _ _ ⟨.bl false,H,I,rfl,q⟩
end
noncomputable def Sc (v:V):Prop:=(∃ i,v = .int i)∨(∃ x,v = .str x)∨(∃ b,v = .bl b)∨∃ a,v = .ref a
theorem eqv_self {K:PySem.W.Frag} {H:Hp} {n:Nat} {v:V} (h:Sc v):EqV K H n v v true:=by
  rcases h with ⟨i,rfl⟩ | ⟨x,rfl⟩ | ⟨b,rfl⟩ | ⟨a,rfl⟩
  · have:=EqV.int (K:=K) (H:=H) n i i;simpa using this
  · have:=EqV.str (K:=K) (H:=H) n x x;simpa using this
  · have:=EqV.bl (K:=K) (H:=H) n b b;simpa using this
  · exact EqV.same n a
theorem items_self {K:PySem.W.Frag} {H:Hp} {n:Nat} {xs:List V} (h:∀ v∈xs,Sc v):Items K H n xs xs (fun _=>true):=⟨fun j u v e1 e2=>by
  rw [e1] at e2
  cases e2
  exact eqv_self (h _ (List.mem_of_getElem? e1))⟩
theorem un_of {A:Around} {k n:Nat} (hr:Room k A) (h:n≤60):A.units + n + 1 < cLine:=by
  have:=hr.units
  omega
end L2
end
section
namespace L2
open PySem PySem.Spec PyProof.Rows Tim
noncomputable def tYes:TT:=fun _ H Q=>Q true H
noncomputable def PIfs (X:Cx) (ifs:List Expr) (tc:TT):Prop:=∀ (pins:List (Addr×Obj)) (s:Shared) (σ:St) (H:Hp) (Q:Bool→Hp→Prop),Inv X pins σ H s→tc σ H Q →
  wpAny (model X.prog X.w) X.A (forIn ifs true fun c r=>if r=true then do let ok ← isTrue c X.env (eval c X.env);pure (ForInStep.yield ok) else pure (ForInStep.yield r)) (TP X pins σ Q) X.xe s
theorem pifs_nil {X:Cx}:PIfs X [] tYes:=fun pins s σ H Q I h=>by
  rw [List.forIn_nil]
  exact wpAny_pure ⟨H,I,h⟩
theorem compLoopG {prog:Program} {w:World} {A:Around} {R:Result→Shared→Prop} {s:Shared} {elt target iter:Expr} {ifs:List Expr} {scope:Scope} {pos:Pos} {it acc:Value} {env:Env} (I:Nat→Shared→Prop)
    (turn:∀ n s,I n s→wpAny (model prog w) A (pyNext it) (fun r s₁=>match r with
      | none=>R (.ok .next) s₁
      | some v=>wpAny (model prog w) A (letOwnedTupleGo target it v) (fun _ s₁'=>wpAny (model prog w) A (assign target env v) (fun _ s₂ =>
          wpAny (model prog w) A (forIn ifs true fun c r=>if r=true then do let ok ← isTrue c env (eval c env);pure (ForInStep.yield ok) else pure (ForInStep.yield r)) (fun ok s₃ =>
            if ok=true then wpAny (model prog w) A (eval elt env) (fun x s₄ =>
              wpAny (model prog w) A (call (.builtin "list.append") [acc,x]) (fun _ s₅=>∃ m,m < n∧I m s₅) (notedBy (model prog w) A env fun e s'=>R (.error e) s') s₄) (notedBy (model prog w) A env fun e s'=>R (.error e) s') s₃
            else ∃ m,m < n∧I m s₃) (notedBy (model prog w) A env fun e s'=>R (.error e) s') s₂) (notedBy (model prog w) A env fun e s'=>R (.error e) s') s₁') (notedBy (model prog w) A env fun e s'=>R (.error e) s') s₁) (notedBy (model prog w) A env fun e s'=>R (.error e) s') s)
    (n:Nat) (h:I n s):codeAny (model prog w) A (.compLoop (.ListComp elt [⟨target,iter,ifs,0⟩] scope pos) 0 it acc env) R s:=by
  refine codeAny_loop rfl I (fun n s hI=>?_) n h
  show wpAny _ A ((compTurn (.ListComp elt [⟨target,iter,ifs,0⟩] scope pos) 0 it acc env).onRaise (fun x=>do noteFrame x env;theTreesLotGoes x)) _ _ s
  refine wpAny_noted ?_
  rw [compTurn_list]
  refine wpAny_bind (wpAny_standAt (wpAny_bind (wpAny_mono (turn n s hI) (fun r s₁ h₁=>?_) fun _ _ h'=>h')))
  cases r with
  | none=>exact wpAny_pure h₁
  | some v =>
    refine wpAny_bind (wpAny_mono h₁ (fun _ s₁' h₁=>?_) fun _ _ h'=>h')
    refine wpAny_bind (wpAny_mono h₁ (fun _ s₂ h₂=>wpAny_bind (wpAny_mono h₂ (fun ok s₃ h₃=>?_) fun _ _ h'=>h')) fun _ _ h'=>h')
    cases ok with
    | false=>exact wpAny_pure ⟨rfl,h₃⟩
    | true =>
      exact wpAny_bind (wpAny_bind (wpAny_mono h₃ (fun x s₄ h₄=>wpAny_bind (wpAny_mono h₄ (fun _ s₅ h₅=>wpAny_pure (wpAny_pure ⟨rfl,h₅⟩)) fun _ _ h'=>h')) fun _ _ h'=>h'))
noncomputable def tCompG (wi:TI) (g:TG) (tc:TT) (te:TE) (cap:St→St→Prop):TE:=fun σ H Q=>wi σ H fun J H1=>∃ σb:St,cap σ σb∧∀ D,H1 D=none→∃ W:Nat→Nat→St→Hp→Prop,(∃ m,W 0 m σb (upd H1 D (.lst []))) ∧
  ∀ i m σx H,W i m σx H→(J.stop i H∧Q (.ref D) H)∨(J.go i H∧∀ x H',J.yld i H x H'→g x σx H' fun σ2 H2=>tc σ2 H2 fun c H3=>if c=true then te σ2 H3 fun y H4=>∃ ys,H4 D=some (.lst ys)∧ys.length < sizeLine∧∃ m',m' < m∧W (i + 1) m' σ2 (upd H4 D (.lst (ys++[y])))
    else ∃ m',m' < m∧W (i + 1) m' σ2 H3)
section
variable {X:Cx} {elt iter tg:Expr} {ifs:List Expr} {pos:Pos} {scope:Scope} {N':List Str} {cl:List (Str×Addr)} {wi:TI} {g:TG} {te:TE} {tc:TT}
theorem comp_core {cpos:Pos} {use:Option (Value→Sem Unit)} {Qf:Value→Shared→Prop} {pins:List (Addr×Obj)} {s:Shared} {σ:St} {H:Hp} {Q:VK} (hc:X.calm=true) (O:CompOk X N' scope cl) (hi:PI X tg iter wi)
    (hg:∀ (C:Addr) (s₀:Shared) (H₀:Hp) (ex:List Addr) (pn:List (Addr×Obj)) (xe:Value→Shared→Prop),PG (compCx X N' scope cl C s₀ H₀ ex pn xe) tg g)
    (ht:∀ (C:Addr) (s₀:Shared) (H₀:Hp) (ex:List Addr) (pn:List (Addr×Obj)) (xe:Value→Shared→Prop),PIfs (compCx X N' scope cl C s₀ H₀ ex pn xe) ifs tc)
    (he:∀ (C:Addr) (s₀:Shared) (H₀:Hp) (ex:List Addr) (pn:List (Addr×Obj)) (xe:Value→Shared→Prop),PE (compCx X N' scope cl C s₀ H₀ ex pn xe) elt te)
    (hs:∀ x,foldedSetIterable iter X.env x=pure x)
    (hend:∀ (D C:Addr) (s4:Shared) (H3:Hp) (m:Str→Option Value),s4.heap.Ns C m→H3 C=none→X.s₀.heap.objs.size≤C→C≠X.env.locals→(∀ x c,X.env.cells.lookup x=some c→c≠C)→(∀ p∈X.pn++pins,p.1≠C)→(∀ h',Heap.SameBut C s4.heap h'→Inv X pins σ H3 { s4 with heap:=h' })→Q (.ref D) H3→compPost (model X.prog X.w) X.A X.xe use Qf (.ref D) C (.ok .next) s4)
    (I:Inv X pins σ H s) (h:tCompG wi g tc te (Capt X N' scope cl) σ H Q) :
    wpAny (model X.prog X.w) X.A (comprehension (.ListComp elt [⟨tg,iter,ifs,0⟩] scope pos) scope X.env cpos (newList []) false (eval iter X.env) use) Qf X.xe s:=by
  refine wpAny_comprehension_free (use:=use) rfl hs O.clos O.kind O.names (thn (hi pins s σ H _ I h) fun xv s1 h1=>thn h1 fun itv s2 h2=>?_)
  obtain ⟨it,fp,tn,J,H2,e,I2,T,st2,f2,σb,cap,q⟩:=h2
  subst e
  have hfp:∀ b∈fp,b < s2.heap.objs.size:=fun b hb=>by
    obtain ⟨o,ho,_⟩:=T.obj _ _ st2 b hb
    exact Heap.lt_size ho
  refine wpAny_newObj_type (wpAny_newFunctionEnv O.nocell (by intro y hy;simp at hy) (fun h₁ hns₁ hsb₁=>?_) O.kind)
  dsimp only at hns₁ hsb₁ ⊢
  generalize hH2:s2.heap.push { cls:=.type "list",dict:=none,data:=.seq ([]:List Value).toArray }=Hq at hns₁ hsb₁ ⊢
  have hCs:Hq.objs.size=s2.heap.objs.size + 1:=by rw [← hH2,Heap.size_push]
  have hDC:s2.heap.objs.size≠Hq.objs.size:=by omega
  have old:∀ b o,s2.heap.get? b=some o→h₁.get? b=some o:=fun b o e =>
    hsb₁.extBut b o (Nat.ne_of_lt (Nat.lt_trans (Heap.lt_size e) (by rw [hCs];exact Nat.lt_succ_self _))) (Heap.get?_push_of_some _ (hH2 ▸ Heap.get?_push_of_some _ e))
  have hDo:h₁.get? s2.heap.objs.size=some { cls:=.type "list",data:=.seq #[] }:=hsb₁.extBut _ _ hDC (Heap.get?_push_of_some _ (hH2 ▸ Heap.get?_push_size _ rfl))
  obtain ⟨W,⟨m0,w0⟩,turn⟩:=q s2.heap.objs.size (I2.hok.fresh (Nat.le_refl _))
  let R:Result→Shared→Prop:=compPost (model X.prog X.w) X.A X.xe use Qf (.ref s2.heap.objs.size) Hq.objs.size
  let xe:Value→Shared→Prop:=notedBy (model X.prog X.w) X.A (compEnvC scope cl Hq.objs.size X.env) fun e s'=>R (.error e) s'
  have I0:Inv (compCx X N' scope cl Hq.objs.size s2 H2 fp (X.pn++pins) xe) [] σb (upd H2 s2.heap.objs.size (.lst [])) { s2 with heap:=h₁,toks:=s2.toks + ([]:List (Str×Value)).length } :=
    comp_start I2 hc O cap f2 hfp (by omega) (Nat.le_refl _) hDC old hns₁ hDo
  have st0:tn 0 h₁:=T.keep _ _ _ st2 fun b hb o e=>old b o e
  have fr0:∀ b∈fp,upd H2 s2.heap.objs.size (.lst []) b=none:=fun b hb=>by
    rw [upd_ne (Nat.ne_of_lt (hfp b hb))];exact (f2 b hb).1
  have stat:∀ {H':Hp},(∀ b∈fp,H' b=none)→∀ b∈fp,FpOk (compCx X N' scope cl Hq.objs.size s2 H2 fp (X.pn++pins) xe) [] H' b:=fun hn b hb=>by
    obtain ⟨f0,f1,fb,f3,f4,f5⟩:=f2 b hb
    refine ⟨hn b hb,Nat.ne_of_lt (show b < Hq.objs.size from Nat.lt_trans (hfp b hb) (by rw [hCs];exact Nat.lt_succ_self _)),fun z=>?_,.inl hb,fun x c e=>f4 x c (O.sub x c e),fun p hp=>f5 p (by
      have hp:p∈(X.pn++pins)++[]:=hp
      simpa using hp)⟩
    rcases List.mem_cons.mp (I2.stkSub b z) with q | q
    · exact f1 q
    · exact fb q
  have hgg:=hg Hq.objs.size s2 H2 fp (X.pn++pins) xe
  have hb:=he Hq.objs.size s2 H2 fp (X.pn++pins) xe
  have htt:=ht Hq.objs.size s2 H2 fp (X.pn++pins) xe
  have loop:codeAny (model X.prog X.w) X.A (.compLoop (.ListComp elt [⟨tg,iter,ifs,0⟩] scope pos) 0 (.ref it) (.ref s2.heap.objs.size) (compEnvC scope cl Hq.objs.size X.env)) R
      { s2 with heap:=h₁,toks:=s2.toks + ([]:List (Str×Value)).length }:=by
    refine compLoopG (fun n s'=>∃ i σx H',Inv (compCx X N' scope cl Hq.objs.size s2 H2 fp (X.pn++pins) xe) [] σx H' s'∧tn i s'.heap∧(∀ b∈fp,H' b=none)∧W i n σx H') ?_ m0 ⟨0,σb,_,I0,st0,fr0,w0⟩
    rintro n s3 ⟨i,σx,H3,I3,st3,fr3,w3⟩
    rcases turn i n σx H3 w3 with ⟨stop,qn⟩ | ⟨go,step⟩
    · refine thn (T.done (compCx X N' scope cl Hq.objs.size s2 H2 fp (X.pn++pins) xe) rfl rfl rfl hc i [] s3 _ H3 xe I3 (stat fr3) st3 stop) fun r s4 ⟨hr,I4⟩=>?_
      subst hr
      obtain ⟨m,hn,_⟩:=I4.loc
      have hlt2:X.s₀.heap.objs.size≤Hq.objs.size:=by have:=I2.sz;omega
      refine hend s2.heap.objs.size Hq.objs.size s4 H3 m hn I4.free hlt2 ?_ ?_ ?_ (fun h' sb=>comp_end I2 f2 (by omega) I4 sb) qn
      · exact Nat.ne_of_gt (Nat.lt_of_lt_of_le I2.lt (by omega))
      · intro x c e z
        obtain ⟨v,o,ho,_⟩:=I2.cell x c e
        have:=Heap.lt_size ho
        rw [z,hCs] at this
        exact absurd this (Nat.not_lt.mpr (Nat.le_succ _))
      · intro p hp z
        have:=Heap.lt_size (I2.pin p hp).1
        rw [z,hCs] at this
        exact absurd this (Nat.not_lt.mpr (Nat.le_succ _))
    · refine thn (T.item (compCx X N' scope cl Hq.objs.size s2 H2 fp (X.pn++pins) xe) rfl rfl rfl hc i [] s3 _ H3 xe I3 (stat fr3) st3 go) fun r s4 hpq=>?_
      obtain ⟨u,hr,h4⟩:=hpq
      subst hr
      refine (thn h4 fun _ s5 hpq=>?_)
      obtain ⟨y,H5,I5,r5,y5,st5,fr5⟩:=hpq
      have I5':=I5.pinned (stat fr5) (T.obj _ _ st5)
      refine thn (hgg _ s5 _ H5 y u _ I5' r5 (step y H5 y5)) fun _ s6 hpq=>?_
      obtain ⟨σ6,H6,I6,q6⟩:=hpq
      refine thn (htt _ s6 _ H6 _ I6 q6) fun c s7 hpq=>?_
      obtain ⟨H7,I7,q7⟩:=hpq
      cases c with
      | false =>
        rw [if_neg Bool.false_ne_true] at q7 ⊢
        obtain ⟨m',hm,w7⟩:=q7
        refine ⟨m',hm,i + 1,σ6,_,I7.unpinned,T.keep _ _ _ st5 fun b hb o e=>(I7.pin (b,o) (List.mem_append_right _ (List.mem_append_right _ (mem_pinsAt hb e)))).1,fun b hb=>?_,w7⟩
        obtain ⟨o,e,d⟩:=T.obj _ _ st5 b hb
        exact (I7.pin (b,o) (List.mem_append_right _ (List.mem_append_right _ (mem_pinsAt hb e)))).2.1
      | true =>
        rw [if_pos rfl] at q7 ⊢
        refine thn (hb _ s7 _ H7 _ I7 q7) fun z s8 hpq=>?_
        obtain ⟨yv,H8,I8,r8,ys,eD,hz,m',hm,w8⟩:=hpq
        refine thn (mt_append _ s8 _ H8 (.ref s2.heap.objs.size) [yv] (.ref s2.heap.objs.size) [z] (fun _ H9=>H9=upd H8 s2.heap.objs.size (.lst (ys++[yv]))) I8 rfl (.cons r8 .nil) ⟨_,ys,yv,rfl,rfl,eD,hz,rfl⟩) fun _ s9 hpq=>?_
        obtain ⟨_,H9,I9,_,e9⟩:=hpq
        subst e9
        refine ⟨m',hm,i + 1,σ6,_,I9.unpinned,T.keep _ _ _ st5 fun b hb o e=>(I9.pin (b,o) (List.mem_append_right _ (List.mem_append_right _ (mem_pinsAt hb e)))).1,fun b hb=>?_,w8⟩
        obtain ⟨o,e,d⟩:=T.obj _ _ st5 b hb
        exact (I9.pin (b,o) (List.mem_append_right _ (List.mem_append_right _ (mem_pinsAt hb e)))).2.1
  exact codeAny_compStart_list loop (T.self X.A 0 _ _ _ st0 loop)
theorem pe_compG (hc:X.calm=true) (O:CompOk X N' scope cl) (hi:PI X tg iter wi)
    (hg:∀ (C:Addr) (s₀:Shared) (H₀:Hp) (ex:List Addr) (pn:List (Addr×Obj)) (xe:Value→Shared→Prop),PG (compCx X N' scope cl C s₀ H₀ ex pn xe) tg g)
    (ht:∀ (C:Addr) (s₀:Shared) (H₀:Hp) (ex:List Addr) (pn:List (Addr×Obj)) (xe:Value→Shared→Prop),PIfs (compCx X N' scope cl C s₀ H₀ ex pn xe) ifs tc)
    (he:∀ (C:Addr) (s₀:Shared) (H₀:Hp) (ex:List Addr) (pn:List (Addr×Obj)) (xe:Value→Shared→Prop),PE (compCx X N' scope cl C s₀ H₀ ex pn xe) elt te)
    (hs:∀ x,foldedSetIterable iter X.env x=pure x:=by intro _;rfl) :
    PE X (.ListComp elt [⟨tg,iter,ifs,0⟩] scope pos) (tCompG wi g tc te (Capt X N' scope cl)):=by
  intro pins s σ H Q I h
  rw [eval_ListComp]
  exact comp_core (use:=none) (Qf:=EP X pins σ Q) (Q:=Q) (pins:=pins) (σ:=σ) hc O hi hg ht he hs (fun D C s4 H3 m hn _ _ _ _ _ fin qn=>⟨m,hn,fun h' sb=>⟨.ref D,H3,fin h' sb,rfl,qn⟩⟩) I h
end
theorem comp_rngG {tc:TT} {te:TE} {QD:Hp→Prop} {H1:Hp} {D:Addr} {lo:Int} {n iw:Nat} {σb:St} (g:Nat→V) (p:Nat→Bool) (hz:n < sizeLine) (hD:H1 D=none)
    (ht:∀ (i:Nat) (Hx:Hp) (R:Bool→Hp→Prop),i < n→Same H1 Hx→(∀ Hy,Same Hx Hy→R (p i) Hy)→tc (σb.set iw (some (.int (lo + i)))) Hx R)
    (he:∀ (i:Nat) (Hx:Hp) (R:VK),i < n→p i=true→Same H1 Hx→(∀ Hy,Same Hx Hy→R (g i) Hy)→te (σb.set iw (some (.int (lo + i)))) Hx R)
    (q:∀ Hx,Same H1 Hx→Hx D=some (.lst (((List.range n).filter p).map g))→QD Hx) :
    ∃ W:Nat→Nat→St→Hp→Prop,(∃ m,W 0 m σb (upd H1 D (.lst [])))∧∀ i m σx H,W i m σx H→((Itr lo n).stop i H∧QD H)∨((Itr lo n).go i H∧∀ x H',(Itr lo n).yld i H x H'→gName iw x σx H' fun σ2 H2=>tc σ2 H2 fun c H3=>if c=true then te σ2 H3 fun y H4=>∃ ys,H4 D=some (.lst ys)∧ys.length < sizeLine∧∃ m',m' < m∧W (i + 1) m' σ2 (upd H4 D (.lst (ys++[y]))) else ∃ m',m' < m∧W (i + 1) m' σ2 H3):=by
  refine ⟨fun i m σx Hx=>(∀ y,σx.set iw y=σb.set iw y)∧m=n - i∧i≤n∧Same H1 Hx∧Hx D=some (.lst (((List.range i).filter p).map g)),⟨n,fun _=>rfl,rfl,Nat.zero_le _,upd_same2' hD,upd_same⟩,?_⟩
  rintro i m σx Hx ⟨eσ,rfl,hi,sx,xD⟩
  by_cases hlt:i < n
  · refine .inr ⟨hlt,fun x H' hy=>?_⟩
    obtain ⟨rfl,rfl⟩:=hy
    show tc (σx.set iw _) _ _
    rw [eσ]
    have eσ':∀ y,(σb.set iw (some (V.int (lo + i)))).set iw y=σb.set iw y:=fun y=>by rw [List.set_set]
    refine ht i _ _ hlt sx fun Hy sy=>?_
    by_cases hp:p i=true
    · rw [hp]
      refine iteT (he i _ _ hlt hp (fun b o e=>sy _ _ (sx _ _ e)) fun Hz sz=>⟨_,sz _ _ (sy _ _ xD),?_,n - (i + 1),by omega,eσ',rfl,hlt,?_,?_⟩)
      · have:=List.length_filter_le p (List.range i)
        simp at this ⊢;omega
      · intro b o e
        rw [upd_ne (ne_of_none e hD)];exact sz _ _ (sy _ _ (sx _ _ e))
      · rw [upd_same,List.range_succ,List.filter_append,List.map_append]
        simp [hp]
    · have hp:p i=false:=by simpa using hp
      rw [hp]
      refine iteF ⟨n - (i + 1),by omega,eσ',rfl,hlt,fun b o e=>sy _ _ (sx _ _ e),?_⟩
      rw [sy _ _ xD,List.range_succ,List.filter_append]
      simp [hp]
  · have e:i=n:=by omega
    subst e
    exact .inl ⟨Nat.le_refl _,q Hx sx xD⟩
theorem lk_mem {x:Str} {k:NameKind}:∀ {l:List (Str×NameKind)},l.lookup x=some k→(x,k)∈l
  | [],h=>by cases h
  | (y,j) :: r,h=>by
    rw [List.lookup_cons] at h
    split at h
    · rename_i e
      cases h
      rw [eq_of_beq e]
      exact List.mem_cons_self
    · exact List.mem_cons_of_mem _ (lk_mem h)
theorem lk_has {x:Str} {l:List (Str×NameKind)} {ys:List Str} (h:l.lookup x=some .cell∨l.lookup x=some .free) (e:(l.filter fun p=>p.2 == .cell || p.2 == .free).map (·.1)=ys):x∈ys:=by
  rw [← e]
  rcases h with h | h
  · exact List.mem_map.mpr ⟨_,List.mem_filter.mpr ⟨lk_mem h,rfl⟩,rfl⟩
  · exact List.mem_map.mpr ⟨_,List.mem_filter.mpr ⟨lk_mem h,rfl⟩,rfl⟩
end L2
end
section
namespace L2
open PySem PySem.Spec PyProof.Rows PySem.W PySem.Builtin PySem.Builtin.ObjectAttr PySem.Builtin.Getset_descriptor
noncomputable def bmVE:List Value:=[.type "ValueError",.type "Exception",.type "BaseException",.type "object"]
noncomputable def excKit (K:PySem.W.Frag) (C:Addr):Bool:=excIn K C bmVE "ValueError.__new__" && (clsIn K C).isSome && findIn K (.ref C) "__getattribute__" == some (some (.builtin "BaseException.__getattribute__")) && findIn K (.ref C) "__getattr__" == some none
  && findIn K (.ref C) "__class__" == some (some (.builtin "object.__class__")) && specialIn K (.builtin "object.__class__") "__get__" == some (some (.builtin "getset_descriptor.__get__")) && takesIn K (.builtin "object.__class__") == some true
  && mroIn K C (.type "object") == some true && mroIn K C (.type "BaseException") == some true && typeIn K (.ref C) == some (.type "type")
structure ExcF (K:PySem.W.Frag) (C:Addr):Prop where
  own:excIn K C bmVE "ValueError.__new__" = true
  cls:(clsIn K C).isSome=true
  ga:findIn K (.ref C) "__getattribute__" = some (some (.builtin "BaseException.__getattribute__"))
  gh:findIn K (.ref C) "__getattr__" = some none
  ca:findIn K (.ref C) "__class__" = some (some (.builtin "object.__class__"))
  sp:specialIn K (.builtin "object.__class__") "__get__" = some (some (.builtin "getset_descriptor.__get__"))
  tk:takesIn K (.builtin "object.__class__")=some true
  mo:mroIn K C (.type "object")=some true
  mb:mroIn K C (.type "BaseException")=some true
  ty:typeIn K (.ref C)=some (.type "type")
theorem excF_of {K:PySem.W.Frag} {C:Addr} (e:excKit K C=true):ExcF K C:=by
  unfold excKit at e
  simp only [Bool.and_eq_true,beq_iff_eq] at e
  obtain ⟨⟨⟨⟨⟨⟨⟨⟨⟨a,b⟩,c⟩,d⟩,f⟩,g⟩,h⟩,i⟩,j⟩,k⟩:=e
  exact ⟨a,b,c,d,f,g,h,i,j,k⟩
noncomputable def ExAt (e C:Addr) (h:Heap):Prop:=∃ oe vs,h.get? e=some oe∧oe.cls = .ref C∧oe.data = .fields vs
section
variable {K:PySem.W.Frag} {M:Model} {h:Heap} {x C:Addr}
theorem ExAt.type (I:ExAt x C h):Looks M h (typeOf (.ref x)) (.ref C):=by
  obtain ⟨oe,vs,h1,h2,_⟩:=I
  exact h2 ▸ (Looks.ld h1).andThen .now
theorem looks_findD {name:Str} {a g:Value} (X:K.In h) (ha:findIn K (.ref C) name=some (some a)) (hg:specialIn K a "__get__" = some (some g)) (ht:takesIn K a=some true):Looks M h (find (.ref x) (.ref C) name) (.bind g a) :=
  (looks_findIn (M:=M) X ha).andThen ((show Looks M h (getOf (some a)) (some g) from looks_specialIn X hg).andThen ((show Looks M h (dataDescriptor? (some a) (some g)) (some (g,a)) from (looks_takesIn (M:=M) X ht).andThen .now).andThen (Looks.tag .now)))
end
section
variable {prog:Program} {w:World} {A:Around} {E:Value→Shared→Prop} {s:Shared} {K:PySem.W.Frag} {x C:Addr}
theorem class_getE {tp:Value} {R:Result→Shared→Prop} (X:K.In s.heap) (I:ExAt x C s.heap) (hm:mroIn K C (.type "object")=some true)
    (h:R (.ok (.ret (.ref C))) s):codeAny (model prog w) A (.call (.builtin "getset_descriptor.__get__") ⟨[.builtin "object.__class__",.ref x,tp],[]⟩) R s:=by
  obtain ⟨hh,g,dr,t,os⟩:=s
  have L0:=I.type (M:=model prog w)
  have L1:=looks_mroIn (M:=model prog w) X hm
  refine codeAny_call_builtin KF.slot_gs.plain KF.entry_gs (KF.slot_gs.check _ _ _ _ _ _ _ _ KF.type_class (KF.args_gs _ _ _) ?_)
  unfold Builtin.«getset_descriptor.__get__» descrGet
  rw [dga_obj]
  refine wpAny_bind (wpAny_pure ?_)
  unfold descrGetter descrCheckInstance descrNameAndClass isInstance
  simp only [KF.owner_class]
  repeat lk
  refine ⟨Code.quiet_builtin _ (by decide +kernel),codeAny_builtin KF.entry_class ?_⟩
  unfold Builtin.«object.__class__» shownTypeOf
  repeat lk
  exact h
theorem check_gaE {M:Model} {nameV:Value} {Q:Unit→Shared→Prop} (X:K.In s.heap) (I:ExAt x C s.heap) (hm:mroIn K C (.type "BaseException")=some true) (hq:Q () s) :
    wpAny M A (checkBuiltinCall "BaseException.__getattribute__" ⟨[.ref x,nameV],[]⟩) Q E s:=by
  have hk:builtinKind "BaseException.__getattribute__" = some .slot:=by decide +kernel
  have hsplit:splitId "BaseException.__getattribute__" = some ("BaseException","__getattribute__"):=by decide +kernel
  have ha:=PySem.F.args_bexc_ga (.ref x) nameV
  have L0:=I.type (M:=M)
  have L1:=looks_mroIn (M:=M) X hm
  have LI:Looks M s.heap (isInstance (.ref x) (.type "BaseException")) true:=L0.andThen L1
  obtain ⟨hh,g,dr,t,os⟩:=s
  simp only [checkBuiltinCall,hk,hsplit]
  refine wpAny_bind (LI.at ?_)
  repeat (any_goals (first | assumption | wp_step))
theorem exc_class {Q:Option Value→Shared→Prop} (F:ExcF K C) (X:K.In s.heap) (I:ExAt x C s.heap) (h:Q (some (.ref C)) { s with toks:=s.toks + 1 }):wpAny (model prog w) A (getAttr? (.ref x) "__class__") Q E s:=by
  obtain ⟨hh,g,d,t,os⟩:=s
  have L0:=I.type (M:=model prog w)
  have L1:=looks_findIn (M:=model prog w) X F.ga
  have L2:=looks_findIn (M:=model prog w) X F.gh
  have L3:Looks (model prog w) hh (find (.ref x) (.ref C) "__class__") _:=looks_findD X F.ca F.sp F.tk
  unfold getAttr? getAttrBy? getAttrBy
  refine wpAny_bind (wpAny_mkText (wpAny_bind (wpAny_attempt (wpAny_holding (wpAny_bind (L0.at (wpAny_bind (L1.at ?_))))))))
  show wpAny _ _ (if (onTheHeap (Value.ref C) && Value.builtin "BaseException.__getattribute__" == Value.builtin "object.__getattribute__")=true then _ else _) _ _ _
  rw [if_neg (by
    have q:(Value.builtin "BaseException.__getattribute__" == Value.builtin "object.__getattribute__")=false:=by decide
    rw [q,Bool.and_false];exact Bool.false_ne_true)]
  unfold getAttrByItsOwn hookBefore
  rw [if_pos (by rfl)]
  refine wpAny_bind (L2.at ?_)
  refine wpAny_bind (wpAny_attempt (wpAny_holding ?_))
  unfold callGetattribute
  rw [if_neg (by decide)]
  unfold boundAndCalled
  refine wpAny_bind (wpAny_of_eq (PySem.F.excAttr_ValueError.ga.bind (.ref x)) ?_)
  refine wpAny_call (codeAny_call_builtin PySem.F.excAttr_ValueError.ga.plain PySem.F.entry_bexc_ga (check_gaE (s:=⟨hh,g,d,t + 1,os⟩) X I F.mb ?_))
  unfold Builtin.«object.__getattribute__»
  refine wpAny_bind (wpAny_pure ?_)
  dsimp only
  refine wpAny_bind (wpAny_pure ?_)
  refine wpAny_bind (L0.at ?_)
  refine wpAny_bind (L3.at ?_)
  dsimp only
  show wpAny _ _ (holding [Value.builtin "object.__class__"] (call (Value.builtin "getset_descriptor.__get__") [Value.builtin "object.__class__",Value.ref x,Value.ref C]) >>= ret) _ _ _
  refine wpAny_bind (wpAny_holding (wpAny_call (class_getE (s:=⟨hh,g,d,t + 1,os⟩) X I F.mo (wpAny_pure ?_))))
  exact handed_on rfl (wpAny_pure h)
theorem kitx_exc (F:ExcF K C):KitX K (.ref x) (.ref C) (ExAt x C) where
  ty:=fun _ _ _ I=>I.type
  it:=fun _ _ X _=>by
    have hcD:=F.cls
    unfold clsIn at hcD
    split at hcD
    · rename_i c' d' cd' sl' ho
      intro A' Q' E' s' k q
      unfold isType loadHead
      exact wpAny_bind (wpAny_loadPart (k _ _ (X _ _ ho)) (wpAny_pure q))
    · cases hcD
  ne:=fun h tp dd its n sl X htp=>by
    have hcD:=F.cls
    refine Bool.eq_false_iff.mpr fun q=>?_
    have e:C=tp:=Value.ref.inj (beq_iff_eq.mp q)
    subst e
    unfold clsIn at hcD
    split at hcD
    · rename_i c' d' cd' sl' ho
      have z:=(X _ _ ho).symm.trans htp
      cases z
    · cases hcD
  ca:=fun X I k=>exc_class F X I k
theorem isi_exc {c:Value} {b:Bool} {Q:Value→Shared→Prop} (F:ExcF K C) (X:K.In s.heap) (I:ExAt x C s.heap) (e:kitOne K (.ref C) c=some b) (h:∀ tk,Q (.bool b) { s with toks:=tk }) :
    wpAny (model prog w) A (call (.builtin "isinstance") [.ref x,c]) Q E s:=kia_one (kitx_exc F) X I e (fun z=>nomatch z) h
end
end L2
end
section
namespace L2
open PySem PySem.Spec PyProof.Rows
section
variable {X:Cx} {e e1 e2:Expr} {es:List Expr} {te:TE} {pos:Pos}
noncomputable def PJ (X:Cx) (es:List Expr) (t:Str→TE):Prop :=
  ∀ (pins:List (Addr×Obj)) (s:Shared) (σ:St) (H:Hp) (acc:Str) (Q:VK),Inv X pins σ H s→t acc σ H Q→wpAny (model X.prog X.w) X.A (joinParts acc (evalEach es X.env)) (EP X pins σ Q) X.xe s
noncomputable def jNil:Str→TE:=fun acc _ H Q=>acc.length≤sizeLine∧Q (.str acc) H
noncomputable def jCons (te:TE) (t:Str→TE):Str→TE:=fun acc σ H Q=>te σ H fun v H1=>∃ y,v = .str y∧(acc++y).length≤sizeLine∧t (acc++y) σ H1 Q
theorem pj_nil:PJ X [] jNil:=fun pins s σ H acc Q I h=>joinParts_nil ⟨.str acc,H,I.tok _,⟨_,rfl⟩,h.2⟩ h.1
theorem pj_cons {t:Str→TE} (he:PE X e te) (hr:PJ X es t) (hs:evalEach (e :: es) X.env=eval e X.env :: evalEach es X.env:=by rfl):PJ X (e :: es) (jCons te t):=by
  intro pins s σ H acc Q I h
  rw [hs]
  refine joinParts_cons (thn (he pins s σ H _ I h) fun v s1 hpq=>?_)
  obtain ⟨x,H1,I1,r1,y,e,z,q⟩:=hpq
  subst e
  obtain ⟨t,rfl⟩:=r1
  exact ⟨z,hr pins s1 σ H1 _ _ I1 q⟩
theorem pe_join {t:Str→TE} (h:PJ X (e1 :: e2 :: es) t):PE X (.JoinedStr (e1 :: e2 :: es) pos) (t Str.empty):=fun pins s σ H Q I hq=>JoinedStr_many (h pins s σ H _ Q I hq)
noncomputable def tFmt (te:TE):TE:=fun σ H Q=>te σ H fun v H1=>(∃ y,v = .str y∧y.length≤sizeLine∧Q (.str y) H1)∨∃ i:Int,v = .int i∧i.natAbs.log2 < 1920∧Q (.str (toString i)) H1
theorem pe_fmt (he:PE X e te):PE X (.FormattedValue e (-1) none pos) (tFmt te):=by
  intro pins s σ H Q I h
  refine wpAny_FormattedValue_plain (thn (he pins s σ H _ I h) fun v s1 hpq=>?_)
  obtain ⟨x,H1,I1,r1,q⟩:=hpq
  rcases q with ⟨y,rfl,z,q⟩ | ⟨i,rfl,z,q⟩
  · obtain ⟨t,rfl⟩:=r1
    exact formatField_str (fun t' tk=>⟨.str y,H1,I1.tok _,⟨_,rfl⟩,q⟩) z
  · obtain ⟨t,rfl⟩:=r1
    exact formatField_int_small z ⟨.str (toString i),H1,I1.tok _,⟨_,rfl⟩,q⟩
noncomputable def tRep (te:TE):TE:=fun σ H Q=>te σ H fun v H1=>∃ y,v = .str y∧y.length≤1000∧(∀ c∈y.cps.toList,c < 16 ^ 8)∧∀ z:Str,z.length≤10002→Q (.str z) H1
theorem pe_fmtR (he:PE X e te):PE X (.FormattedValue e 114 none pos) (tRep te):=by
  intro pins s σ H Q I h
  refine wpAny_FormattedValue_repr (thn (he pins s σ H _ I h) fun v s1 hpq=>?_)
  obtain ⟨x,H1,I1,r1,y,e,z,hc,q⟩:=hpq
  subst e
  obtain ⟨t,rfl⟩:=r1
  have hl:=PySem.StrLaws.reprText_len y hc
  have hz:=sizeLine_eq
  refine pyReprObj_str ?_ (by omega)
  exact formatField_str (fun t' tk=>⟨.str (reprText y),H1,I1.tok _,⟨_,rfl⟩,q _ (by omega)⟩) (by omega)
end
structure Fly (P:Program) (w:World) (outer:List Env) (H H':Hp) (s s':Shared) (a C:Addr):Prop where
  os:s'.os=s.os
  bare:AllBare s'.gens
  un:Un (frs outer) [] H H' s.heap s'.heap
  hok:HOk P w H' s'.heap
  no:H' a=none
  new:s.heap.get? a=none
  fl:∃ B a0,Heap.FlyingW B outer a (.ref C) a0 s'.heap∧∀ b o,s'.heap.get? b=some o→b ∉ frs outer→(H' b≠none∨s.heap.get? b≠none)→B.get? b=some o
noncomputable def CXE (P:Program) (w:World):CXT:=fun outer H s E e s'=>∃ a C H',e = .ref a∧Fly P w outer H H' s s' a C∧E (.ref C) none H'
theorem objThere {P:Program} {w:World} {H:Hp} {h:Heap} {a:Addr} {o:HO} (x:ObjOk P w H h a o):∃ u,h.get? a=some u:=by
  cases o with
  | lst xs=>obtain ⟨_,_,_,_,e⟩:=x;exact ⟨_,e⟩
  | tup xs=>obtain ⟨_,_,_,o,e,_⟩:=x;exact ⟨o,e⟩
  | dK kvs=>obtain ⟨_,_,_,_,o,_,_,e,_⟩:=x;exact ⟨o,e⟩
  | dT kvs=>obtain ⟨_,_,_,_,o,_,_,e,_⟩:=x;exact ⟨o,e⟩
  | set S n=>obtain ⟨o,_,_,_,e,_⟩:=x;exact ⟨o,e⟩
  | ins C dx fs=>obtain ⟨_,_,_,e,_⟩:=x;exact ⟨_,e⟩
  | own y=>exact x
  | xd fs=>obtain ⟨_,⟨o,_,_,e,_⟩,_⟩:=x;exact ⟨o,e⟩
  | rng lo hi=>obtain ⟨_,_,_,e⟩:=x;exact ⟨_,e⟩
  | frz ob u=>obtain ⟨e,_⟩:=x;exact ⟨_,e⟩
  | tbl ps=>exact ⟨_,(show h.get? a=some _ from x)⟩
  | met f y=>exact ⟨_,(show h.get? a=some _ from x)⟩
  | ext φ=>exact x.2.1
theorem hok_by {P:Program} {w:World} {H:Hp} {h h':Heap} (ok:HOk P w H h) (k:∀ b o,H b≠none→h.get? b=some o→h'.get? b=some o):HOk P w H h':=fun b u e =>
  (ok b u e).stay (fun c v hc q=>k c v (by
    rcases hc with z | z
    · rw [z,e];exact fun y=>nomatch y
    · rw [z];exact fun y=>nomatch y) q) (fun _ q=>q) fun _ _ q=>q
section
variable {X:Cx} {pins:List (Addr×Obj)} {σ:St} {H H':Hp} {s s':Shared}
theorem fly_on {h' B:Heap} {a C:Addr} {a0:Value} (I:Inv X pins σ H s) (I':Inv X pins σ H' s') (hex:X.ex=[]) (hst:X.stack=X.env :: X.outer) (hf:X.env.frame=some X.env.locals)
    (sm:s'.heap.UpToSlots h') (fl:Heap.FlyingW B X.outer a (.ref C) a0 h') (cov:∀ b o,s'.heap.get? b=some o→b ∉ frs X.stack→(H' b≠none∨s.heap.get? b≠none)→B.get? b=some o) (no:H' a=none) (new:s.heap.get? a=none) :
    Fly X.prog X.w X.outer X.H₀ H' X.s₀ { s' with heap:=h' } a C:=by
  have old:∀ b o,X.s₀.heap.get? b=some o→s.heap.get? b≠none:=fun b o e=>by
    obtain ⟨o',q⟩:=I.base.there b o e (by rw [hex];simp)
    rw [q];exact fun y=>nomatch y
  have noL:∀ b o,X.s₀.heap.get? b=some o→b≠X.env.locals:=fun b o e=>Nat.ne_of_lt (Nat.lt_of_lt_of_le (Heap.lt_size e) I.ok.above)
  have inS:∀ b,b∈frs X.stack↔b=X.env.locals∨b∈X.fs:=fun b=>by
    rw [hst]
    unfold frs
    rw [List.filterMap_cons,hf]
    exact List.mem_cons
  have kp:∀ b o,s'.heap.get? b=some o→b ∉ frs X.stack→(H' b≠none∨s.heap.get? b≠none)→h'.get? b=some o:=fun b o e nb q=>fl.1 _ _ (cov b o e nb q)
  have trk:∀ b,H' b≠none→b ∉ frs X.stack:=fun b hb z=>hb (I'.stkFree b z)
  refine ⟨I'.os,I'.bare,⟨fun b o e n hb hx=>?_,fun b o e n hb hx=>?_,fun b o e n hx=>?_,fun b o e hx=>?_,I'.base.tups,I'.base.frzs,I'.base.tbls⟩,hok_by I'.hok fun b o hb e=>kp b o e (trk b hb) (.inl hb),no,?_,B,a0,fl,fun b o e nb q=>?_⟩
  · have e1:=I'.base.keep b o e n hb (by rw [hex];simp)
    exact kp b o e1 (fun z=>((inS b).mp z).elim (noL b o e) hb) (.inr (old b o e))
  · obtain ⟨sl,e1⟩:=I'.base.slot b o e n hb (by rw [hex];simp)
    obtain ⟨_,o',e2,nf⟩:=I'.funs.mem hb
    rw [e1] at e2
    cases e2
    obtain ⟨sl',e3⟩:=sm b _ e1 nf
    exact ⟨sl',e3⟩
  · exact I'.base.free b o e n (by rw [hex];simp)
  · obtain ⟨o',e1⟩:=I'.base.there b o e (by rw [hex];simp)
    by_cases hb:b∈X.fs
    · obtain ⟨_,o2,e2,nf⟩:=I'.funs.mem hb
      obtain ⟨sl',e3⟩:=sm b _ e2 nf
      exact ⟨_,e3⟩
    · exact ⟨o',kp b o' e1 (fun z=>((inS b).mp z).elim (noL b o e) hb) (.inr (old b o e))⟩
  · cases z:X.s₀.heap.get? a with
    | none=>rfl
    | some o=>exact absurd new (old a o z)
  · rcases q with q | q
    · cases z:H' b with
      | none=>exact absurd z q
      | some u =>
        obtain ⟨o',e1⟩:=objThere (I'.hok b u z)
        have e2:=cov b o' e1 (trk b q) (.inl q)
        have e3:=fl.1 _ _ e2
        rw [e] at e3
        cases e3
        exact e2
    · cases z:X.s₀.heap.get? b with
      | none=>exact absurd z q
      | some o1 =>
        obtain ⟨o',e1⟩:=I'.base.there b o1 z (by rw [hex];simp)
        have ns:b ∉ frs X.stack:=fun y=>((inS b).mp y).elim (noL b o1 z) nb
        have e2:=cov b o' e1 ns (.inr (old b o1 z))
        have e3:=fl.1 _ _ e2
        rw [e] at e3
        cases e3
        exact e2
end
section
variable {P:Program} {w:World} {K:PySem.W.Frag} {mg:Str→Option Value} {base:Heap} {N:List Str} {qual:Str} {scope:Scope} {f:Addr} {cd:Value} {A:Around} {outer:List Env} {s₀:Shared} {H₀:Hp} {E:XK}
theorem passE:Passes (CXE P w) (cxOf (CXE P w) P w K mg base N qual scope f cd A outer s₀ H₀ E) E:=by
  intro pins σ H s e s' I h
  obtain ⟨a,C,H',rfl,F,q⟩:=h
  obtain ⟨B,a0,hf,cov⟩:=F.fl
  have I':=I.call' F.os F.un F.hok F.bare (fun b z=>absurd z (by simp))
  refine wpAny_leaves_onW (I.ok.frames) rfl hf fun h'' hf' sm=>?_
  exact ⟨a,C,H',rfl,fly_on I I' rfl rfl rfl sm hf' cov F.no F.new,q⟩
structure ExcAt (K:PySem.W.Frag) (mg:Str→Option Value) (x:Str) (C:Addr):Prop where
  m:mg x=some (.ref C)
  f:ExcF K C
  n:PySem.W.nsIn K mainGlobals x=some (some (.ref C))
theorem excAt_mk {h:Heap} {x:Str} {C:Addr} (X:K.In h) (G:h.Ns mainGlobals mg) (a:PySem.W.nsIn K mainGlobals x=some (some (.ref C))) (b:excKit K C=true):ExcAt K mg x C:=⟨PySem.W.mg_of X G a,excF_of b,a⟩
noncomputable abbrev ExcIs (K:PySem.W.Frag) (C:Addr) (v:Value) (b:Bool):Prop:=PySem.W.kitOne K (.ref C) v=some b
theorem ExcAt.own' {h:Heap} {x:Str} {C:Addr} (F:ExcAt K mg x C) (M:Mod K mg h):∃ bm N nm q bs hdct sn sub ab col dd k0 k1 k2 k3 k5 mN,h.get? C=some (excClassObj nm q C N bs bm hdct sn sub ab col dd k0 k1 k2 k3 k5 "ValueError.__new__")∧h.Ns N mN∧mN "__init__" = none∧OwnTail h bmVE bm:=by
  obtain ⟨mb,hb,hm⟩:=M.blt
  exact (PySem.W.own_of_in (p:=default) (loose:=h.nsKeys mainGlobals) M.kin ⟨M.glob,hb,M.nolimit,hm,fun y _ hy _ _ _=>by rw [M.glob.eq_nsMap];exact Heap.nsMap_none hy⟩ F.n F.f.own).obj
end
noncomputable def tRaise (C:Addr) (E:XK) (t:TA):TS:=fun _ σ H=>t σ H fun vs H1=>vs.length≤sizeLine∧E (.ref C) none H1
section
variable {P:Program} {w:World} {K:PySem.W.Frag} {mg:Str→Option Value} {base:Heap} {N:List Str} {qual:Str} {scope:Scope} {f C:Addr} {cd:Value} {A:Around} {outer:List Env} {s₀:Shared} {H₀:Hp} {E:XK} {x:Str} {np cpos pos:Pos} {e:Expr} {es:List Expr} {t:TA}
theorem ps_raise (hr:(A.deeper (envOfC qual scope s₀.heap.objs.size f cd)).handled=none) (O:ExcAt K mg x C) (hg:Gl (cxOf (CXE P w) P w K mg base N qual scope f cd A outer s₀ H₀ E) x) (ha:PA (cxOf (CXE P w) P w K mg base N qual scope f cd A outer s₀ H₀ E) (e :: es) t)
    (hdb:(x == ("__debug__":Str))=false:=by decide)
    (he:starEach (e :: es) (envOfC qual scope s₀.heap.objs.size f cd)=(false,eval e (envOfC qual scope s₀.heap.objs.size f cd)) :: starEach es (envOfC qual scope s₀.heap.objs.size f cd):=by rfl) (hpl:(backTo cpos (starEach es (envOfC qual scope s₀.heap.objs.size f cd))).any (·.1)=false:=by rfl) :
    PS (cxOf (CXE P w) P w K mg base N qual scope f cd A outer s₀ H₀ E) (.Raise (some (.Call (.Name x np) (e :: es) [] cpos)) none pos) (tRaise C E t):=by
  intro pins s σ H D I h
  obtain ⟨bm,N',nm,q,bs,hdct,sn,sub,ab,col,dd,k0,k1,k2,k3,k5,mN,hC,hN,hni,T⟩:=O.own' I.mod
  refine wpAny_Raise_call_subT (C:=C) (nm:=nm) (q:=q) (N:=N') (bs:=bs) (bm:=bm) (hdct:=hdct) (sn:=sn) (sub:=sub) (ab:=ab) (col:=col) (dd:=dd) (k0:=k0) (k1:=k1) (k2:=k2) (k3:=k3) (k5:=k5)
    PySem.F.excBase_ValueError (mN:=mN) (T.hasType PySem.F.excBase_ValueError.hasBase) hr (by show (backTo cpos (starEach (e :: es) (envOfC qual scope s₀.heap.objs.size f cd))).any (·.1)=false;rw [he];show (false || (backTo cpos (starEach es (envOfC qual scope s₀.heap.objs.size f cd))).any (·.1))=false;rw [hpl];rfl) hni (ld_glob I hg O.m ⟨rfl,?_⟩ hdb)
  have hs:=ha cpos pins s σ H _ I h
  have hs:wpAny (model P w) (A.deeper (envOfC qual scope s₀.heap.objs.size f cd)) (spliced (backTo cpos (starEach (e :: es) (envOfC qual scope s₀.heap.objs.size f cd)))) _ _ s:=hs
  show wpAny (model P w) (A.deeper (envOfC qual scope s₀.heap.objs.size f cd)) (evalArgs _ true (backTo cpos (starEach (e :: es) (envOfC qual scope s₀.heap.objs.size f cd))) []) _ _ s
  rw [he] at hs ⊢
  refine Calls.evalArgs_plain (wpAny_mono hs (fun vs s2 h2=>?_) fun _ _ y=>y)
  obtain ⟨xs,H2,I2,r2,hl,hE⟩:=h2
  refine ⟨rfl,by show vs.length≤_;rw [← r2.length];exact hl,I2.bk _ _ hC,hN.keeps I2.bk,T.keeps I2.bk,fun h' a hm=>?_⟩
  have hstk:frs (envOfC qual scope s₀.heap.objs.size f cd :: outer)=s₀.heap.objs.size :: frs outer:=rfl
  have hfun:=I2.stack
  have hin:∀ env∈(envOfC qual scope s₀.heap.objs.size f cd :: outer),∀ b,env.frame=some b→b∈frs (envOfC qual scope s₀.heap.objs.size f cd :: outer):=fun env he b hb=>List.mem_filterMap.mpr ⟨env,he,hb⟩
  have hfun':s2.heap.FunFrames (PySem.W.hideAll s2.heap (frs (envOfC qual scope s₀.heap.objs.size f cd :: outer))) (envOfC qual scope s₀.heap.objs.size f cd :: outer):=PySem.W.funFrames_hide hfun hin
  refine wpAny_leaves_madeW (h:=s2.heap) (I2.ok.frames) rfl (fun b o q=>PySem.W.of_hideAll _ q) hfun' hm fun h'' t fl _ _ sm=>?_
  have I3:Inv (cxOf (CXE P w) P w K mg base N qual scope f cd A outer s₀ H₀ E) pins σ H2 { s2 with heap:=h' }:=I2.kept (t':=s2.toks) hm.keeps
  have na:H2 a=none:=by
    cases z:H2 a with
    | none=>rfl
    | some u =>
      obtain ⟨o,e⟩:=objThere (I2.hok a u z)
      rw [hm.new] at e;cases e
  refine ⟨a,C,H2,rfl,fly_on I2 I3 rfl rfl rfl sm fl (fun b o e nb q=>?_) na hm.new,hE⟩
  obtain ⟨o',e1⟩:∃ o',s2.heap.get? b=some o':=by
    rcases q with q | q
    · cases z:H2 b with
      | none=>exact absurd z q
      | some u=>exact objThere (I2.hok b u z)
    · cases z:s2.heap.get? b with
      | none=>exact absurd z q
      | some o'=>exact ⟨o',rfl⟩
  have e2:=hm.keeps _ _ e1
  have e:h'.get? b=some o:=e
  rw [e2] at e
  cases e
  exact PySem.W.hideAll_get _ e1 nb
end
end L2
end
section
namespace L2
open PySem PySem.Spec PyProof.Rows
theorem fly_move {P:Program} {w:World} {outer:List Env} {H H':Hp} {s s':Shared} {a C:Addr} {B h6:Heap} {a0 a1:Value} (F:Fly P w outer H H' s s' a C)
    (fl:Heap.FlyingW B outer a (.ref C) a0 s'.heap) (cov:∀ b o,s'.heap.get? b=some o→b ∉ frs outer→(H' b≠none∨s.heap.get? b≠none)→B.get? b=some o)
    (fl6:Heap.FlyingW B outer a (.ref C) a1 h6) (sm:s'.heap.UpToSlots h6) (trk:∀ b∈frs outer,H' b=none):Fly P w outer H H' s { s' with heap:=h6 } a C:=by
  have kp:∀ b o,s'.heap.get? b=some o→b ∉ frs outer→(H' b≠none∨s.heap.get? b≠none)→h6.get? b=some o:=fun b o e nb q=>fl6.1 _ _ (cov b o e nb q)
  have ne:∀ {b:Addr} {o:Obj},s.heap.get? b=some o→s.heap.get? b≠none:=fun e=>by rw [e];exact fun y=>nomatch y
  refine ⟨F.os,F.bare,⟨fun b o e n hb hx=>?_,fun b o e n hb hx=>?_,fun b o e n hx=>F.un.free b o e n hx,fun b o e hx=>?_,F.un.tups,F.un.frzs,F.un.tbls⟩,hok_by F.hok fun b o hb e=>kp b o e (fun z=>hb (trk b z)) (.inl hb),F.no,F.new,B,a1,fl6,fun b o e nb q=>?_⟩
  · exact kp b o (F.un.keep b o e n hb hx) hb (.inr (ne e))
  · obtain ⟨sl,e1⟩:=F.un.slot b o e n hb hx
    obtain ⟨_,o',e2,nf⟩:=fl.2.2.1.mem hb
    rw [e1] at e2
    cases e2
    obtain ⟨sl',e3⟩:=sm b _ e1 nf
    exact ⟨sl',e3⟩
  · obtain ⟨o',e1⟩:=F.un.there b o e hx
    by_cases hb:b∈frs outer
    · obtain ⟨_,o2,e2,nf⟩:=fl.2.2.1.mem hb
      obtain ⟨sl',e3⟩:=sm b _ e2 nf
      exact ⟨_,e3⟩
    · exact ⟨o',kp b o' e1 hb (.inr (ne e))⟩
  · obtain ⟨o',e1⟩:∃ o',s'.heap.get? b=some o':=by
      rcases q with q | q
      · cases z:H' b with
        | none=>exact absurd z q
        | some u=>exact objThere (F.hok b u z)
      · cases z:s.heap.get? b with
        | none=>exact absurd z q
        | some o1=>exact F.un.there b o1 z (by simp)
    have e2:=cov b o' e1 nb q
    have e3:=fl6.1 _ _ e2
    have e:h6.get? b=some o:=e
    rw [e] at e3
    cases e3
    exact e2
noncomputable abbrev Cx.with2 (X:Cx) (pn:List (Addr×Obj)) (xe:Value→Shared→Prop):Cx:={ X with pn:=pn,xe:=xe }
noncomputable abbrev Cx.suite (X:Cx) (pn:List (Addr×Obj)) (a:Addr):Cx:={ X with A:=X.A.mark (some (.ref a)),calm:=false,pn:=pn,xe:=fun _ _=>False }
theorem Cx.Ok.with2 {X:Cx} (ok:X.Ok) (pn:List (Addr×Obj)) (xe:Value→Shared→Prop):(X.with2 pn xe).Ok :=
  ⟨ok.mod,ok.kind,ok.glob,ok.blt,ok.above,ok.inj,ok.has,ok.cab,ok.hd,ok.frames,ok.stk,ok.exf,ok.bs,ok.bsz,ok.noex,ok.exfs,ok.funs,ok.frf⟩
theorem Cx.Ok.suite {X:Cx} (ok:X.Ok) (pn:List (Addr×Obj)) (a:Addr):(X.suite pn a).Ok :=
  ⟨ok.mod,ok.kind,ok.glob,ok.blt,ok.above,ok.inj,ok.has,ok.cab,fun z=>(Bool.false_ne_true z).elim,ok.frames,ok.stk,ok.exf,ok.bs,ok.bsz,ok.noex,ok.exfs,ok.funs,ok.frf⟩
section
variable {X:Cx} {pins pn:List (Addr×Obj)} {σ:St} {H:Hp} {s:Shared} {xe:Value→Shared→Prop}
theorem Inv.with2 (I:Inv X pins σ H s) (xe:Value→Shared→Prop):Inv (X.with2 (X.pn++pins) xe) [] σ H s :=
  ⟨I.ok.with2 _ _,I.os,I.bare,I.base,I.loc,I.cell,I.free,I.freeC,fun p hp=>I.pin p (by simpa using hp),I.hok,I.len⟩
theorem Inv.unwith2 {pins':List (Addr×Obj)} (ok:X.Ok) (I:Inv (X.with2 (X.pn++pins) xe) pins' σ H s):Inv X pins σ H s :=
  ⟨ok,I.os,I.bare,I.base,I.loc,I.cell,I.free,I.freeC,fun p hp=>I.pin p (List.mem_append_left _ hp),I.hok,I.len⟩
theorem Inv.suite (I:Inv X pins σ H s) (a:Addr) (oe:Obj) (h1:s.heap.get? a=some oe) (h2:H a=none) (h3:a≠X.env.locals) (h4:a ∉ X.fs) (h5:∀ v,oe.data≠.cell v):Inv (X.suite ((a,oe) :: (X.pn++pins)) a) [] σ H s :=
  ⟨I.ok.suite _ _,I.os,I.bare,I.base,I.loc,I.cell,I.free,I.freeC,fun p hp=>by
    have hp:p∈(a,oe) :: (X.pn++pins):=by simpa using hp
    rcases List.mem_cons.mp hp with rfl | hp
    · exact ⟨h1,h2,h3,h4,h5⟩
    · exact I.pin p hp,I.hok,I.len⟩
theorem Inv.unsuite {a:Addr} {oe:Obj} (ok:X.Ok) (I:Inv (X.suite ((a,oe) :: (X.pn++pins)) a) [] σ H s):Inv X pins σ H s :=
  ⟨ok,I.os,I.bare,I.base,I.loc,I.cell,I.free,I.freeC,fun p hp=>I.pin p (by simpa using Or.inr (by simpa using hp)),I.hok,I.len⟩
theorem goes_ok {M:Model} {A:Around} {E:Value→Shared→Prop} {i:Nat} {n:Str} {pos:Pos} {Q:Unit→Shared→Prop} (I:Inv X pins σ H s) (hN:X.N.Nodup) (hi:X.N[i]? = some n) (hk:X.env.scope.names.lookup n=some .local)
    (h:∀ s',Inv X pins (σ.set i none) H s'→Q () s'):wpAny M A (do bindName X.env n .none;unbindBehindTheSuite X.env n pos) Q E s:=by
  obtain ⟨m,hn,hl⟩:=id I.loc
  have hcls:(X.env.scope.kind == .class || (X.env.scope.kind == .module && X.env.locals != X.env.globals))=false:=by rw [I.ok.kind];rfl
  refine wpAny_nameGoes_keeps hk hn hcls fun h' v hn' hs=>?_
  obtain ⟨oL,_,_,hoL,_⟩:=id hn
  have cne:=I.cne
  have tracked:HOk X.prog X.w H h':=fun b ob e=>by
    refine (I.hok b ob e).stay (fun c w' hc q=>(hs.2 c ?_).trans q) (fun _ q=>q) fun _ _ q=>q
    rintro rfl
    rcases hc with rfl | hc
    · rw [I.free] at e;cases e
    · rw [I.free] at hc;cases hc
  refine h _ ⟨I.ok,I.os,I.bare,⟨fun b o e n hb hx=>?_,fun b o e n hb hx=>?_,I.base.free,fun b o e hx=>?_,I.base.tups,I.base.frzs,I.base.tbls⟩,⟨_,hn',fun j y v' e1 e2 e3=>?_⟩,fun y c e=>?_,I.free,I.freeC,fun p hp=>?_,tracked,by simpa using I.len⟩
  · exact (hs.2 b (Nat.ne_of_lt (Nat.lt_of_lt_of_le (Heap.lt_size e) I.ok.above))).trans (I.base.keep b o e n hb hx)
  · obtain ⟨sl,e1⟩:=I.base.slot b o e n hb hx
    exact ⟨sl,(hs.2 b (Nat.ne_of_lt (Nat.lt_of_lt_of_le (Heap.lt_size e) I.ok.above))).trans e1⟩
  · obtain ⟨o',e1⟩:=I.base.there b o e hx
    exact ⟨o',(hs.2 b (Nat.ne_of_lt (Nat.lt_of_lt_of_le (Heap.lt_size e) I.ok.above))).trans e1⟩
  · by_cases hj:j=i
    · subst hj
      rw [List.getElem?_set] at e2
      simp at e2
    · rw [List.getElem?_set_ne (Ne.symm hj)] at e2
      obtain ⟨u',r',q⟩:=hl j y v' e1 e2 e3
      refine ⟨u',r',?_⟩
      rcases q with ⟨k,e⟩ | ⟨k,c,e,z⟩
      · refine .inl ⟨k,?_⟩
        have:y≠n:=fun e=>hj (nodup_ix hN e1 (e ▸ hi))
        simp [this,e]
      · exact .inr ⟨k,c,e,z.sameBut hs (cne y c e)⟩
  · obtain ⟨w',z⟩:=I.cell y c e
    exact ⟨w',z.sameBut hs (cne y c e)⟩
  · obtain ⟨e,n,ne,nf,d⟩:=I.pin p hp
    exact ⟨(hs.2 p.1 ne).trans e,n,ne,nf,d⟩
end
theorem match_ok {M:Model} {A:Around} {E:Value→Shared→Prop} {K:PySem.W.Frag} {s:Shared} {e C Tw:Addr} {Q:Bool→Shared→Prop} (X:K.In s.heap) (I:ExAt e C s.heap) (F:ExcF K Tw) (hm:PySem.W.mroIn K C (.ref Tw)=some true) (h:Q true s) :
    wpAny M A (excMatches (.ref e) (.ref Tw)) Q E s:=by
  have L0:=I.type (M:=M)
  have L1:=PySem.W.looks_mroIn (M:=M) X hm
  have L2:=PySem.W.looks_mroIn (M:=M) X F.mb
  have L3:=PySem.W.looks_typeIn (M:=M) X F.ty
  have L4:PySem.W.Looks M s.heap (isInstance (.ref Tw) (.type "tuple")) false:=L3.andThen (PySem.W.Looks.of_pure tc_notTuple)
  have L5:=(kitx_exc (x:=e) F).it M s.heap X
  have L6:PySem.W.Looks M s.heap (isType (.ref Tw)) true:=by
    have hcD:=F.cls
    unfold PySem.W.clsIn at hcD
    split at hcD
    · rename_i c' d' cd' sl' ho
      intro A' Q' E' s' k q
      unfold isType loadHead
      exact wpAny_bind (wpAny_loadPart (k _ _ (X _ _ ho)) (wpAny_pure q))
    · cases hcD
  obtain ⟨hh,g,d,t,os⟩:=s
  unfold excMatches
  refine wpAny_bind (L4.at ?_)
  simp only [Bool.false_eq_true,if_false]
  refine wpAny_bind (wpAny_pure ?_)
  simp only [List.forIn_cons,List.forIn_nil]
  unfold isExcClass
  refine wpAny_bind (wpAny_bind (wpAny_bind (wpAny_bind (L6.at ?_))))
  simp only [if_true]
  refine L2.at ?_
  simp only [Bool.not_true,Bool.false_eq_true,if_false]
  refine wpAny_pure (wpAny_pure ?_)
  refine wpAny_bind (L0.at ?_)
  refine wpAny_bind (wpAny_bind (wpAny_bind (L1.at ?_)))
  simp only [if_true]
  exact wpAny_pure (wpAny_pure (wpAny_pure h))
noncomputable def tCallS (sp:Sp) (E:St→XK) (t:TA):TE:=fun σ H Q=>t σ H fun vs H1=>sp vs H1 Q (E σ)
noncomputable def PassS (CX:CXT) (X:Cx) (E:St→XK):Prop:=∀ (pins:List (Addr×Obj)) (σ:St) (H:Hp) (s:Shared) (e:Value) (s':Shared),Inv X pins σ H s→CX X.stack H s (E σ) e s'→X.xe e s'
section
variable {X:Cx} {CX:CXT} {k:Nat} {f:Addr} {fd:FuncData} {ps:List Str} {sp:Sp} {E:St→XK} {x:Str} {p pos:Pos} {e:Expr} {es:List Expr} {t:TA}
theorem pe_callS (F:FnOk X.prog X.w X.K X.mg X.base CX k f fd ps sp) (hr:Room k X.A) (hg:Gl X x) (hm:X.mg x=some (.ref f)) (hk:PySem.W.keepIn X.K (.ref f)=true) (hb:Binds X.K fd ps []) (hx:PassS CX X E)
    (ha:PA X (e :: es) t) (hdb:(x == ("__debug__":Str))=false:=by decide) (he:starEach (e :: es) X.env=(false,eval e X.env) :: starEach es X.env:=by rfl) (hpl:(backTo pos (starEach es X.env)).any (·.1)=false:=by rfl) :
    PE X (.Call (.Name x p) (e :: es) [] pos) (tCallS sp E t):=by
  intro pins s σ H Q I h
  refine wpAny_Call_Name_kw (ld_glob I hg hm ?_ hdb)
  refine PySem.W.callWith_K (h₀:=X.base) I.ok.mod.kin hk (thn (ha pos pins s σ H _ I h) fun us s1 ⟨vs,H1,I1,r,q⟩=>⟨I1.kIn,?_⟩) he hpl
  have hl:us.length=ps.length:=by rw [← r.length];exact F.len _ _ _ _ q
  have bb:=hb s1 us I1.kIn (by rw [List.append_nil];exact hl)
  rw [List.append_nil] at bb
  refine wpAny_call (codeAny_mono (F.run X.A X.stack s1 H1 ⟨us,[]⟩ us vs Q (E σ) hr I1.env0 bb r q) fun r s' hq=>?_)
  cases r with
  | error e=>exact hx pins σ H1 s1 e s' I1 hq
  | ok fl =>
    cases fl with
    | ret u=>exact I1.after hq
    | next=>exact False.elim hq
    | brk=>exact False.elim hq
    | cont=>exact False.elim hq
end
noncomputable def tTry (K:PySem.W.Frag) (i:Nat) (Tw:Addr) (tb:(St→XK)→TS) (ts:Addr→Addr→TS):TS:=fun D σ H =>
  tb (fun σ' cls _ H'=>∃ C,cls = .ref C∧ExcF K C∧PySem.W.mroIn K C (.ref Tw)=some true∧∀ a,H' a=none→ts a C { nx:=fun σ2 H2=>D.nx (σ2.set i none) H2,rt:=D.rt,bk:=fun σ2 H2=>D.bk (σ2.set i none) H2,ct:=fun σ2 H2=>D.ct (σ2.set i none) H2 } (σ'.set i (some (.ref a))) H') D σ H
theorem ps_try {X:Cx} {i:Nat} {n x:Str} {Tw:Addr} {tb:(St→XK)→TS} {ts:Addr→Addr→TS} {body:List Stmt} {b₀:Stmt} {suite:List Stmt} {np hpos pos:Pos}
    (hst:X.stack=X.env :: X.outer) (hf:X.env.frame=some X.env.locals) (hN:X.N.Nodup) (hi:X.N[i]? = some n) (hk:X.env.scope.names.lookup n=some .local) (hg:Gl X x) (hm:X.mg x=some (.ref Tw)) (hT:ExcF X.K Tw)
    (hb:∀ pn xe Eσ,PassS (CXE X.prog X.w) (X.with2 pn xe) Eσ→PSs (X.with2 pn xe) body (tb Eσ))
    (hs:∀ pn a C oe vs,(a,oe)∈pn→oe.cls = .ref C→oe.data = .fields vs→PSs (X.suite pn a) (b₀ :: suite) (ts a C)) (hdb:(x == ("__debug__":Str))=false:=by decide) :
    PS X (.Try body [.ExceptHandler (some (.Name x np)) (some n) (b₀ :: suite) hpos] [] [] pos) (tTry X.K i Tw tb ts):=by
  intro pins s σ H D I h
  have ok:=I.ok
  let Eσ:St→XK:=fun σ' cls _ H'=>∃ C,cls = .ref C∧ExcF X.K C∧PySem.W.mroIn X.K C (.ref Tw)=some true∧∀ a,H' a=none→ts a C { nx:=fun σ2 H2=>D.nx (σ2.set i none) H2,rt:=D.rt,bk:=fun σ2 H2=>D.bk (σ2.set i none) H2,ct:=fun σ2 H2=>D.ct (σ2.set i none) H2 } (σ'.set i (some (.ref a))) H'
  let xe1:Value→Shared→Prop:=fun e s'=>∃ a C Hc H' σ' sc,e = .ref a∧Inv X pins σ' Hc sc∧Fly X.prog X.w X.stack Hc H' sc s' a C∧Eσ σ' (.ref C) none H'
  have hp:PassS (CXE X.prog X.w) (X.with2 (X.pn++pins) xe1) Eσ:=by
    intro pins' σ' H' s' e s'' I1 h1
    obtain ⟨a,C,H'',rfl,F,q⟩:=h1
    exact ⟨a,C,H',H'',σ',s',rfl,I1.unwith2 ok,F,q⟩
  have hbody:=hb (X.pn++pins) xe1 Eσ hp [] s σ H D (I.with2 xe1) h
  refine wpAny_Try_except (wpAny_mono hbody (fun f s1 q=>?_) fun e s1 q=>?_)
  · cases f with
    | next=>obtain ⟨σ',H',I',q⟩:=q;exact wpAny_execs_nil ⟨σ',H',I'.unwith2 ok,q⟩
    | brk=>obtain ⟨σ',H',I',q⟩:=q;exact ⟨σ',H',I'.unwith2 ok,q⟩
    | cont=>obtain ⟨σ',H',I',q⟩:=q;exact ⟨σ',H',I'.unwith2 ok,q⟩
    | ret u=>obtain ⟨v,σ',H',I',r,q⟩:=q;exact ⟨v,σ',H',I'.unwith2 ok,r,q⟩
  obtain ⟨a,C,Hc,H',σ',sc,rfl,Ic,F,C',eC,FC,mC,q⟩:=q
  cases eC
  obtain ⟨B,a0,fl,cov⟩:=F.fl
  have I1:Inv X pins σ' H' s1:=Ic.call' F.os F.un F.hok F.bare (fun b z=>absurd z (by simp))
  have hfr:X.A.frames=some (X.env :: X.outer):=hst ▸ ok.frames
  rw [hst] at fl
  refine wpAny_looks_onW hfr hf fl fun h4 hh4 sm4=>?_
  refine wpAny_landsW hh4 fun h5 fl5 sm5=>?_
  have F5:Fly X.prog X.w X.stack Hc H' sc { s1 with heap:=h5 } a C:=by
    rw [hst]
    refine fly_move (hst ▸ F) fl (hst ▸ cov) fl5 (sm4.trans sm5) fun b hb=>I1.stkFree b (hst ▸ hb)
  have I5:Inv X pins σ' H' { s1 with heap:=h5 }:=Ic.call' F5.os F5.un F5.hok F5.bare (fun b z=>absurd z (by simp))
  obtain ⟨oe5,ve5,he5,hc5,hd5,_⟩:=fl5.first
  have na:a≠X.env.locals:=fun z=>by
    obtain ⟨m,⟨o,_,_,ho,_⟩,_⟩:=Ic.loc
    have:=F.new
    rw [z,ho] at this;cases this
  have nf:a ∉ X.fs:=fun z=>by
    obtain ⟨_,o,ho,_⟩:=Ic.funs.mem z
    have:=F.new
    rw [ho] at this;cases this
  have J5:=I5.suite a oe5 he5 F.no na nf (fun v z=>by rw [hd5] at z;cases z)
  refine wpAny_handleBy_cons (codeAny_handlers_test (ld_glob (X:=X.suite ((a,oe5) :: (X.pn++pins)) a) J5 hg hm (match_ok (K:=X.K) J5.kIn ⟨oe5,ve5,he5,hc5,hd5⟩ hT mC ?_) hdb)) (by intro q;cases q)
  refine codeAny_handlers_suite_as ?_
  refine lands_againW fl5 fun h6 fl6 sm6=>?_
  obtain ⟨B5,a5,fl5',cov5⟩:=F5.fl
  have F6:Fly X.prog X.w X.stack Hc H' sc { s1 with heap:=h6 } a C:=by
    rw [hst]
    exact fly_move (hst ▸ F) fl (hst ▸ cov) fl6 ((sm4.trans sm5).trans sm6) fun b hb=>I1.stkFree b (hst ▸ hb)
  have I6:Inv X pins σ' H' { s1 with heap:=h6 }:=Ic.call' F6.os F6.un F6.hok F6.bare (fun b z=>absurd z (by simp))
  obtain ⟨oe,ve,he,hc,hd,_⟩:=fl6.first
  have J6:=I6.suite a oe he F.no na nf (fun v z=>by rw [hd] at z;cases z)
  refine store_ok (X:=X.suite ((a,oe) :: (X.pn++pins)) a) (v:=.ref a) J6 hN hi (Or.inl hk) rfl (fun s7 J7=>?_) (Or.inr hk)
  have run:=hs ((a,oe) :: (X.pn++pins)) a C oe ve (List.mem_cons_self) hc hd [] s7 _ H' _ J7 (q a F.no)
  refine wpAny_mono run (fun f s8 q8=>?_) fun _ _ z=>False.elim z
  cases f with
  | next =>
    obtain ⟨σ8,H8,J8,q8⟩:=q8
    exact goes_ok (J8.unsuite ok) hN hi hk fun s9 I9=>⟨_,H8,I9,q8⟩
  | brk =>
    obtain ⟨σ8,H8,J8,q8⟩:=q8
    exact goes_ok (J8.unsuite ok) hN hi hk fun s9 I9=>⟨_,H8,I9,q8⟩
  | cont =>
    obtain ⟨σ8,H8,J8,q8⟩:=q8
    exact goes_ok (J8.unsuite ok) hN hi hk fun s9 I9=>⟨_,H8,I9,q8⟩
  | ret u =>
    obtain ⟨v,σ8,H8,J8,r,q8⟩:=q8
    exact goes_ok (J8.unsuite ok) hN hi hk fun s9 I9=>⟨v,_,H8,I9,r,q8⟩
theorem Fun.okE {P:Program} {w:World} {K:PySem.W.Frag} {mg:Str→Option Value} {base:Heap} {x qual:Str} {st:Stmt} {f:Addr} {fd:FuncData} {N ps:List Str} {k:Nat} {sp:Sp} (F:Fun K x qual st f fd) (S:FnScope N ps (defScope st)) (len:∀ vs H Q E,sp vs H Q E→vs.length=ps.length)
    (hbody:∀ (cdv:Value) (A:Around) (outer:List Env) (s:Shared) (H:Hp) (vs:List V) (Q:VK) (E:XK),Room k (A.deeper (envOfC qual (defScope st) s.heap.objs.size f cdv))→sp vs H Q E →
      ∃ t,PSs (cxOf (CXE P w) P w K mg base N qual (defScope st) f cdv A outer s H E) (defBody st) t∧t { nx:=fun _ H'=>Q .non H',rt:=Q } (start N vs) H):FnOk P w K mg base (CXE P w) (k + 1) f fd ps sp:=by
  obtain ⟨oc,od,kV,doc,pm,an,cdv,ct,osl,rfl,lk,hcd⟩:=F.ex
  exact fn_of lk hcd S len fun A outer s H vs Q E hr hsp=>hbody cdv A outer s H vs Q E hr hsp
theorem pe_isiE {X:Cx} {pn:List (Addr×Obj)} {a C:Addr} {oe:Obj} {vs:Array Value} {b:Bool} {i:Nat} {y z:Str} {c:Value} {p p1 p2 pos:Pos} (hin:(a,oe)∈pn) (hc:oe.cls = .ref C) (hd:oe.data = .fields vs) (F:ExcF X.K C) (e:PySem.W.kitOne X.K (.ref C) c=some b)
    (hx:Gl (X.suite pn a) "isinstance") (hm:X.mg "isinstance" = none) (hi:PE (X.suite pn a) (.Name y p1) (tVar i))
    (hy:∀ (pins:List (Addr×Obj)) (s:Shared) (σ:St) (H:Hp) (Q:Value→Shared→Prop),Inv (X.suite pn a) pins σ H s→Q c s→wpAny (model X.prog X.w) (X.A.mark (some (.ref a))) (eval (.Name z p2) X.env) Q (fun _ _=>False) s)
    (he:starEach [.Name y p1,.Name z p2] X.env=(false,eval (.Name y p1) X.env) :: starEach [.Name z p2] X.env:=by rfl) (he2:starEach [.Name z p2] X.env=(false,eval (.Name z p2) X.env) :: starEach [] X.env:=by rfl) (hpl:(backTo pos (starEach [.Name z p2] X.env)).any (·.1)=false:=by rfl) :
    PE (X.suite pn a) (.Call (.Name "isinstance" p) [.Name y p1,.Name z p2] [] pos) (fun σ H Q=>σ[i]? = some (some (.ref a))∧Q (.bl b) H):=by
  intro pins s σ H Q I h
  refine wpAny_Call_Name_kw (ld_blt I hx hm boot_isi ?_ (by decide) (by decide))
  refine PyProof.Rows.callWith_builtin1 ?_ he hpl
  show wpAny _ _ (spliced (backTo pos (starEach [.Name y p1,.Name z p2] X.env))) _ _ s
  rw [he]
  refine Calls.spliced_cons (thn (hi pins s σ H (fun v H1=>v = .ref a∧H1=H) I ⟨.ref a,h.1,rfl,rfl⟩) fun u s1 hpq=>?_)
  obtain ⟨v,H1,I1,r1,e1,e2⟩:=hpq
  subst e1 e2
  cases r1
  show wpAny _ _ (spliced (backTo pos (starEach [.Name z p2] X.env))) _ _ s1
  rw [he2]
  refine Calls.spliced_cons (hy pins s1 σ H1 _ I1 ?_)
  refine Calls.spliced_nil ?_
  have pin:=I1.pin (a,oe) (List.mem_append_left _ hin)
  exact isi_exc F I1.kIn ⟨oe,vs,pin.1,hc,hd⟩ e fun tk=>⟨.bl b,H1,I1.tok _,rfl,h.2⟩
theorem pe_isiC {X:Cx} {pn:List (Addr×Obj)} {a C B:Addr} {oe:Obj} {vs:Array Value} {b:Bool} {i:Nat} {y z:Str} {p p1 p2 pos:Pos} (hin:(a,oe)∈pn) (hc:oe.cls = .ref C) (hd:oe.data = .fields vs) (F:ExcF X.K C) (e:PySem.W.kitOne X.K (.ref C) (.ref B)=some b)
    (hx:Gl (X.suite pn a) "isinstance") (hm:X.mg "isinstance" = none) (hi:PE (X.suite pn a) (.Name y p1) (tVar i)) (hg:Gl (X.suite pn a) z) (hz:X.mg z=some (.ref B)) (hdb:(z == ("__debug__":Str))=false:=by decide)
    (he:starEach [.Name y p1,.Name z p2] X.env=(false,eval (.Name y p1) X.env) :: starEach [.Name z p2] X.env:=by rfl) (he2:starEach [.Name z p2] X.env=(false,eval (.Name z p2) X.env) :: starEach [] X.env:=by rfl) (hpl:(backTo pos (starEach [.Name z p2] X.env)).any (·.1)=false:=by rfl) :
    PE (X.suite pn a) (.Call (.Name "isinstance" p) [.Name y p1,.Name z p2] [] pos) (fun σ H Q=>σ[i]? = some (some (.ref a))∧Q (.bl b) H) :=
  pe_isiE hin hc hd F e hx hm hi (fun pins s σ H Q I h=>ld_glob I hg hz h hdb) he he2 hpl
theorem pe_isiT {X:Cx} {pn:List (Addr×Obj)} {a C:Addr} {oe:Obj} {vs:Array Value} {b:Bool} {i:Nat} {y z:Str} {T:String} {p p1 p2 pos:Pos} (hin:(a,oe)∈pn) (hc:oe.cls = .ref C) (hd:oe.data = .fields vs) (F:ExcF X.K C) (e:PySem.W.kitOne X.K (.ref C) (.type T)=some b)
    (hx:Gl (X.suite pn a) "isinstance") (hm:X.mg "isinstance" = none) (hi:PE (X.suite pn a) (.Name y p1) (tVar i)) (hg:Gl (X.suite pn a) z) (hz:X.mg z=none) (hv:bootBuiltins z=some (.type T)) (hn:z≠"__name__":=by decide) (hdb:(z == ("__debug__":Str))=false:=by decide)
    (he:starEach [.Name y p1,.Name z p2] X.env=(false,eval (.Name y p1) X.env) :: starEach [.Name z p2] X.env:=by rfl) (he2:starEach [.Name z p2] X.env=(false,eval (.Name z p2) X.env) :: starEach [] X.env:=by rfl) (hpl:(backTo pos (starEach [.Name z p2] X.env)).any (·.1)=false:=by rfl) :
    PE (X.suite pn a) (.Call (.Name "isinstance" p) [.Name y p1,.Name z p2] [] pos) (fun σ H Q=>σ[i]? = some (some (.ref a))∧Q (.bl b) H) :=
  pe_isiE hin hc hd F e hx hm hi (fun pins s σ H Q I h=>ld_blt I hg hz hv h hn hdb) he he2 hpl
end L2
end
section
namespace HT
open PySem PySem.Spec PyProof.Rows
section
variable {prog:Program} {w:World} {A:Around} {E:Value→Shared→Prop} {s:Shared}
end
end HT
namespace L2
open PySem PySem.Spec PyProof.Rows Tim
section
variable {X:Cx}
theorem passF {P:Program} {w:World}:Passes (CXE P w) X (fun _ _ _=>False):=fun _ _ _ _ _ _ _ h=>by
  obtain ⟨a,C,H',_,_,q⟩:=h
  exact q.elim
end
noncomputable def TupK (K:PySem.W.Frag) (a:Addr) (ss:List Str):Prop:=∃ (o:Obj) (its:Array Value) (n:Nat),K.lookup a=some o∧o.cls = .type "tuple"∧o.data = .seq its n∧its.size≤sizeLine∧Vals (ss.map V.str) its.toList
noncomputable def strsB:List Value→List Str→Bool
  | [],[]=>true
  | .str x _ :: us,y :: ss=>decide (x=y) && strsB us ss
  | _,_=>false
noncomputable def tupKit (K:PySem.W.Frag) (a:Addr) (ss:List Str):Bool:=match K.lookup a with
  | none=>false
  | some o=>(match o.cls with | .type n=>n == "tuple" | _=>false) && match o.data with | .seq its _=>strsB its.toList ss && decide (its.toList.length≤100) | _=>false
theorem strsB_vals:∀ {us:List Value} {ss:List Str},strsB us ss=true→Vals (ss.map V.str) us
  | [],[],_=>.nil
  | [],_ :: _,h=>by cases h
  | u :: us,[],h=>by cases u <;> cases h
  | u :: us,y :: ss,h=>by
    cases u <;> first
      | cases h
      | (rename_i x t
         have h:(decide (x=y) && strsB us ss)=true:=h
         rw [Bool.and_eq_true] at h
         have e:=of_decide_eq_true h.1
         subst e
         exact .cons ⟨t,rfl⟩ (strsB_vals h.2))
theorem tupK_mk {K:PySem.W.Frag} {a:Addr} {ss:List Str} (h:tupKit K a ss=true):TupK K a ss:=by
  unfold tupKit at h
  cases e:K.lookup a with
  | none=>rw [e] at h;cases h
  | some o =>
    rw [e] at h
    have h:((match o.cls with | .type n=>n == "tuple" | _=>false) && match o.data with | .seq its _=>strsB its.toList ss && decide (its.toList.length≤100) | _=>false)=true:=h
    rw [Bool.and_eq_true] at h
    obtain ⟨h1,h2⟩:=h
    have c:o.cls = .type "tuple":=by
      split at h1
      · rename_i n z;rw [z,eq_of_beq h1]
      · cases h1
    split at h2
    · rename_i its n z
      rw [Bool.and_eq_true] at h2
      have hz:=sizeLine_eq
      refine ⟨o,its,n,e,c,z,?_,strsB_vals h2.1⟩
      have:=of_decide_eq_true h2.2
      rw [Array.length_toList] at this
      omega
    · cases h2
theorem TupK.sq {K:PySem.W.Frag} {a:Addr} {ss:List Str} (h:TupK K a ss) (H:Hp):SqT K H a (ss.map V.str):=.inr h
structure PEW (X:Cx) (e:Expr) (t:TE):Prop where
  h:PE X e t
structure PAW (X:Cx) (es:List Expr) (t:TA):Prop where
  h:PA X es t
structure PSW (X:Cx) (st:Stmt) (t:TS):Prop where
  h:PS X st t
structure PSsW (X:Cx) (st:List Stmt) (t:TS):Prop where
  h:PSs X st t
section
variable {X:Cx}
theorem PSsW.out {st:List Stmt} {t:TS} (h:PSsW X st t):PSs X st t:=h.h
theorem w_cons {st:Stmt} {rest:List Stmt} {t u:TS} (h1:PSW X st t) (h2:PSsW X rest u):PSsW X (st :: rest) (tSeq t u):=⟨pss_cons h1.h h2.h⟩
theorem w_one {st:Stmt} {t:TS} (h1:PSW X st t):PSsW X [st] t:=⟨pss_one h1.h⟩
theorem w_set {i:Nat} {x:Str} {e:Expr} {te:TE} {pos pos':Pos} (hN:X.N.Nodup) (hi:X.N[i]? = some x) (hx:Loc X.env.scope x) (he:PEW X e te) (hs:swapsWith e (some (.Name x pos')) pos.line X.env=pure false:=by rfl) (hf:X.fn x=true∨X.env.scope.names.lookup x=some .local:=by first | exact .inl rfl | exact .inr rfl) :
    PSW X (.Assign [.Name x pos'] e pos) (tAsg te (gName i)):=⟨ps_set hN hi hx he.h hs hf⟩
theorem w_lst {es:List Expr} {t:TA} {pos:Pos} (h:PAW X es t):PEW X (.List es pos) (tLst t):=⟨pe_lst h.h⟩
theorem w_tup {es:List Expr} {t:TA} {k:Nat} {pos:Pos} (h:PAW X es t):PEW X (.Tuple es k pos) (tTup t):=⟨pe_tup h.h⟩
theorem wa_nil:PAW X [] tNil:=⟨pa_nil⟩
theorem wa_cons {e:Expr} {es:List Expr} {te:TE} {t:TA} (h1:PEW X e te) (h2:PAW X es t) (hs:starEach (e :: es) X.env=(false,eval e X.env) :: starEach es X.env:=by rfl):PAW X (e :: es) (tCons te t):=⟨pa_cons h1.h h2.h hs⟩
end
end L2
end
section
namespace MW
noncomputable abbrev W:=List Nat
theorem lt_cases {x y:W} (h:x < y):(∃ t,t≠[]∧y=x++t)∨∃ p a b s t,x=p++a :: s∧y=p++b :: t∧a < b:=by
  induction x generalizing y with
  | nil =>
    cases y with
    | nil=>exact absurd h (List.lt_irrefl _)
    | cons b t=>exact .inl ⟨b :: t,by simp,rfl⟩
  | cons a s ih =>
    cases y with
    | nil=>exact absurd h (List.not_lt_nil _)
    | cons b t =>
      rcases List.cons_lt_cons_iff.mp h with q | ⟨rfl,q⟩
      · exact .inr ⟨[],a,b,s,t,rfl,rfl,q⟩
      · rcases ih q with ⟨u,hu,rfl⟩ | ⟨p,a',b',s',t',rfl,rfl,q'⟩
        · exact .inl ⟨u,hu,rfl⟩
        · exact .inr ⟨a :: p,a',b',s',t',rfl,rfl,q'⟩
theorem lt_append_left {p x y:W}:p++x < p++y↔x < y:=by
  induction p with
  | nil=>exact Iff.rfl
  | cons a p ih=>rw [List.cons_append,List.cons_append,List.cons_lt_cons_iff];simp [ih]
theorem diff_lt {p:W} {a b:Nat} {s t:W} (h:a < b):p++a :: s < p++b :: t:=lt_append_left.mpr (List.cons_lt_cons_iff.mpr (.inl h))
theorem lt_trans {x y z:W} (a:x < y) (b:y < z):x < z:=List.lt_trans a b
theorem lt_irrefl (x:W):¬ x < x:=List.lt_irrefl x
theorem lt_asymm {x y:W} (a:x < y):¬ y < x:=fun b=>lt_irrefl x (lt_trans a b)
theorem tri (x y:W):x < y∨x=y∨y < x:=by
  by_cases h:x < y
  · exact .inl h
  · by_cases g:y < x
    · exact .inr (.inr g)
    · exact .inr (.inl (List.le_antisymm (List.not_lt.mp g) (List.not_lt.mp h)))
theorem lt_more {x y:W} (h:x < y) (hl:y.length≤x.length) (s t:W):x++s < y++t:=by
  rcases lt_cases h with ⟨u,hu,rfl⟩ | ⟨p,a,b,s',t',rfl,rfl,q⟩
  · have:u.length=0:=by simp at hl;omega
    exact absurd (List.length_eq_zero_iff.mp this) hu
  · simpa using diff_lt q
theorem lt_of_more {x y s t:W} (h:x++s < y++t) (hl:x.length=y.length):x < y∨(x=y∧s < t):=by
  rcases tri x y with q | q | q
  · exact .inl q
  · subst q;exact .inr ⟨rfl,lt_append_left.mp h⟩
  · exact absurd h (lt_asymm (lt_more q (by omega) t s))
noncomputable def Pl (w:W):Prop:=w≠[]∧∀ i,0 < i→i < w.length→w < w.drop i
noncomputable def pl (w:W):Bool:=decide (w≠[]) && (List.range (w.length - 1)).all fun i=>decide (w < w.drop (1 + i))
theorem pl_true {w:W}:pl w=true↔Pl w:=by
  unfold pl Pl
  rw [Bool.and_eq_true,List.all_eq_true]
  constructor
  · rintro ⟨a,b⟩
    refine ⟨of_decide_eq_true a,fun i h0 h1=>?_⟩
    have:=of_decide_eq_true (b (i - 1) (List.mem_range.mpr (by omega)))
    rwa [show 1 + (i - 1)=i by omega] at this
  · rintro ⟨a,b⟩
    exact ⟨decide_eq_true a,fun i hi=>decide_eq_true (b (1 + i) (by omega) (by have:=List.mem_range.mp hi;omega))⟩
noncomputable instance (w:W):Decidable (Pl w):=decidable_of_iff _ pl_true
theorem pl_one (a:Nat):Pl [a]:=⟨by simp,fun i h0 h1=>by simp at h1;omega⟩
noncomputable def CutAt (w:W) (i:Nat):Prop:=0 < i∧i < w.length∧Pl (w.drop i)∧∀ j,0 < j→j < i→¬ Pl (w.drop j)
theorem last_plain {w:W} (h:w≠[]):Pl (w.drop (w.length - 1)):=by
  have hl:0 < w.length:=List.length_pos_iff.mpr h
  have:(w.drop (w.length - 1)).length=1:=by rw [List.length_drop];omega
  obtain ⟨a,e⟩:=List.length_eq_one_iff.mp this
  rw [e];exact pl_one a
theorem cut_ex {w:W} (h:2≤w.length):∃ i,CutAt w i:=by
  have ex:∃ i,0 < i∧i < w.length∧Pl (w.drop i):=⟨w.length - 1,by omega,by omega,last_plain (by intro z;rw [z] at h;simp at h)⟩
  have key:∀ n i,i=n→0 < i→i < w.length→Pl (w.drop i)→∃ i,CutAt w i:=by
    intro n
    induction n using Nat.strongRecOn with
    | ind n ih =>
      intro i e h0 h1 hp
      by_cases q:∃ j,0 < j∧j < i∧Pl (w.drop j)
      · obtain ⟨j,a,b,c⟩:=q
        exact ih j (by omega) j rfl a (by omega) c
      · exact ⟨i,h0,h1,hp,fun j a b c=>q ⟨j,a,b,c⟩⟩
  obtain ⟨i,a,b,c⟩:=ex
  exact key i i rfl a b c
theorem cut_uni {w:W} {i j:Nat} (a:CutAt w i) (b:CutAt w j):i=j:=by
  rcases Nat.lt_trichotomy i j with h | h | h
  · exact absurd a.2.2.1 (b.2.2.2 i a.1 h)
  · exact h
  · exact absurd b.2.2.1 (a.2.2.2 j b.1 h)
theorem not_pl {w:W} (hn:w≠[]) (h:¬ Pl w):∃ i,0 < i∧i < w.length∧w.drop i < w:=by
  by_cases q:∃ i,0 < i∧i < w.length∧w.drop i < w
  · exact q
  · refine absurd ⟨hn,fun i h0 h1=>?_⟩ h
    rcases tri w (w.drop i) with z | z | z
    · exact z
    · have:=congrArg List.length z
      simp at this;omega
    · exact absurd ⟨i,h0,h1,z⟩ q
theorem behind {u v:W} (hv:Pl v) (hc:∀ j,0 < j→j < u.length→¬ Pl (u.drop j++v)):∀ n j,u.length - j=n→0 < j→j < u.length→v < u.drop j++v:=by
  intro n
  induction n using Nat.strongRecOn with
  | ind n ih =>
    intro j e h0 h1
    have hne:u.drop j++v≠[]:=by simp [hv.1]
    obtain ⟨i,i0,i1,hi⟩:=not_pl hne (hc j h0 h1)
    rw [List.length_append,List.length_drop] at i1
    by_cases q:i < u.length - j
    · have d:(u.drop j++v).drop i=u.drop (j + i)++v:=by
        rw [List.drop_append_of_le_length (by rw [List.length_drop];omega),List.drop_drop]
      rw [d] at hi
      exact lt_trans (ih (u.length - (j + i)) (by omega) (j + i) rfl (by omega) (by omega)) hi
    · have d:(u.drop j++v).drop i=v.drop (i - (u.length - j)):=by
        rw [List.drop_append,List.drop_eq_nil_of_le (by rw [List.length_drop];omega),List.nil_append,List.length_drop]
      rw [d] at hi
      by_cases z:i - (u.length - j)=0
      · rw [z,List.drop_zero] at hi;exact hi
      · exact lt_trans (hv.2 _ (by omega) (by omega)) hi
theorem cut_plain {w:W} (hw:Pl w) {i:Nat} (hc:CutAt w i):Pl (w.take i):=by
  obtain ⟨i0,i1,hv,hn⟩:=hc
  have hu:(w.take i).length=i:=by rw [List.length_take];omega
  have e:w=w.take i++w.drop i:=(List.take_append_drop i w).symm
  have hj:∀ j,0 < j→j < (w.take i).length→¬ Pl ((w.take i).drop j++w.drop i):=fun j j0 j1=>by
    have d:(w.take i).drop j++w.drop i=w.drop j:=by
      conv=>rhs;rw [e]
      rw [List.drop_append_of_le_length (by omega)]
    rw [d];exact hn j j0 (by omega)
  refine ⟨fun z=>by rw [z] at hu;simp at hu;omega,fun j j0 j1=>?_⟩
  have b1:=behind hv hj _ j rfl j0 j1
  have b0:w < w.drop i:=hw.2 i i0 i1
  have b2:w.take i++w.drop i < (w.take i).drop j++w.drop i:=by rw [← e];exact lt_trans b0 b1
  rcases tri (w.take i) ((w.take i).drop j) with q | q | q
  · exact q
  · have:=congrArg List.length q
    rw [List.length_drop] at this;omega
  · exfalso
    rcases lt_cases q with ⟨t,ht,et⟩ | ⟨p,a,b,s,t,e1,e2,q'⟩
    · have tl:t.length=j:=by have:=congrArg List.length et;rw [List.length_append,List.length_drop] at this;omega
      have b3:t++w.drop i < w.drop i:=by
        have z:=b2
        conv at z=>lhs;rw [et]
        rw [List.append_assoc] at z
        exact lt_append_left.mp z
      have et2:t=(w.take i).drop (i - j):=by
        have:(w.take i).drop (i - j)=t:=by
          conv=>lhs;rw [et]
          rw [List.drop_append,List.drop_eq_nil_of_le (by rw [List.length_drop];omega),List.nil_append,List.length_drop]
          rw [show i - j - ((w.take i).length - j)=0 by omega,List.drop_zero]
        exact this.symm
      have b4:=behind hv hj _ (i - j) rfl (by omega) (by omega)
      rw [← et2] at b4
      exact lt_asymm b3 b4
    · have:(w.take i).drop j++w.drop i < w.take i++w.drop i:=by
        conv=>rhs;rw [e2]
        rw [e1]
        simpa using diff_lt (p:=p) (s:=s++w.drop i) (t:=t++w.drop i) q'
      exact lt_asymm b2 this
end MW
end
section
namespace L2
open PySem PySem.Spec PyProof.Rows Tim
section
variable {K:Type} [DecidableEq K] {prog:Program} {w:World} {knd:PySem.KeyKind prog w K} {A:Around} {E:Value→Shared→Prop} {s:Shared}
end
section
variable {X:Cx}
end
end L2
namespace L2
open PySem PySem.Spec PyProof.Rows Tim
end L2
namespace L2
open PySem PySem.Spec PyProof.Rows Tim
section
variable {X:Cx}
theorem key_text {P:Program} {w:World} {kvs:List (Key×V)} {vs:List (Key×Value)} {ss:List Str} (rel:KV kvs vs) (hk:kvs.map (fun p=>kV p.1)=ss.map V.str) {i:Nat} {v:Value} (h:∃ k x,vs[i]? = some (k,x)∧(mixKind P w).is k v=true):i < ss.length∧∃ t,v = .str (ss.getD i Str.empty) t:=by
  obtain ⟨k,x,e2,e3⟩:=h
  have hl:kvs.length=ss.length:=by have:=congrArg List.length hk;simpa using this
  have hi:i < kvs.length:=by rw [rel.length];exact (List.getElem?_eq_some_iff.mp e2).1
  obtain ⟨u,e5,_⟩:=rel.at (i:=i) (k:=kvs[i].1) (v:=kvs[i].2) (List.getElem?_eq_getElem hi)
  rw [e2] at e5
  have ek:k=kvs[i].1:=by injection e5 with e5;exact (Prod.mk.inj e5).1
  have e6:(kvs.map fun p=>kV p.1)[i]? = some (kV k):=by rw [List.getElem?_map,List.getElem?_eq_getElem hi,ek];rfl
  have hs:i < ss.length:=by omega
  rw [hk,List.getElem?_map,List.getElem?_eq_getElem hs] at e6
  have e7:kV k=V.str ss[i]:=(Option.some.inj e6).symm
  have r:=kV_rel e3
  rw [e7] at r
  obtain ⟨t,rfl⟩:=r
  exact ⟨hs,t,by simp [List.getD,List.getElem?_eq_getElem hs]⟩
theorem call_min_dict (hc:X.calm=true):CallR X (.builtin "min") (fun xs H Q=>∃ (d:Addr) (kvs:List (Key×V)) (ss:List Str),xs=[.ref d]∧Rd H d (.dK kvs)∧kvs.map (fun p=>kV p.1)=ss.map V.str∧ss≠[]∧∀ m∈ss,(∀ n∈ss,¬ Slt n m)→Q (.str m) H):=by
  intro pins s σ H xs us Q I r h
  obtain ⟨d,kvs,ss,rfl,hd,hk,hne,q⟩:=h
  obtain ⟨u,rfl,rx⟩:=vals1 r
  cases rx
  obtain ⟨z,hsm,vs,rel,dd⟩:=dk_rd I.hok hd
  obtain ⟨ep,da⟩:=dd.dictAt
  have hl:kvs.length=ss.length:=by have:=congrArg List.length hk;simpa using this
  have hvl:vs.length=ss.length:=by rw [← rel.length];exact hl
  have hpos:0 < ss.length:=List.length_pos_iff.mpr hne
  have hlt:d < s.heap.objs.size:=by obtain ⟨o,es,e,_⟩:=id da;exact Heap.lt_size e
  let bt:Nat→Nat→Bool:=fun i j=>decide ((ss.getD i Str.empty).cps.toList < (ss.getD j Str.empty).cps.toList)
  refine call_min_walk (wpAny_pyIter_dict hsm da ?_)
  refine ⟨_,_,_,_,_,_,bt,rfl,Walks.dictKeys (knd:=mixKind X.prog X.w) (A:=X.A.in1) (I.ok.hd hc) s.heap.objs.size d (Nat.ne_of_lt hlt) vs ep,⟨⟨_,Heap.get?_push_size _ rfl,rfl,rfl⟩,da.at' fun o e=>Heap.get?_push_of_some _ e⟩,fun b hb=>?_,by rw [hvl];exact hpos,cmp_strs (fun i=>ss.getD i Str.empty) fun i v e=>(key_text rel hk e).2,fun v h' tk hP hkk=>?_⟩
  · show b < (s.heap.push _).objs.size
    rw [Heap.size_push]
    simp only [List.mem_cons,List.not_mem_nil,or_false] at hb
    rcases hb with rfl | rfl
    · exact Nat.lt_succ_self _
    · exact Nat.lt_succ_of_lt hlt
  · obtain ⟨hb,t,rfl⟩:=key_text rel hk hP
    rw [hvl] at hb ⊢
    refine ⟨.str _,H,?_,⟨t,rfl⟩,q _ ?_ fun n hn=>?_⟩
    · refine I.kept (t':=tk) fun b o e=>hkk b o (fun hm=>?_) (Heap.get?_push_of_some _ e)
      simp only [List.mem_cons,List.not_mem_nil,or_false] at hm
      subst hm
      exact absurd (Heap.lt_size e) (Nat.lt_irrefl _)
    · simp only [List.getD,List.getElem?_eq_getElem hb,Option.getD_some]
      exact List.getElem_mem hb
    · obtain ⟨i,hi,rfl⟩:=List.mem_iff_getElem.mp hn
      have:=argBest_low (bt:=bt) (fun i=>decide_eq_false (List.lt_irrefl _)) (fun i j k a b=>decide_eq_true (List.lt_trans (of_decide_eq_true a) (of_decide_eq_true b))) (ss.length - 1) i (by omega)
      have this:¬ (ss.getD i Str.empty).cps.toList < (ss.getD (argBest bt (ss.length - 1)) Str.empty).cps.toList:=of_decide_eq_false this
      have e:ss.getD i Str.empty=ss[i]:=by simp [List.getD,List.getElem?_eq_getElem hi]
      rw [e] at this
      exact this
end
end L2
namespace L2
open PySem PySem.Spec PyProof.Rows Tim
noncomputable def signs (x:Str):List Str:=x.cps.toList.map fun c=>⟨#[c]⟩
theorem rising_all:∀ (p:Str) (l:List Str),risingS p l=true→(p :: l).Pairwise (fun a b=>¬ Slt b a)
  | p,[],_=>List.pairwise_singleton _ _
  | p,x :: r,h=>by
    have h:(!ltCps x.cps.toList p.cps.toList && risingS x r)=true:=h
    rw [Bool.and_eq_true,ltCps_eq] at h
    have h1:¬ Slt x p:=by simpa [Slt] using h.1
    have ih:=rising_all x r h.2
    refine List.pairwise_cons.mpr ⟨fun y hy=>?_,ih⟩
    rcases List.mem_cons.mp hy with z | z
    · rw [z];exact h1
    · have h2:¬ Slt y x:=List.rel_of_pairwise_cons ih z
      intro q
      rcases MW.tri x.cps.toList p.cps.toList with t | t | t
      · exact h1 t
      · exact h2 (by show y.cps.toList < x.cps.toList;rw [t];exact q)
      · exact h2 (List.lt_trans q t)
theorem sorted_all:∀ {l:List Str},sortedS l=true→l.Pairwise (fun a b=>¬ Slt b a)
  | [],_=>.nil
  | p :: l,h=>rising_all p l h
section
variable {X:Cx}
theorem call_sorted_str (hc:X.calm=true):CallR X (.builtin "sorted") (fun xs H Q=>∃ x:Str,xs=[.str x]∧x.length < 64∧∀ (a:Addr) (ss:List Str),H a=none→ss.Perm (signs x)→sortedS ss=true→Q (.ref a) (upd H a (.lst (ss.map V.str)))):=by
  intro pins s σ H xs us Q I r h
  obtain ⟨x,rfl,h64,q⟩:=h
  obtain ⟨u,rfl,rx⟩:=vals1 r
  obtain ⟨t,rfl⟩:=rx
  have hz:=sizeLine_eq
  have hx:x.cps.size=x.length:=rfl
  refine Calls.call_function_entry kind_sorted plain_sorted entry_sorted (args_sorted1 _) ?_
  unfold Builtin.«sorted»
  refine wpAny_bind (m:=checkCount "sorted" 1 1 _) (wpAny_pure ?_)
  refine wpAny_bind (wpAny_collect_str (A:=X.A.in1) (I.ok.hd hc) x t (fun s1 acc kp kg kd ko hit=>?_) (by omega))
  have r1:Vals ((signs x).map V.str) acc.toList:=by
    refine vals_of_items (P:=SignAt x) (by unfold signs;rw [List.length_map,List.length_map,Array.length_toList];exact hit) ?_
    rintro i v u e ⟨c,w',e2,rfl⟩
    unfold signs at e
    rw [List.map_map,List.getElem?_map,Array.getElem?_toList,e2] at e
    cases e
    exact ⟨w',rfl⟩
  have I1:Inv X pins σ H s1:=by
    have I1:Inv X pins σ H { s with heap:=s1.heap,toks:=s1.toks }:=I.kept kp
    have e:s1={ s with heap:=s1.heap,toks:=s1.toks }:=by
      cases s1
      simp only at kg kd ko
      subst kg kd ko
      rfl
    rw [e]
    exact I1
  have hS:=strsAre_of r1
  have hvl:acc.toList.length=x.length:=by rw [← r1.length];unfold signs;rw [List.length_map,List.length_map,Array.length_toList];rfl
  refine wpAny_bind (wpAny_newList ?_ (by rw [hvl];omega))
  have hoL:(s1.heap.push (seqObj "list" acc.toList.toArray 0)).get? s1.heap.objs.size=some (seqObj "list" acc.toList.toArray 0):=Heap.get?_push_size _ rfl
  refine wpAny_bind (wpAny_holding (wpAny_call_entry slot_list_sort ⟨_,hoL,rfl⟩ entry_list_sort (list_sort_treeK strKind_oneLt hoL hS.keysOf (fun v₁ v₂ rest e=>keyKind_strs (by rw [← e];exact hS)) (by omega) fun st' hp hs=>⟨_,rfl,?_⟩) (args_list_sort _)))
  obtain ⟨ss',a1,a2,a3⟩:=sorted_out_str hS hp hs
  refine wpAny_pure ⟨_,rfl,.ref s1.heap.objs.size,_,?_,rfl,q s1.heap.objs.size ss' (I1.hok.fresh (Nat.le_refl _)) a2 a3⟩
  have old:∀ b o,s1.heap.get? b=some o→(sortedHeap (s1.heap.push (seqObj "list" acc.toList.toArray 0)) s1.heap.objs.size acc.toList ((arrOf st').map (·.2))).get? b=some o:=fun b o e=>by
    rw [sortedHeap_old (Nat.ne_of_lt (Heap.lt_size e)) (by rw [size_push'];exact Nat.lt_succ_of_lt (Heap.lt_size e))]
    exact Heap.get?_push_of_some _ e
  obtain ⟨c,hat⟩:=sortedHeap_at (out:=(arrOf st').map (·.2)) hoL
  exact I1.laid (a:=s1.heap.objs.size) (o:=.lst (ss'.map V.str)) (t':=s1.toks) old (Nat.le_refl _) ⟨by rw [List.length_map,a2.length_eq];unfold signs;rw [List.length_map,Array.length_toList];omega,((arrOf st').map (·.2)).toList,c,vals_of_strs a1,by
    have e:(((arrOf st').map (·.2)).toList).toArray=(arrOf st').map (·.2):=(fun (z:Array Value)=>(by cases z;rfl:z.toList.toArray=z)) _
    rw [e];exact hat⟩
end
end L2
namespace L2
open PySem PySem.Spec PyProof.Rows Tim
section
variable {X:Cx}
theorem call_dict_of:CallR X (.type "dict") (fun xs H Q=>∃ (d:Addr) (kvs:List (Key×V)),xs=[.ref d]∧Rd H d (.dK kvs)∧∀ a,H a=none→Q (.ref a) (upd H a (.dK kvs))):=by
  intro pins s σ H xs us Q I r h
  obtain ⟨d,kvs,rfl,hd,q⟩:=h
  obtain ⟨u,rfl,rx⟩:=vals1 r
  cases rx
  obtain ⟨z,hsm,vs,rel,dd⟩:=dk_rd I.hok hd
  refine kt_call_dict (knd:=mixKind X.prog X.w) hsm dd (by rw [← rel.length];exact z) fun h' hd' sb=>?_
  refine ⟨.ref s.heap.objs.size,_,I.laid (a:=s.heap.objs.size) (o:=.dK kvs) (t':=s.toks) (fun b o e=>?_) (Nat.le_refl _) ⟨z,beq_eq_false_iff_ne.mpr (Ne.symm (Nat.ne_of_lt I.big)),vs,rel,hd'⟩,rfl,q _ (I.hok.fresh (Nat.le_refl _))⟩
  exact (sb.2 b (Nat.ne_of_lt (Heap.lt_size e))).trans (Heap.get?_push_of_some _ e)
end
end L2
end
section
namespace L2
open PySem PySem.Spec PyProof.Rows Tim
section
variable {K:Type} [DecidableEq K] {prog:Program} {w:World} {knd:PySem.KeyKind prog w K} {A:Around} {E:Value→Shared→Prop} {s:Shared}
end
section
variable {X:Cx}
end
end L2
end
section
namespace L2
open PySem PySem.Spec PyProof.Rows Tim
section
variable {X:Cx}
end
end L2
end
section
namespace PySem
open Sem (wp)
section
variable {prog:Program} {w:World} {K:Type} [DecidableEq K] {knd:KeyKind prog w K} {A:Around}
end
end PySem
namespace L2
open PySem PySem.Spec PyProof.Rows Tim
theorem kv_keys {kvs:List (Key×V)} {vs:List (Key×Value)} (r:KV kvs vs):vs.map (·.1)=kvs.map (·.1):=by
  induction r with
  | nil=>rfl
  | cons h _ ih=>rw [List.map_cons,List.map_cons,ih,h.1]
section
variable {X:Cx}
end
end L2
end
section
namespace PySem
open Sem (wp)
section
variable {prog:Program} {w:World} {K:Type} [DecidableEq K] {knd:KeyKind prog w K} {A:Around} {E:Value→Shared→Prop} {s:Shared}
theorem setdef_list {d:Addr} {kvs:List (K×Value)} {k:K} {key x:Value} {Q:Value→Shared→Prop} (ik:knd.is k key=true) (D:s.heap.DictOf knd d kvs) (sz:kvs.length≤sizeLine)
    (old:∀ v,valueAt kvs k=some v→Q v { s with toks:=s.toks + 1 }) (new:valueAt kvs k=none→∀ h',h'.DictOf knd d (stored kvs k x)→Heap.SameBut d s.heap h'→Q x { s with heap:=h',toks:=s.toks + 1 }) :
    wpAny (model prog w) A (dictSetDefault d key x) Q E s:=by
  rcases D with ⟨ob,ents,n,at',ex,dat,ks,prs,dist⟩
  have fits:ents.size≤sizeLine:=by
    have l1:=prs.length
    rw [Array.length_toList] at l1
    omega
  have look:valueAt kvs k=(ents.findIdx? fun e=>knd.is k e.key).bind fun i=>(ents[i]?).map (·.val):=by
    have m:=Heap.DictOf.mapOf (knd:=knd) ⟨ob,ents,n,at',ex,dat,ks,prs,dist⟩
    rcases m with ⟨ob2,ents2,n2,at2,_,dat2,_,fnd⟩
    cases at'.symm.trans at2
    cases dat.symm.trans dat2
    have f:=fnd k
    rw [findBy_of_findIdx?] at f
    unfold valueAt at f
    unfold valueAt
    rw [← f]
    cases ents.findIdx? fun e=>knd.is k e.key <;> rfl
  have same:(ents.findIdx? fun e=>knd.is k e.key)=kvs.findIdx? fun kv=>decide (kv.1=k):=by
    rw [← prs.findIdx k]
    cases ents
    simp
  unfold dictSetDefault
  refine wpAny_holding (wpAny_bind (knd.pyHash ik ?_))
  refine wpAny_bind (wpAny_dictFind_of (s:={ s with toks:=s.toks + 1 }) ik at' dat ks ?_)
  cases found:ents.findIdx? fun e=>knd.is k e.key with
  | none =>
    rw [found] at look same
    have away:=not_mem_of_findIdx_none same.symm
    have app:stored kvs k x=kvs++[(k,x)]:=by
      rw [stored,if_neg]
      intro y
      obtain ⟨p,hp,e⟩:=List.any_eq_true.mp y
      exact away (List.mem_map.mpr ⟨p,hp,of_decide_eq_true e⟩)
    refine wpAny_bind (wpAny_rule (wpAny_bind (wpAny_updateDictKeys (hz:=fits) (s:={ s with toks:=s.toks + 1 }) at' dat (wpAny_pure ?_))))
    refine new look _ ⟨_,_,n + 1,Heap.get?_update_self _ at' (Obj.isFreed_of_dict (Obj.data_mapDictKeys dat _)),ex.mapDictKeys _,Obj.data_mapDictKeys dat _,ks.push ik _,?_,?_⟩ (Heap.SameBut.update ..)
    · rw [app,Array.toList_push]
      exact prs.append ik (knd.hash k) x
    · rw [app,List.map_append]
      exact List.nodup_append.mpr ⟨dist, by simp, fun a ha b hb e => away (by have : b = k := by simpa using hb
                                                                              rw [← this,← e];exact ha)⟩
  | some i =>
    rw [found] at look
    have il:i < ents.size:=(Array.findIdx?_eq_some_iff_findIdx_eq.mp found).1
    have ei:ents[i]? = some ents[i]:=Array.getElem?_eq_getElem il
    refine wpAny_bind (wpAny_dictEntries (s:={ s with toks:=s.toks + 1 }) at' dat ?_)
    rw [ei]
    refine wpAny_bind (wpAny_rule (wpAny_pure (old _ ?_)))
    rw [look]
    show (ents[i]?).map (·.val)=_
    rw [ei]
    rfl
theorem setdef_meets {k:K} {key:Value} {d:Addr} (ik:knd.is k key=true) (nS:(d == sysModules)=false) (x:Value) :
    MeetsIn prog w (Builtin.«dict.setdefault» ⟨[.ref d,key,x],[]⟩) (fun _ R s=>∃ kvs,s.heap.DictOf knd d kvs∧kvs.length≤sizeLine∧(∀ v,valueAt kvs k=some v→R (.ok (.ret v)) { s with toks:=s.toks + 1 }) ∧
      (valueAt kvs k=none→∀ h',h'.DictOf knd d (stored kvs k x)→Heap.SameBut d s.heap h'→R (.ok (.ret x)) { s with heap:=h',toks:=s.toks + 1 })) :=
  .of_wp fun B R s ⟨kvs,D,sz,old,new⟩=>by
    have body:∀ B:Around,wpAny (model prog w) B (dictSetDefault d key x >>= ret) (fun fin s'=>∃ v,fin = .done (.ret v)∧R (.ok (.ret v)) s') (fun e s'=>R (.error e) s') s:=fun B =>
      wpAny_bind (setdef_list ik D sz (fun v hv=>wpAny_pure ⟨v,rfl,old v hv⟩) fun hn h' D' sb=>wpAny_pure ⟨x,rfl,new hn h' D' sb⟩)
    unfold Builtin.«dict.setdefault» Builtin.Dict.keyAndDefault
    refine wpAny_bind (wpAny_bind (wpAny_notOrdered_dict D.typeIs (wpAny_pure ?_)))
    show wpAny _ _ (if (d == sysModules)=true then _ else (dictSetDefault d key x >>= ret)) _ _ s
    rw [if_neg (by rw [nS];exact Bool.false_ne_true)]
    exact body _
theorem merged_apart:∀ (more kvs:List (K×Value)),((kvs++more).map (·.1)).Nodup→merged kvs more=kvs++more
  | [],kvs,_=>by simp [merged]
  | (k,v) :: r,kvs,h=>by
    have h':((kvs++[(k,v)]++r).map (·.1)).Nodup:=by simpa using h
    have hk:¬ (kvs.any fun kv=>decide (kv.1=k))=true:=by
      rw [List.any_eq_true]
      rintro ⟨q,hq,e⟩
      rw [List.map_append,List.nodup_append] at h
      exact h.2.2 q.1 (List.mem_map.mpr ⟨q,hq,rfl⟩) k (List.mem_map.mpr ⟨(k,v),List.mem_cons_self ..,rfl⟩) (of_decide_eq_true e)
    have e:merged kvs ((k,v) :: r)=merged (kvs++[(k,v)]) r:=by
      show merged (stored kvs k v) r=_
      rw [stored,if_neg hk]
    rw [e,merged_apart r _ h']
    simp
end
end PySem
namespace L2
open PySem PySem.Spec PyProof.Rows Tim
section
variable {X:Cx}
noncomputable def rJoin (K:PySem.W.Frag):V→List V→Hp→VK→Prop:=fun x vs H Q=>∃ (sep:Str) (l:Addr) (ss:List Str),x = .str sep∧vs=[.ref l]∧SqL K H l (ss.map V.str)∧(ss.map (·.length)).sum + ss.length * sep.length≤sizeLine∧Q (.str (Builtin.Str.glued sep ss)) H
theorem vals_strs:∀ {ss:List Str} {us:List Value},Vals (ss.map V.str) us→∃ l:List (Str×Tok),us=strValues l∧l.map (·.1)=ss
  | [],us,r=>by cases r;exact ⟨[],rfl,rfl⟩
  | s :: ss,us,r=>by
    cases r with
    | cons h r =>
      obtain ⟨t,rfl⟩:=h
      obtain ⟨l,rfl,e⟩:=vals_strs r
      exact ⟨(s,t) :: l,rfl,by rw [List.map_cons,e]⟩
theorem fold_len (k:Nat):∀ (l:List Str) (a:Nat),l.foldl (fun n p=>n + p.length + k) a=a + (l.map (·.length)).sum + l.length * k
  | [],a=>by simp
  | x :: l,a=>by
    rw [List.foldl_cons,fold_len k l,List.map_cons,List.sum_cons,List.length_cons,Nat.add_mul]
    omega
theorem mt_join:MtR X "str.join" (rJoin X.K):=by
  intro pins s σ H x vs v us Q I rx rv h
  obtain ⟨sep,l,ss,rfl,rfl,hl,hz,q⟩:=h
  obtain ⟨t,rfl⟩:=rx
  obtain ⟨u,rfl,ru⟩:=vals1 rv
  cases ru
  obtain ⟨its,r,pl,_⟩:=I.list hl
  obtain ⟨ps,rfl,e⟩:=vals_strs r
  have ht:Builtin.Str.tooLong ((ps.map (·.1)).toArray.foldl (· + ·.length + sep.length) 0)=false:=by
    rw [e]
    refine decide_eq_false (Nat.not_lt.mpr ?_)
    have:=fold_len sep.length ss 0
    rw [List.foldl_toArray,this,Nat.zero_add]
    exact hz
  refine call_meets PySem.F.slot_str_join (typeIs_str _ _ _) PySem.F.entry_str_join (PySem.F.args_str_join_2 _ _) (meets_str_join_list sep t l ps ht) ⟨pl.isList,?_⟩
  have hlen:(Builtin.Str.glued sep ss).length≤sizeLine:=by
    rw [size_glued]
    have:(ss.length - 1) * sep.length≤ss.length * sep.length:=Nat.mul_le_mul_right _ (Nat.sub_le _ _)
    omega
  match ps,e with
  | [],e =>
    subst e
    exact ⟨hlen,V.str _,H,I.tok _,⟨_,rfl⟩,q⟩
  | [p],e =>
    subst e
    exact ⟨.str p.1,H,I,⟨_,rfl⟩,q⟩
  | p :: p' :: r,e =>
    subst e
    exact ⟨hlen,V.str _,H,I.tok _,⟨_,rfl⟩,q⟩
noncomputable def rSetDef:V→List V→Hp→VK→Prop:=fun x vs H Q=>∃ (a:Addr) (kvs:List (Key×V)) (k:Key) (z:V),x = .ref a∧vs=[kV k,z]∧H a=some (.dK kvs)∧kvs.length < sizeLine∧(∀ v,valV kvs k=some v→Q v H)∧(valV kvs k=none→Q z (upd H a (.dK (putK kvs k z))))
theorem mt_setdef:MtR X "dict.setdefault" rSetDef:=by
  intro pins s σ H x vs v us Q I rx rv h
  obtain ⟨a,kvs,k,z,rfl,rfl,e,hlt,h1,h2⟩:=h
  cases rx
  obtain ⟨u1,u2,rfl,ru1,ru2⟩:=vals2 rv
  obtain ⟨zl,hd,vs',rel,dd⟩:=dk_of I.hok e
  have hz:vs'.length≤sizeLine:=by rw [← rel.length];exact zl
  refine call_meetsIn PySem.F.slot_dict_setdefault dd.typeIs PySem.F.entry_dict_setdefault (PySem.F.args_dict_setdefault_3 _ _ _) (setdef_meets (knd:=mixKind X.prog X.w) (kV_is ru1) hd u2) ⟨vs',dd,hz,fun v hv=>?_,fun hv h' dd' hs=>?_⟩
  · have ro:=rel.val k
    rw [hv] at ro
    cases e2:valV kvs k with
    | none=>rw [e2] at ro;exact ro.elim
    | some y =>
      rw [e2] at ro
      exact ⟨y,H,I.tok _,ro,h1 y e2⟩
  · have ro:=rel.val k
    rw [hv] at ro
    have e2:valV kvs k=none:=by
      cases e2:valV kvs k with
      | none=>rfl
      | some y=>rw [e2] at ro;exact ro.elim
    have hl:(putK kvs k z).length≤sizeLine:=by have:=length_putK kvs k z;omega
    have he:∃ q,h'.get? a=some q:=let ⟨q,_,_,hq,_⟩:=dd';⟨q,hq⟩
    exact ⟨z,_,d_write I (by rw [e];exact True.intro) hs he (dk_new hl hd (rel.put k ru2) dd'),ru2,h2 e2⟩
noncomputable def rUpdate:V→List V→Hp→VK→Prop:=fun x vs H Q=>∃ (a b:Addr) (ka kb:List (Key×V)),x = .ref a∧vs=[.ref b]∧a≠b∧H a=some (.dK ka)∧Rd H b (.dK kb)∧ka.length + kb.length≤sizeLine∧((ka++kb).map (·.1)).Nodup∧Q .non (upd H a (.dK (ka++kb)))
theorem kv_append {a b:List (Key×V)} {c d:List (Key×Value)} (h:KV a c) (h':KV b d):KV (a++b) (c++d):=by
  induction h with
  | nil=>exact h'
  | cons x _ ih=>exact .cons x ih
theorem mt_update:MtR X "dict.update" rUpdate:=by
  intro pins s σ H x vs v us Q I rx rv h
  obtain ⟨a,b,ka,kb,rfl,rfl,nab,ea,eb,hz,hn,q⟩:=h
  cases rx
  obtain ⟨u,rfl,ru⟩:=vals1 rv
  cases ru
  obtain ⟨za,hda,va,ra,da⟩:=dk_of I.hok ea
  obtain ⟨zb,hdb,vb,rb,db⟩:=dk_rd I.hok eb
  have hn':((va++vb).map (·.1)).Nodup:=by rw [kv_keys (kv_append ra rb)];exact hn
  refine call_meetsIn PySem.F.slot_dict_update da.typeIs PySem.F.entry_dict_update (PySem.F.args_dict_update_2 _ _) (meets_dict_update (mixKind X.prog X.w) a b nab hdb) ⟨va,vb,da,db,by rw [← ra.length,← rb.length];exact hz,fun h' da' _ hs=>?_⟩
  rw [merged_apart vb va hn'] at da'
  have he:∃ q,h'.get? a=some q:=let ⟨q,_,_,hq,_⟩:=da';⟨q,hq⟩
  exact ⟨.non,_,d_write (t':=s.toks) I (by rw [ea];exact True.intro) hs he (dk_new (by rw [List.length_append];exact hz) hda (kv_append ra rb) da'),rfl,q⟩
noncomputable def tVals (td:TE):TE:=fun σ H Q=>td σ H fun v H1=>∃ (d:Addr) (kvs:List (Key×V)),v = .ref d∧Rd H1 d (.dK kvs)∧∀ l,H1 l=none→Q (.ref l) (upd H1 l (.lst (kvs.map (·.2))))
theorem pe_listValues {x:Str} {o:Expr} {td:TE} {p pos apos cpos:Pos} (hc:X.calm=true) (hg:Gl X x) (hm:X.mg x=none) (hv:bootBuiltins x=some (.type "list")) (ho:PE X o td) (hn:x≠"__name__":=by decide) (hdb:(x == ("__debug__":Str))=false:=by decide)
    (hbase:attributeBase o "values" X.env (eval o X.env)=eval o X.env:=by rfl) (hline:(apos.endLine == cpos.line)=true:=by rfl)
    (he:starEach [.Call (.Attribute o "values" apos) [] [] cpos] X.env=[(false,eval (.Call (.Attribute o "values" apos) [] [] cpos) X.env)]:=by rfl) :
    PE X (.Call (.Name x p) [.Call (.Attribute o "values" apos) [] [] cpos] [] pos) (tVals td):=by
  intro pins s σ H Q I h
  refine wpAny_Call_Name_kw (ld_blt I hg hm hv ?_ hn hdb)
  refine PyProof.Rows.callWith_type1 ?_ (by rw [he];rfl) rfl
  rw [he]
  refine Calls.spliced_cons ?_
  refine wpAny_Call_method (T:="dict") (id:="dict.values") hbase rfl hline PySem.F.plainAttrs_dict PySem.F.slot_dict_values PySem.F.type_dict_values (thn (ho pins s σ H _ I h) fun v s1 hpq=>?_)
  obtain ⟨x,H1,I1,r1,q1⟩:=hpq
  obtain ⟨d,kvs,rfl,hd,q⟩:=q1
  cases r1
  obtain ⟨z,hS,vs,rel,dd⟩:=dk_rd I1.hok hd
  obtain ⟨ep,da⟩:=dd.dictAt
  refine ⟨dd.typeIs,dd.mapOf.noDict,?_⟩
  refine method_meetsIn PySem.F.slot_dict_values PySem.F.entry_dict_values rfl (PySem.evalArgs_none ⟨rfl,dd.typeIs,PySem.F.args_dict_values_1 _,_,meets_dict_values (mixKind X.prog X.w) d hS,⟨vs,dd⟩,?_⟩)
  refine Calls.spliced_nil ?_
  have I2:Inv X pins σ H1 { s1 with heap:=s1.heap.push { cls:=.type "dict_values",data:=.fields #[.ref d] } }:=I1.kept (t':=s1.toks) fun b o e=>Heap.get?_push_of_some _ e
  refine PySem.W.kdl_call (PySem.W.kdl_values (knd:=mixKind X.prog X.w) (kvs:=vs) (ep:=ep) (r:=s1.heap.objs.size) (d:=d)) (I.ok.hd hc) ⟨⟨_,Heap.get?_push_size _ rfl,rfl,rfl⟩,da.push _⟩ (by rw [← rel.length];exact z) fun h' tk acc c hk hl hit=>?_
  refine ⟨.ref _,_,I2.laid (o:=.lst (kvs.map (·.2))) (t':=tk) hk (Nat.le_refl _) ⟨by rw [List.length_map];exact z,acc.toList,c,vals_of_items (P:=fun i v=>∃ k,vs[i]? = some (k,v)) (by rw [List.length_map,rel.length];exact hit) ?_,?_⟩,rfl,q _ (I2.hok.fresh (Nat.le_refl _))⟩
  · rintro i v u e ⟨k,e2⟩
    rw [List.getElem?_map] at e
    cases e4:kvs[i]? with
    | none=>rw [e4] at e;cases e
    | some p =>
      rw [e4] at e
      obtain ⟨k',v'⟩:=p
      obtain ⟨u',e5,r5⟩:=rel.at e4
      rw [e2] at e5
      cases e5
      cases e
      exact r5
  · simpa using hl
theorem pt_truthD {a:Expr} {ta:TE} (ha:PE X a ta) (he:∀ whole,isTrue a X.env whole=(do let v ← whole;standAt a.pos;holding [v] (truthy v))) :
    PT X a (fun σ H Q=>ta σ H fun x H'=>∃ (d:Addr) (kvs:List (Key×V)),x = .ref d∧Rd H' d (.dK kvs)∧Q (!kvs.isEmpty) H'):=by
  intro pins s σ H Q I h
  refine isTrue_plain (thn (ha pins s σ H _ I h) fun v s1 hpq=>?_) (he _)
  obtain ⟨x,H1,I1,r1,q1⟩:=hpq
  obtain ⟨d,kvs,rfl,hd,q⟩:=q1
  cases r1
  exact d_truth I1 hd fun s' I'=>⟨H1,I',q⟩
end
end L2
end
section
namespace PySem
open Sem (wp)
section
variable {prog:Program} {w:World} {A:Around} {E:Value→Shared→Prop} {s:Shared}
set_option maxHeartbeats 3200000 in
end
end PySem
namespace L2
open PySem PySem.Spec PyProof.Rows Tim
section
variable {X:Cx}
end
end L2
end
section
namespace PySem
open Sem (wp)
noncomputable def mxStep (b:Option Int) (x:Int):Option Int:=match b with
  | none=>some x
  | some m=>if m < x then some x else some m
noncomputable def mxOut (d:Value) (b:Option Int) (v:Value):Prop:=match b with
  | none=>v=d
  | some m=>∃ t,v = .int m t
noncomputable def mxHeld (b:Option (Int×Tok)):Array Value:=match b with
  | none=>#[]
  | some p=>#[.int p.1 p.2,.int p.1 p.2]
section
variable {prog:Program} {w:World} {A:Around} {E:Value→Shared→Prop} {s:Shared}
theorem gt_ints {B:Around} {x m:Int} {t u:Tok} {s:Shared} {Q:Value→Shared→Prop} {E:Value→Shared→Prop} (h:Q (.bool (decide (m < x))) s):wpAny (model prog w) B (richCompare .Gt (.int x t) (.int m u)) Q E s :=
  CmpOf.ints_gt (P:=fun (i:Nat) v=>(i=0∧v = .int x t)∨(i=1∧v = .int m u)) (fun i=>if i=0 then x else m) (fun i v h=>by
    rcases h with ⟨rfl,rfl⟩ | ⟨rfl,rfl⟩
    · exact ⟨t,rfl⟩
    · exact ⟨u,rfl⟩) 0 1 _ _ s Q E (.inl ⟨rfl,rfl⟩) (.inr ⟨rfl,rfl⟩) h
theorem mx_loop {it l S:Addr} {items:Array Value} {ns:List Int} (hA:A.handled=none) (hlen:items.size=ns.length) (hv:∀ (j:Nat) x,ns[j]? = some x→∃ t,items[j]? = some (.int x t)) (n1:it≠S) (n2:l≠it) (n3:l≠S) (key:Str) (d:Value) :
    ∀ (n i:Nat) (s:Shared) (R:Result→Shared→Prop) (b:Option (Int×Tok)) (c:Nat),i + n=ns.length→s.heap.IsListIter it l i→s.heap.IsList l items→s.heap.get? S=some ⟨.type "list",none,.seq (mxHeld b) c,#[]⟩ →
      (∀ h' tk v,mxOut d ((ns.drop i).foldl mxStep (b.map (·.1))) v→(∀ a o,a≠it→a≠S→s.heap.get? a=some o→h'.get? a=some o)→R (.ok (.ret v)) { s with heap:=h',toks:=tk }) →
      codeAny (model prog w) A (.builtin "max.loop" ⟨[.ref it,.none,.ref S],[(key,d)]⟩) R s
  | 0,i,s,R,b,c,hi,hit,hl,hS,h=>by
    have ed:ns.drop i=[]:=List.drop_of_length_le (by omega)
    rw [ed] at h
    refine codeAny_builtin F.entry_max_loop ?_
    show wpAny _ _ (seqItems? (.ref S) >>= _) _ _ s
    refine wpAny_bind (wpAny_seqItems hS rfl ?_)
    show wpAny _ _ (tryCatch (pyNext (.ref it)) _ >>= _) _ _ s
    refine wpAny_bind (wpAny_tryCatch (wpAny_pyNext_list_end hA hit hl (by rw [Array.getElem?_eq_none];omega) fun h1 eb=>?_))
    cases b with
    | none=>exact wpAny_bind (wpAny_rule (wpAny_pure (h h1 s.toks d rfl fun a o q1 _ e=>eb a o q1 e)))
    | some p =>
      have hS1:=eb S _ n1.symm hS
      show wpAny _ _ (updateSeq S (fun _=>#[]) >>= _) _ _ _
      refine wpAny_bind (wpAny_updateSeq (hz:=by show 2≤sizeLine;decide) hS1 rfl (wpAny_bind (wpAny_letGo (wpAny_pure ?_))))
      exact h _ s.toks _ ⟨p.2,rfl⟩ fun a o q1 q2 e=>(Heap.get?_update_other _ _ (Ne.symm q2)).trans (eb a o q1 e)
  | n + 1,i,s,R,b,c,hi,hit,hl,hS,h=>by
    have hil:i < ns.length:=by omega
    have ex:ns[i]? = some ns[i]:=List.getElem?_eq_getElem hil
    obtain ⟨t,et⟩:=hv i _ ex
    have ed:ns.drop i=ns[i] :: ns.drop (i + 1):=List.drop_eq_getElem_cons hil
    rw [ed,List.foldl_cons] at h
    refine codeAny_builtin F.entry_max_loop ?_
    show wpAny _ _ (seqItems? (.ref S) >>= _) _ _ s
    refine wpAny_bind (wpAny_seqItems hS rfl ?_)
    show wpAny _ _ (tryCatch (pyNext (.ref it)) _ >>= _) _ _ s
    refine wpAny_bind (wpAny_tryCatch (wpAny_pyNext_list_item hit hl et fun h1 hit1 sb1=>?_))
    have hS1:h1.get? S=some ⟨.type "list",none,.seq (mxHeld b) c,#[]⟩:=(sb1.2 S n1.symm).trans hS
    have hl1:h1.IsList l items:=by
      rcases hl with ⟨ol,g1,g2⟩
      exact ⟨ol,(sb1.2 l n2).trans g1,g2⟩
    have nm:(toString "max"++toString ".loop":String) = "max.loop":=by decide
    have put:∀ (h2:Heap) (tk:Nat),h2=h1.update S (Obj.mapSeq (fun _=>(#[.int ns[i] t,.int ns[i] t]:Array Value)))→mxStep (b.map (·.1)) ns[i]=some ns[i] →
        codeAny (model prog w) A (.builtin "max.loop" ⟨[.ref it,.none,.ref S],[(key,d)]⟩) R ⟨h2,s.gens,s.drawn,tk,s.os⟩:=fun h2 tk e2 est=>by
      subst e2
      rw [est] at h
      refine mx_loop hA hlen hv n1 n2 n3 key d n (i + 1) _ R (some (ns[i],t)) _ (by omega) ?_ ?_ (Heap.get?_update_self _ hS1 rfl) fun h3 tk3 v o3 k3=>?_
      · rcases hit1 with ⟨oi,g1,g2⟩
        exact ⟨oi,(Heap.get?_update_other _ _ n1.symm).trans g1,g2⟩
      · rcases hl1 with ⟨ol,g1,g2⟩
        exact ⟨ol,(Heap.get?_update_other _ _ n3.symm).trans g1,g2⟩
      · exact h h3 tk3 v o3 fun a o q1 q2 e=>k3 a o q1 q2 ((Heap.get?_update_other _ _ (Ne.symm q2)).trans ((sb1.2 a q1).trans e))
    cases b with
    | none =>
      show wpAny _ _ (updateSeq S (fun _=>#[.int ns[i] t,.int ns[i] t]) >>= _) _ _ _
      refine wpAny_bind (wpAny_updateSeq hS1 rfl ?_)
      rw [nm]
      exact wpAny_pure ⟨plainId_quiet F.plain_max_loop _,put _ _ rfl rfl⟩
    | some p =>
      show wpAny _ _ (tryCatch (holding [.int ns[i] t,.int ns[i] t] (richCompare .Gt (.int ns[i] t) (.int p.1 p.2) >>= _)) _ >>= _) _ _ _
      refine wpAny_bind (wpAny_tryCatch (wpAny_holding (wpAny_bind (gt_ints ?_))))
      refine wpAny_bind (wpAny_holding (wpAny_truthy_bool (wpAny_bind (wpAny_letGo (wpAny_pure ?_)))))
      by_cases e:p.1 < ns[i]
      · rw [decide_eq_true e]
        simp only [if_true]
        refine wpAny_bind (wpAny_updateSeq (hz:=by show 2≤sizeLine;decide) hS1 rfl (wpAny_bind (wpAny_letGo ?_)))
        rw [nm]
        exact wpAny_pure ⟨plainId_quiet F.plain_max_loop _,put _ _ rfl (if_pos e)⟩
      · rw [decide_eq_false e]
        simp only [Bool.false_eq_true,if_false]
        refine wpAny_bind (wpAny_letGo ?_)
        rw [nm]
        have est:mxStep ((some p).map (·.1)) ns[i]=some p.1:=if_neg e
        rw [est] at h
        exact wpAny_pure ⟨plainId_quiet F.plain_max_loop _,mx_loop hA hlen hv n1 n2 n3 key d n (i + 1) _ R (some p) c (by omega) hit1 hl1 hS1 fun h3 tk3 v o3 k3=>h h3 tk3 v o3 fun a o q1 q2 e=>k3 a o q1 q2 ((sb1.2 a q1).trans e)⟩
theorem args_maxD (a d:Value):argsOk "max" ⟨[a],[(Str.ofString "default",d)]⟩:=by unfold argsOk;kernel_rfl
theorem max_def {l:Addr} {items:Array Value} {ns:List Int} {d:Value} {Q:Value→Shared→Prop} (hA:A.handled=none) (hl:s.heap.IsList l items) (hlen:items.size=ns.length) (hv:∀ (j:Nat) x,ns[j]? = some x→∃ t,items[j]? = some (.int x t))
    (h:∀ h' tk v,mxOut d (ns.foldl mxStep none) v→(∀ a o,s.heap.get? a=some o→h'.get? a=some o)→Q v { s with heap:=h',toks:=tk }) :
    wpAny (model prog w) A (call (.builtin "max") [.ref l] [(Str.ofString "default",d)]) Q E s:=by
  refine wpAny_call (codeAny_call_builtin F.plain_max F.entry_max ?_)
  have ll:l < s.heap.objs.size:=by rcases hl with ⟨_,g,_⟩;exact Heap.lt_size g
  have body:wpAny (model prog w) A.in1 (Builtin.«max» ⟨[.ref l],[(Str.ofString "default",d)]⟩) (fun fin s'=>match fin with
      | .done f=>(match (Except.ok f:Result) with | .ok (.ret v)=>Q v s' | .ok _=>False | .error e=>E e s')
      | .again c'=>c'.quiet=true∧codeAny (model prog w) A c' (fun r s'=>match r with | .ok (.ret v)=>Q v s' | .ok _=>False | .error e=>E e s') s') E s:=by
    show wpAny _ A.in1 (Builtin.Builtins.bindParams "max" ["key","default"] 0 ⟨[],[(Str.ofString "default",d)]⟩ >>= _) _ _ s
    refine wpAny_bind (wpAny_of_eq (show Builtin.Builtins.bindParams "max" ["key","default"] 0 ⟨[],[(Str.ofString "default",d)]⟩=pure [none,some d] from rfl) ?_)
    refine wpAny_bind (wpAny_pure (wpAny_bind (wpAny_pyIter_list hl (wpAny_bind (wpAny_newObj_type ?_)))))
    have nm:(toString "max"++toString ".loop":String) = "max.loop":=by decide
    rw [nm]
    refine wpAny_pure ⟨plainId_quiet F.plain_max_loop _,?_⟩
    have k1:∀ a o,s.heap.get? a=some o→((s.heap.push ⟨.type "list_iterator",none,.fields #[.ref l,.int 0 0],#[]⟩).push ⟨.type "list",none,.seq #[] 0,#[]⟩).get? a=some o:=fun a o e=>Heap.get?_push_of_some _ (Heap.get?_push_of_some _ e)
    refine mx_loop (l:=l) (items:=items) (ns:=ns) hA hlen hv (it:=s.heap.objs.size) (S:=(s.heap.push ⟨.type "list_iterator",none,.fields #[.ref l,.int 0 0],#[]⟩).objs.size) ?_ ?_ ?_ (Str.ofString "default") d ns.length 0 _ _ none 0 (Nat.zero_add _) ?_ ?_ ?_ ?_
    · rw [Heap.size_push];exact Nat.ne_of_lt (Nat.lt_succ_self _)
    · exact Nat.ne_of_lt ll
    · rw [Heap.size_push];exact Nat.ne_of_lt (Nat.lt_succ_of_lt ll)
    · exact ⟨_,Heap.get?_push_of_some _ (Heap.get?_push_size _ rfl),rfl,rfl⟩
    · rcases hl with ⟨ol,g1,g2⟩
      exact ⟨ol,k1 _ _ g1,g2⟩
    · exact Heap.get?_push_size _ rfl
    · intro h' tk v o k
      refine h h' tk v o fun a ob e=>?_
      have la:=Heap.lt_size e
      exact k a ob (Nat.ne_of_lt la) (by rw [Heap.size_push];exact Nat.ne_of_lt (Nat.lt_succ_of_lt la)) (k1 a ob e)
  simp only [checkBuiltinCall,F.kind_max]
  have ha:=args_maxD (.ref l) d
  cases hsig:Manifest.signature? "max" with
  | none=>exact wpAny_pure body
  | some sig =>
    simp only [argsOk,hsig] at ha
    show wpAny _ A.in1 (Bind.checkArgs "max" sig ⟨[.ref l],[(Str.ofString "default",d)]⟩) _ _ s
    rw [ha]
    exact wpAny_pure body
end
end PySem
namespace L2
open PySem PySem.Spec PyProof.Rows Tim
section
variable {X:Cx}
noncomputable def mxOf (ns:List Int):Int:=(ns.foldl mxStep none).getD 0
noncomputable def tMaxD (K:PySem.W.Frag) (te:TE):TE:=fun σ H Q=>te σ H fun v H1=>∃ (l:Addr) (ns:List Int),v = .ref l∧SqL K H1 l (ns.map V.int)∧Q (.int (mxOf ns)) H1
theorem pe_maxD {e:Expr} {te:TE} {p pos kp cp:Pos} {ck:Nat} (hc:X.calm=true) (hg:Gl X "max") (hm:X.mg "max" = none) (he:PE X e te)
    (h1:backTo pos (starEach [e] X.env)=(false,eval e X.env) :: backTo pos (starEach [] X.env):=by rfl)
    (h2:(backTo pos (starEach [e] X.env)).any (·.1)=false:=by rfl) :
    PE X (.Call (.Name "max" p) [e] [⟨some "default",.Constant (.int 0) ck cp,kp⟩] pos) (tMaxD X.K te):=by
  intro pins s σ H Q I h
  refine wpAny_Call_Name_kw (ld_blt I hg hm (u:=.builtin "max") rfl ?_)
  refine callWith_kw ?_ h1 h2
  rw [h1]
  refine Calls.spliced_cons (thn (he pins s σ H _ I h) fun v s1 ⟨x,H1,I1,r1,l,ns,ex,hl,q⟩=>Calls.spliced_nil ?_)
  subst ex
  cases r1
  refine kws_cons (thn (pe_int (X:=X) pins s1 σ H1 (fun v H2=>v = .int 0∧H2=H1) I1 ⟨rfl,rfl⟩) fun dv s2 ⟨y,H2,I2,ry,e1,e2⟩=>kws_nil ?_)
  subst e1 e2
  obtain ⟨t,rfl⟩:=ry
  obtain ⟨its,r,pl,_⟩:=I2.list hl
  show wpAny _ _ (call (.builtin "max") [.ref l] [(Str.ofString "default",.int 0 t)]) _ _ _
  refine max_def (ns:=ns) (I.ok.hd hc) pl.isList (by rw [List.size_toArray,← r.length,List.length_map]) (fun j x e=>?_) fun h' tk v o kp=>?_
  · obtain ⟨u,hu,ru⟩:=r.get (i:=j) (x:=V.int x) (by rw [List.getElem?_map,e];rfl)
    obtain ⟨t',rfl⟩:=ru
    exact ⟨t',by simpa using hu⟩
  · have rv:∃ t,v = .int (mxOf ns) t:=by
      unfold mxOf
      cases e:ns.foldl mxStep none with
      | none=>rw [e] at o;exact ⟨t,o⟩
      | some m=>rw [e] at o;exact o
    exact ⟨.int (mxOf ns),H2,I2.kept kp,rv,q⟩
end
end L2
end
section
namespace ML
open MW (Pl W)
noncomputable abbrev F:=W→Int
noncomputable def S:F→W→W→Int
  | P,[],v=>P v
  | P,a :: u,[]=>P (a :: u)
  | P,a :: u,b :: v=>S (fun x=>P (a :: x)) u (b :: v) + S (fun x=>P (b :: x)) (a :: u) v
termination_by _ u v=>u.length + v.length
theorem S_l (P:F) (v:W):S P [] v=P v:=by rw [S]
theorem S_r (P:F) (u:W):S P u []=P u:=by cases u <;> rw [S]
theorem S_c (P:F) (a:Nat) (u:W) (b:Nat) (v:W):S P (a :: u) (b :: v)=S (fun x=>P (a :: x)) u (b :: v) + S (fun x=>P (b :: x)) (a :: u) v:=by rw [S]
theorem S_ind {C:F→W→W→Prop} (h1:∀ P v,C P [] v) (h2:∀ P u,C P u []) (h3:∀ P a u b v,C (fun x=>P (a :: x)) u (b :: v)→C (fun x=>P (b :: x)) (a :: u) v→C P (a :: u) (b :: v)):∀ (n:Nat) (u v:W) (P:F),u.length + v.length≤n→C P u v
  | n,[],v,P,_=>h1 P v
  | n,a :: u,[],P,_=>h2 P _
  | 0,a :: u,b :: v,P,h=>by simp at h
  | n + 1,a :: u,b :: v,P,h=>by
    simp only [List.length_cons] at h
    exact h3 P a u b v (S_ind h1 h2 h3 n u (b :: v) _ (by simp only [List.length_cons];omega)) (S_ind h1 h2 h3 n (a :: u) v _ (by simp only [List.length_cons];omega))
theorem S_add (P Q:F) (u v:W):S (fun x=>P x + Q x) u v=S P u v + S Q u v:=by
  refine S_ind (C:=fun P u v=>∀ Q:F,S (fun x=>P x + Q x) u v=S P u v + S Q u v) (fun P v Q=>?_) (fun P u Q=>?_) (fun P a u b v i1 i2 Q=>?_) _ u v P (Nat.le_refl _) Q
  · rw [S_l,S_l,S_l]
  · rw [S_r,S_r,S_r]
  · rw [S_c,S_c,S_c,i1 (fun x=>Q (a :: x)),i2 (fun x=>Q (b :: x))];omega
theorem S_mul (c:Int) (P:F) (u v:W):S (fun x=>c * P x) u v=c * S P u v:=by
  refine S_ind (C:=fun P u v=>S (fun x=>c * P x) u v=c * S P u v) (fun P v=>?_) (fun P u=>?_) (fun P a u b v i1 i2=>?_) _ u v P (Nat.le_refl _)
  · rw [S_l,S_l]
  · rw [S_r,S_r]
  · rw [S_c,S_c,i1,i2,Int.mul_add]
theorem S_zero {u v:W} {P:F} (h:∀ x,x.Perm (u++v)→P x=0):S P u v=0:=by
  refine S_ind (C:=fun P u v=>(∀ x,x.Perm (u++v)→P x=0)→S P u v=0) (fun P v h=>?_) (fun P u h=>?_) (fun P a u b v i1 i2 h=>?_) _ u v P (Nat.le_refl _) h
  · rw [S_l];exact h v (List.Perm.refl _)
  · rw [S_r];exact h u (by rw [List.append_nil])
  · rw [S_c,i1 fun x hx=>h _ (List.Perm.cons a hx),i2 fun x hx=>h _ ((List.Perm.cons b hx).trans List.perm_middle.symm)]
    rfl
theorem S_congr {u v:W} {P Q:F} (h:∀ x,x.Perm (u++v)→P x=Q x):S P u v=S Q u v:=by
  have e:S (fun x=>P x + (-1) * Q x) u v=0:=S_zero fun x hx=>by rw [h x hx];omega
  rw [S_add,S_mul] at e
  omega
noncomputable def Sp:(W→W→Int)→W→Int
  | f,[]=>f [] []
  | f,a :: u=>f [] (a :: u) + Sp (fun x y=>f (a :: x) y) u
theorem Sp_n (f:W→W→Int):Sp f []=f [] []:=rfl
theorem Sp_c (f:W→W→Int) (a:Nat) (u:W):Sp f (a :: u)=f [] (a :: u) + Sp (fun x y=>f (a :: x) y) u:=rfl
theorem Sp_add:∀ (u:W) (f g:W→W→Int),Sp (fun x y=>f x y + g x y) u=Sp f u + Sp g u
  | [],f,g=>rfl
  | a :: u,f,g=>by
    have ih:=Sp_add u (fun x y=>f (a :: x) y) (fun x y=>g (a :: x) y)
    show f [] (a :: u) + g [] (a :: u) + Sp (fun x y=>f (a :: x) y + g (a :: x) y) u=(f [] (a :: u) + Sp (fun x y=>f (a :: x) y) u) + (g [] (a :: u) + Sp (fun x y=>g (a :: x) y) u)
    rw [ih]
    generalize Sp (fun x y=>f (a :: x) y) u=t1
    generalize Sp (fun x y=>g (a :: x) y) u=t2
    omega
theorem Sp_zero:∀ (u:W) (f:W→W→Int),(∀ x y,f x y=0)→Sp f u=0
  | [],f,h=>h _ _
  | a :: u,f,h=>by rw [Sp_c,h,Sp_zero u _ fun x y=>h _ _];rfl
theorem Sp_congr:∀ (u:W) (f g:W→W→Int),(∀ x y,u=x++y→f x y=g x y)→Sp f u=Sp g u
  | [],f,g,h=>h _ _ rfl
  | a :: u,f,g,h=>by rw [Sp_c,Sp_c,h [] (a :: u) rfl,Sp_congr u _ (fun x y=>g (a :: x) y) fun x y e=>h (a :: x) y (by rw [e];rfl)]
theorem Sp_last:∀ (u:W) (f:W→W→Int),(∀ x y,y≠[]→f x y=0)→Sp f u=f u []
  | [],f,h=>rfl
  | a :: u,f,h=>by rw [Sp_c,h [] (a :: u) (by simp),Sp_last u _ fun x y hy=>h _ _ hy,Int.zero_add]
theorem Sp_first:∀ (u:W) (f:W→W→Int),(∀ x y,x≠[]→f x y=0)→Sp f u=f [] u
  | [],f,h=>rfl
  | a :: u,f,h=>by rw [Sp_c,Sp_zero u _ fun x y=>h _ _ (by simp),Int.add_zero]
noncomputable def cv (P Q:F):F:=fun x=>Sp (fun y z=>P y * Q z) x
noncomputable def TT (P Q:F) (u v:W):Int:=Sp (fun u1 u2=>Sp (fun v1 v2=>S P u1 v1 * S Q u2 v2) v) u
theorem S_cv (P Q:F) (u v:W):S (cv P Q) u v=TT P Q u v:=by
  refine S_ind (C:=fun P u v=>S (cv P Q) u v=TT P Q u v) (fun P v=>?_) (fun P u=>?_) (fun P a u b v i1 i2=>?_) _ u v P (Nat.le_refl _)
  · rw [S_l]
    show Sp _ v=Sp _ v
    exact Sp_congr v _ _ fun x y _=>by rw [S_l,S_l]
  · rw [S_r]
    show Sp _ u=Sp _ u
    refine Sp_congr u _ _ fun x y _=>?_
    rw [Sp_n,S_r,S_r]
  · have e1:S (fun x=>cv P Q (a :: x)) u (b :: v)=P [] * S (fun x=>Q (a :: x)) u (b :: v) + TT (fun x=>P (a :: x)) Q u (b :: v):=by
      rw [← i1,← S_mul,← S_add];rfl
    have e2:S (fun x=>cv P Q (b :: x)) (a :: u) v=P [] * S (fun x=>Q (b :: x)) (a :: u) v + TT (fun x=>P (b :: x)) Q (a :: u) v:=by
      rw [← i2,← S_mul,← S_add];rfl
    have e3:TT P Q (a :: u) (b :: v)=P [] * S Q (a :: u) (b :: v) + Sp (fun v1 v2=>P (b :: v1) * S Q (a :: u) v2) v + Sp (fun u1 u2=>P (a :: u1) * S Q u2 (b :: v) + (Sp (fun v1 v2=>S (fun x=>P (a :: x)) u1 (b :: v1) * S Q u2 v2) v + Sp (fun v1 v2=>S (fun x=>P (b :: x)) (a :: u1) v1 * S Q u2 v2) v)) u:=by
      unfold TT
      rw [Sp_c,Sp_c]
      congr 1
      · congr 1
        · rw [S_l]
        · exact Sp_congr v _ _ fun x y _=>by rw [S_l]
      · refine Sp_congr u _ _ fun x y _=>?_
        rw [Sp_c,S_r]
        congr 1
        rw [← Sp_add]
        refine Sp_congr v _ _ fun x' y' _=>?_
        rw [S_c,Int.add_mul]
    have e4:TT (fun x=>P (a :: x)) Q u (b :: v)=Sp (fun u1 u2=>P (a :: u1) * S Q u2 (b :: v) + Sp (fun v1 v2=>S (fun x=>P (a :: x)) u1 (b :: v1) * S Q u2 v2) v) u:=by
      unfold TT
      refine Sp_congr u _ _ fun x y _=>?_
      rw [Sp_c,S_r]
    have e5:TT (fun x=>P (b :: x)) Q (a :: u) v=Sp (fun v1 v2=>P (b :: v1) * S Q (a :: u) v2) v + Sp (fun u1 u2=>Sp (fun v1 v2=>S (fun x=>P (b :: x)) (a :: u1) v1 * S Q u2 v2) v) u:=by
      unfold TT
      rw [Sp_c]
      congr 1
      exact Sp_congr v _ _ fun x y _=>by rw [S_l]
    rw [S_c,e1,e2,e3,e4,e5,S_c Q,Int.mul_add]
    have e6:Sp (fun u1 u2=>P (a :: u1) * S Q u2 (b :: v) + (Sp (fun v1 v2=>S (fun x=>P (a :: x)) u1 (b :: v1) * S Q u2 v2) v + Sp (fun v1 v2=>S (fun x=>P (b :: x)) (a :: u1) v1 * S Q u2 v2) v)) u=Sp (fun u1 u2=>P (a :: u1) * S Q u2 (b :: v) + Sp (fun v1 v2=>S (fun x=>P (a :: x)) u1 (b :: v1) * S Q u2 v2) v) u + Sp (fun u1 u2=>Sp (fun v1 v2=>S (fun x=>P (b :: x)) (a :: u1) v1 * S Q u2 v2) v) u:=by
      rw [← Sp_add]
      exact Sp_congr u _ _ fun x y _=>by omega
    rw [e6]
    omega
noncomputable def Lie (P:F):Prop:=P []=0∧∀ u v,u≠[]→v≠[]→S P u v=0
theorem TT_lie {P Q:F} (hP:Lie P) (hQ:Lie Q) {u v:W} (hu:u≠[]) (hv:v≠[]):TT P Q u v=P u * Q v + P v * Q u:=by
  cases u with
  | nil=>exact absurd rfl hu
  | cons a u =>
    unfold TT
    rw [Sp_c]
    have e1:Sp (fun v1 v2=>S P [] v1 * S Q (a :: u) v2) v=P v * Q (a :: u):=by
      rw [Sp_last v _ fun x y hy=>by rw [hQ.2 _ _ hu hy,Int.mul_zero],S_l,S_r]
    have e2:Sp (fun x y=>Sp (fun v1 v2=>S P (a :: x) v1 * S Q y v2) v) u=P (a :: u) * Q v:=by
      have e:∀ x y,Sp (fun v1 v2=>S P (a :: x) v1 * S Q y v2) v=P (a :: x) * S Q y v:=fun x y=>by
        rw [Sp_first v _ fun x' y' hx=>by rw [hP.2 _ _ (by simp) hx,Int.zero_mul],S_r]
      rw [Sp_congr u _ (fun x y=>P (a :: x) * S Q y v) fun x y _=>e x y,Sp_last u _ fun x y hy=>by rw [hQ.2 _ _ hy hv,Int.mul_zero],S_l]
    rw [e1,e2]
    omega
theorem Lie.bracket {P Q:F} (hP:Lie P) (hQ:Lie Q):Lie (fun x=>cv P Q x + (-1) * cv Q P x):=by
  refine ⟨?_,fun u v hu hv=>?_⟩
  · show P [] * Q [] + (-1) * (Q [] * P [])=0
    rw [hP.1];simp
  · rw [S_add,S_mul,S_cv,S_cv,TT_lie hP hQ hu hv,TT_lie hQ hP hu hv,Int.mul_comm (Q u),Int.mul_comm (Q v)]
    omega
theorem Lie.add {P Q:F} (hP:Lie P) (hQ:Lie Q):Lie (fun x=>P x + Q x):=⟨by show P [] + Q []=0;rw [hP.1,hQ.1];rfl,fun u v hu hv=>by rw [S_add,hP.2 u v hu hv,hQ.2 u v hu hv];rfl⟩
theorem Lie.mul {P:F} (hP:Lie P) (c:Int):Lie (fun x=>c * P x):=⟨by show c * P []=0;rw [hP.1,Int.mul_zero],fun u v hu hv=>by rw [S_mul,hP.2 u v hu hv,Int.mul_zero]⟩
theorem Lie.zero:Lie (fun _=>0):=⟨rfl,fun u v _ _=>S_zero fun _ _=>rfl⟩
theorem Lie.letter (c:Nat):Lie (fun x=>if x=[c] then 1 else 0):=⟨rfl,fun u v hu hv=>S_zero fun x hx=>by
  rw [if_neg]
  intro e
  have h1:=hx.length_eq
  rw [e,List.length_append] at h1
  have h2:=List.length_pos_iff.mpr hu
  have h3:=List.length_pos_iff.mpr hv
  have h4:[c].length=1:=rfl
  omega⟩
theorem Lie.congr {P Q:F} (hP:Lie P) (h:∀ x,P x=Q x):Lie Q:=by
  have:P=Q:=funext h
  rw [← this];exact hP
theorem Lie.part {P:F} (hP:Lie P) (m:W):Lie (fun x=>if x.Perm m then P x else 0):=by
  refine ⟨?_,fun u v hu hv=>?_⟩
  · show (if ([]:W).Perm m then P [] else 0)=0
    rw [hP.1];simp
  · by_cases e:(u++v).Perm m
    · rw [S_congr (Q:=P) fun x hx=>if_pos (hx.trans e)]
      exact hP.2 u v hu hv
    · exact S_zero fun x hx=>if_neg fun y=>e (hx.symm.trans y)
noncomputable def le (s t:W):W→Bool
  | []=>true
  | c :: r=>(match s with | []=>true | a :: s'=>Nat.blt a c || (Nat.beq a c && le s' t r)) && (match t with | []=>true | b :: t'=>Nat.blt b c || (Nat.beq b c && le s t' r))
theorem le_use:∀ (r s t:W) (P:F),le s t r=true→s.length + t.length=r.length→(∀ x,x < r→P x=0)→∃ c:Nat,S P s t=(c:Int) * P r∧(r=s++t→0 < c)
  | [],s,t,P,_,hl,_=>by
    have h1:s=[]:=List.length_eq_zero_iff.mp (by simp at hl;exact List.length_eq_zero_iff.mpr hl.1)
    have h2:t=[]:=List.length_eq_zero_iff.mp (by simp at hl;exact List.length_eq_zero_iff.mpr hl.2)
    subst h1 h2
    exact ⟨1,by rw [S_l];simp,fun _=>by decide⟩
  | c :: r,[],t,P,h,hl,hp=>by
    rw [S_l]
    rcases MW.tri t (c :: r) with e | e | e
    · exact ⟨0,by rw [hp t e];simp,fun y=>absurd (by rw [y];rfl:(c :: r)=t) (fun z=>by rw [z] at e;exact MW.lt_irrefl _ e)⟩
    · exact ⟨1,by rw [e];simp,fun _=>by decide⟩
    · exfalso
      have key:∀ (r t:W),t.length=r.length→le [] t r=true→¬ r < t:=by
        intro r
        induction r with
        | nil=>intro t hl _ h;have:t=[]:=List.length_eq_zero_iff.mp hl;rw [this] at h;exact MW.lt_irrefl _ h
        | cons c r ih =>
          intro t hl h q
          cases t with
          | nil=>simp at hl
          | cons b t =>
            have h:(true && (Nat.blt b c || (Nat.beq b c && le [] t r)))=true:=h
            rw [Bool.true_and,Bool.or_eq_true,Bool.and_eq_true] at h
            rcases List.cons_lt_cons_iff.mp q with z | ⟨z,z2⟩
            · rcases h with h | ⟨h,_⟩
              · have:=Nat.blt_eq.mp h;omega
              · have:=Nat.eq_of_beq_eq_true h;omega
            · rcases h with h | ⟨_,h⟩
              · have:=Nat.blt_eq.mp h;omega
              · exact ih t (by simpa using hl) h z2
      exact key (c :: r) t (by simpa using hl) h e
  | c :: r,a :: s,[],P,h,hl,hp=>by
    rw [S_r]
    have h:((Nat.blt a c || (Nat.beq a c && le s [] r)) && true)=true:=h
    rw [Bool.and_true,Bool.or_eq_true,Bool.and_eq_true] at h
    rcases h with h | ⟨h,h'⟩
    · have:=Nat.blt_eq.mp h
      refine ⟨0,by rw [hp (a :: s) (List.cons_lt_cons_iff.mpr (.inl this))];simp,fun y=>?_⟩
      have:=(List.cons.inj y).1
      omega
    · have e:=Nat.eq_of_beq_eq_true h
      subst e
      obtain ⟨k,e1,e2⟩:=le_use r s [] (fun x=>P (a :: x)) h' (by simpa using hl) fun x hx=>hp _ (List.cons_lt_cons_iff.mpr (.inr ⟨rfl,hx⟩))
      rw [S_r] at e1
      exact ⟨k,e1,fun y=>e2 (List.cons.inj y).2⟩
  | c :: r,a :: s,b :: t,P,h,hl,hp=>by
    have h:((Nat.blt a c || (Nat.beq a c && le s (b :: t) r)) && (Nat.blt b c || (Nat.beq b c && le (a :: s) t r)))=true:=h
    rw [Bool.and_eq_true,Bool.or_eq_true,Bool.or_eq_true,Bool.and_eq_true,Bool.and_eq_true] at h
    simp only [List.length_cons] at hl
    have h1:∃ k:Nat,S (fun x=>P (a :: x)) s (b :: t)=(k:Int) * P (c :: r)∧(c :: r=(a :: s)++(b :: t)→0 < k):=by
      rcases h.1 with h | ⟨h,h'⟩
      · have q:=Nat.blt_eq.mp h
        refine ⟨0,by rw [S_zero fun x _=>hp (a :: x) (List.cons_lt_cons_iff.mpr (.inl q))];simp,fun y=>?_⟩
        have:=(List.cons.inj y).1
        omega
      · have e:=Nat.eq_of_beq_eq_true h
        subst e
        obtain ⟨k,e1,e2⟩:=le_use r s (b :: t) (fun x=>P (a :: x)) h' (by simp only [List.length_cons];omega) fun x hx=>hp _ (List.cons_lt_cons_iff.mpr (.inr ⟨rfl,hx⟩))
        exact ⟨k,e1,fun y=>e2 (List.cons.inj y).2⟩
    have h2:∃ k:Nat,S (fun x=>P (b :: x)) (a :: s) t=(k:Int) * P (c :: r):=by
      rcases h.2 with h | ⟨h,h'⟩
      · have q:=Nat.blt_eq.mp h
        exact ⟨0,by rw [S_zero fun x _=>hp (b :: x) (List.cons_lt_cons_iff.mpr (.inl q))];simp⟩
      · have e:=Nat.eq_of_beq_eq_true h
        subst e
        obtain ⟨k,e1,e2⟩:=le_use r (a :: s) t (fun x=>P (b :: x)) h' (by simp only [List.length_cons];omega) fun x hx=>hp _ (List.cons_lt_cons_iff.mpr (.inr ⟨rfl,hx⟩))
        exact ⟨k,e1⟩
    obtain ⟨k,e1,e2⟩:=h1
    obtain ⟨m,e3⟩:=h2
    refine ⟨k + m,?_,fun y=>by have:=e2 y;omega⟩
    rw [S_c,e1,e3,Int.natCast_add,Int.add_mul]
noncomputable def ltb:W→W→Bool
  | _,[]=>false
  | [],_ :: _=>true
  | a :: x,b :: y=>Nat.blt a b || (Nat.beq a b && ltb x y)
theorem ltb_lt:∀ {x y:W},ltb x y=true→x < y
  | _,[],h=>by unfold ltb at h;cases h
  | [],b :: y,_=>List.nil_lt_cons b y
  | a :: x,b :: y,h=>by
    have h:(Nat.blt a b || (Nat.beq a b && ltb x y))=true:=h
    rw [Bool.or_eq_true,Bool.and_eq_true] at h
    rcases h with h | ⟨h,h'⟩
    · exact List.cons_lt_cons_iff.mpr (.inl (Nat.blt_eq.mp h))
    · exact List.cons_lt_cons_iff.mpr (.inr ⟨Nat.eq_of_beq_eq_true h,ltb_lt h'⟩)
noncomputable def ends (w:W):W→Bool
  | []=>true
  | a :: r=>ltb w (a :: r) && ends w r
theorem ends_use {w:W}:∀ {r:W},ends w r=true→∀ i,i < r.length→w < r.drop i
  | [],_,i,h=>by simp at h
  | a :: r,h,i,hi=>by
    have h:(ltb w (a :: r) && ends w r)=true:=h
    rw [Bool.and_eq_true] at h
    cases i with
    | zero=>exact ltb_lt h.1
    | succ i=>exact ends_use h.2 i (by simpa using hi)
noncomputable def cuts (w p:W):W→Bool
  | []=>false
  | a :: q=>le p.reverse (a :: q) w || cuts w (a :: p) q
noncomputable def good (w:W):Bool:=match w with
  | []=>true
  | a :: r=>ends (a :: r) r || cuts (a :: r) [a] r
theorem cuts_use {w:W}:∀ {q p:W},p≠[]→cuts w p q=true→w=p.reverse++q→∃ u v,u≠[]∧v≠[]∧w=u++v∧le u v w=true
  | [],p,_,h,_=>by cases h
  | a :: q,p,hp,h,e=>by
    have h:(le p.reverse (a :: q) w || cuts w (a :: p) q)=true:=h
    rw [Bool.or_eq_true] at h
    rcases h with h | h
    · exact ⟨p.reverse,a :: q,by simpa using hp,by simp,e,h⟩
    · exact cuts_use (by simp) h (by rw [e];simp)
noncomputable def allW (ls:List Nat):Nat→(W→Bool)→Bool
  | 0,f=>f []
  | n + 1,f=>ls.all fun a=>allW ls n fun w=>f (a :: w)
theorem allW_use {ls:List Nat}:∀ {n:Nat} {f:W→Bool},allW ls n f=true→∀ w:W,w.length=n→(∀ c∈w,c∈ls)→f w=true
  | 0,f,h,w,hl,_=>by rw [List.length_eq_zero_iff.mp hl];exact h
  | n + 1,f,h,[],hl,_=>by simp at hl
  | n + 1,f,h,a :: w,hl,hc=>by
    have h:=List.all_eq_true.mp (show (ls.all fun a=>allW ls n fun w=>f (a :: w))=true from h) a (hc a (List.mem_cons_self ..))
    exact allW_use h w (by simpa using hl) fun c hw=>hc c (List.mem_cons_of_mem _ hw)
noncomputable def Tab (n:Nat):Prop:=allW [97,98,99] n good=true
theorem least_plain {w:W} (tb:Tab w.length) (hc:∀ c∈w,c∈[97,98,99]) {P:F} (hP:Lie P) (hw:P w≠0) (hl:∀ x,x < w→P x=0):Pl w:=by
  have g:=allW_use tb w rfl hc
  cases w with
  | nil=>exact absurd hP.1 hw
  | cons a r =>
    have g:(ends (a :: r) r || cuts (a :: r) [a] r)=true:=g
    rw [Bool.or_eq_true] at g
    rcases g with g | g
    · refine ⟨by simp,fun i h0 h1=>?_⟩
      cases i with
      | zero=>omega
      | succ i=>exact ends_use g i (by simpa using h1)
    · obtain ⟨u,v,hu,hv,e,h⟩:=cuts_use (by simp) g rfl
      obtain ⟨c,e1,e2⟩:=le_use (a :: r) u v P h (by rw [e,List.length_append]) hl
      have e3:=e2 e
      rw [hP.2 u v hu hv] at e1
      rcases Int.mul_eq_zero.mp e1.symm with z | z
      · omega
      · exact absurd z hw
theorem tab8:∀ n,n≤8→Tab n:=fun n h=>by
  have:n=0∨n=1∨n=2∨n=3∨n=4∨n=5∨n=6∨n=7∨n=8:=by omega
  rcases this with rfl | rfl | rfl | rfl | rfl | rfl | rfl | rfl | rfl <;> (unfold Tab;decide +kernel)
end ML
end
section
namespace MD
open MW (Pl W)
open ML
open Wm
section sums
theorem isum_nil {β:Type} (f:β→Int):isum (([]:List β).map f)=0:=rfl
theorem isum_cons {β:Type} (f:β→Int) (p:β) (l:List β):isum ((p :: l).map f)=f p + isum (l.map f):=rfl
theorem isum_add {β:Type} (f g:β→Int):∀ l:List β,isum (l.map fun p=>f p + g p)=isum (l.map f) + isum (l.map g)
  | []=>rfl
  | p :: l=>by rw [isum_cons,isum_cons,isum_cons,isum_add f g l];omega
theorem isum_mul {β:Type} (c:Int) (f:β→Int):∀ l:List β,isum (l.map fun p=>c * f p)=c * isum (l.map f)
  | []=>by rw [isum_nil,isum_nil,Int.mul_zero]
  | p :: l=>by rw [isum_cons,isum_cons,isum_mul c f l,Int.mul_add]
theorem isum_nought {β:Type} {f:β→Int}:∀ {l:List β},(∀ p∈l,f p=0)→isum (l.map f)=0
  | [],_=>rfl
  | p :: l,h=>by rw [isum_cons,h p (List.mem_cons_self ..),isum_nought fun q hq=>h q (List.mem_cons_of_mem _ hq)];rfl
theorem isum_comm {β γ:Type} (f:β→γ→Int) (m:List γ):∀ l:List β,isum (l.map fun p=>isum (m.map fun q=>f p q))=isum (m.map fun q=>isum (l.map fun p=>f p q))
  | []=>by rw [isum_nil];exact (isum_nought fun q _=>rfl).symm
  | p :: l=>by
    rw [isum_cons,isum_comm f m l,← isum_add]
    rfl
theorem isum_prod {β γ:Type} (f:β→Int) (g:γ→Int) (m:List γ):∀ l:List β,isum (l.map f) * isum (m.map g)=isum (l.map fun p=>isum (m.map fun q=>f p * g q))
  | []=>by rw [isum_nil,isum_nil,Int.zero_mul]
  | p :: l=>by rw [isum_cons,isum_cons,Int.add_mul,isum_prod f g m l,isum_mul]
theorem Sp_isum {β:Type} (G:β→W→W→Int) (x:W):∀ l:List β,Sp (fun y z=>isum (l.map fun p=>G p y z)) x=isum (l.map fun p=>Sp (G p) x)
  | []=>by rw [isum_nil];exact Sp_zero x _ fun _ _=>rfl
  | p :: l=>by
    rw [isum_cons,← Sp_isum G x l,← Sp_add]
    rfl
theorem Sp_one (a b:Int) (v:W):∀ (x u:W),Sp (fun y z=>(if u=y then a else 0) * (if v=z then b else 0)) x=if x=u++v then a * b else 0
  | [],u=>by
    rw [Sp_n]
    cases u with
    | nil =>
      by_cases e:v=[]
      · rw [e];simp
      · rw [if_pos rfl,if_neg e,if_neg (fun y=>e y.symm),Int.mul_zero]
    | cons c u=>rw [if_neg (by simp),Int.zero_mul,if_neg (by simp)]
  | c :: x,u=>by
    rw [Sp_c]
    cases u with
    | nil =>
      rw [Sp_zero x _ fun y z=>by rw [if_neg (by simp),Int.zero_mul],Int.add_zero,if_pos rfl]
      by_cases e:v=c :: x
      · rw [if_pos e,if_pos (by rw [e];rfl)]
      · rw [if_neg e,if_neg (fun y=>e y.symm),Int.mul_zero]
    | cons d u =>
      rw [if_neg (by simp),Int.zero_mul,Int.zero_add]
      by_cases e:d=c
      · subst e
        have h:∀ y:W,(d :: u=d :: y)=(u=y):=fun y=>by simp
        rw [Sp_congr x _ (fun y z=>(if u=y then a else 0) * (if v=z then b else 0)) fun y z _=>by simp only [h y],Sp_one a b v x u]
        have h2:(x=u++v)=(d :: x=d :: u++v):=by simp
        simp only [h2]
      · rw [Sp_zero x _ fun y z=>by rw [if_neg (by simp [e]),Int.zero_mul],if_neg]
        intro y
        exact e (List.cons.inj y).1.symm
end sums
variable {α:Type} [DecidableEq α]
theorem val_isum {d:D α} (hn:(keys d).Nodup) (w:α):val d w=isum (d.map fun p=>if p.1=w then p.2 else 0):=by
  induction d with
  | nil=>rfl
  | cons p r ih =>
    have hn':(keys r).Nodup:=(List.nodup_cons.mp hn).2
    have hp:p.1 ∉ keys r:=(List.nodup_cons.mp hn).1
    rw [isum_cons,← ih hn']
    unfold val
    by_cases e:p.1=w
    · rw [if_pos e,look_pos e]
      have:look r w=none:=look_none.mpr (by rw [← e];exact hp)
      rw [this]
      simp
    · rw [if_neg e,look_neg e]
      simp
structure Iso (op:α→α→α) (L:α→W) (M:W→α):Prop where
  lm:∀ w,L (M w)=w
  ml:∀ x,M (L x)=x
  cat:∀ x y,L (op x y)=L x++L y
noncomputable def fn (M:W→α) (d:D α):F:=fun x=>val d (M x)
theorem perm_val {d e:D α} (hd:(keys d).Nodup) (h:d.Perm e) (w:α):val d w=val e w:=by
  have he:(keys e).Nodup:=(List.Perm.nodup_iff (show (keys d).Perm (keys e) from List.Perm.map (fun p:α×Int=>p.1) h)).mp hd
  rw [val_isum hd,val_isum he]
  exact isum_perm (h.map _)
section
variable {op:α→α→α} {L:α→W} {M:W→α}
theorem Iso.eq (I:Iso op L M) {x:α} {w:W}:x=M w↔L x=w:=⟨fun e=>by rw [e,I.lm],fun e=>by rw [← e,I.ml]⟩
theorem Iso.inj (I:Iso op L M) {x y:α} (e:L x=L y):x=y:=by rw [← I.ml x,← I.ml y,e]
theorem fn_isum (I:Iso op L M) {d:D α} (hn:(keys d).Nodup) (x:W):fn M d x=isum (d.map fun p=>if L p.1=x then p.2 else 0):=by
  unfold fn
  rw [val_isum hn]
  refine isum_map_congr fun p _=>?_
  have:(p.1=M x)=(L p.1=x):=propext I.eq
  simp only [this]
theorem cv_fn (I:Iso op L M) {a b:D α} (ha:(keys a).Nodup) (hb:(keys b).Nodup) (x:W):cv (fn M a) (fn M b) x=isum (a.map fun p=>isum (b.map fun q=>if x=L p.1++L q.1 then p.2 * q.2 else 0)):=by
  unfold cv
  rw [Sp_congr x _ (fun y z=>isum (a.map fun p=>isum (b.map fun q=>(if L p.1=y then p.2 else 0) * (if L q.1=z then q.2 else 0)))) fun y z _=>by rw [fn_isum I ha,fn_isum I hb,isum_prod],Sp_isum]
  refine isum_map_congr fun p _=>?_
  rw [Sp_isum]
  refine isum_map_congr fun q _=>?_
  exact Sp_one p.2 q.2 (L q.1) x (L p.1)
theorem fn_fold (I:Iso op L M) {a b:D α} (ha:(keys a).Nodup) (hb:(keys b).Nodup) (x:W):fn M (foldL op a b) x=cv (fn M a) (fn M b) x + (-1) * cv (fn M b) (fn M a) x:=by
  rw [cv_fn I ha hb,cv_fn I hb ha,isum_comm (fun (q p:α×Int)=>if x=L q.1++L p.1 then q.2 * p.2 else 0) a b,← isum_mul,← isum_add]
  show val (foldL op a b) (M x)=_
  rw [val_foldL]
  refine isum_map_congr fun p _=>?_
  rw [← isum_mul,← isum_add]
  refine isum_map_congr fun q _=>?_
  unfold gv
  have h1:(M x=op p.1 q.1)=(x=L p.1++L q.1):=propext ⟨fun e=>by rw [← I.cat,← e,I.lm],fun e=>by rw [e,← I.cat,I.ml]⟩
  have h2:(M x=op q.1 p.1)=(x=L q.1++L p.1):=propext ⟨fun e=>by rw [← I.cat,← e,I.lm],fun e=>by rw [e,← I.cat,I.ml]⟩
  simp only [h1,h2]
  congr 1
  by_cases e:x=L q.1++L p.1
  · rw [if_pos e,if_pos e,Int.mul_comm q.2];omega
  · rw [if_neg e,if_neg e];rfl
noncomputable def Lt (L:α→W):Br α→Prop
  | .leaf x=>∃ c,L x=[c]
  | .node a b=>Lt L a∧Lt L b
theorem lie_cL (I:Iso op L M):∀ {b:Br α},Lt L b→Lie (fn M (cL op b))
  | .leaf y,⟨c,h⟩=>(Lie.letter c).congr fun x=>by
    show (if x=[c] then (1:Int) else 0)=val [(y,(1:Int))] (M x)
    unfold val
    by_cases e:x=[c]
    · rw [if_pos e,look_pos (by rw [e,← h,I.ml])];rfl
    · rw [if_neg e,look_neg (fun q=>e (by have q:y=M x:=q;rw [I.eq,h] at q;exact q.symm))];rfl
  | .node a b,⟨ha,hb⟩=>((lie_cL I ha).bracket (lie_cL I hb)).congr fun x=>(fn_fold I (nd_cL a) (nd_cL b) x).symm
theorem lie_isum {β:Type} {f:β→F}:∀ {l:List β},(∀ p∈l,Lie (f p))→Lie (fun x=>isum (l.map fun p=>f p x))
  | [],_=>Lie.zero
  | p :: l,h=>((h p (List.mem_cons_self ..)).add (lie_isum fun q hq=>h q (List.mem_cons_of_mem _ hq))).congr fun _=>rfl
theorem key_val {d:D α} {x:α} (h:val d x≠0):x∈keys d:=by
  refine Classical.byContradiction fun y=>h ?_
  unfold val
  rw [look_none.mpr y]
  rfl
noncomputable def words:Nat→List W
  | 0=>[[]]
  | n + 1=>(words n).flatMap fun w=>[97 :: w,98 :: w,99 :: w]
theorem mem_words:∀ (w:W),(∀ c∈w,c∈[97,98,99])→w∈words w.length
  | [],_=>List.mem_singleton.mpr rfl
  | a :: w,h=>by
    refine List.mem_flatMap.mpr ⟨w,mem_words w fun c hc=>h c (List.mem_cons_of_mem _ hc),?_⟩
    have:=h a (List.mem_cons_self ..)
    simp only [List.mem_cons,List.not_mem_nil,or_false] at this
    rcases this with rfl | rfl | rfl <;> simp
theorem filter_lt {β:Type} {p q:β→Bool}:∀ {l:List β},(∀ x∈l,p x=true→q x=true)→(∃ x∈l,q x=true∧p x=false)→(l.filter p).length < (l.filter q).length
  | [],_,⟨x,h,_⟩=>by cases h
  | y :: l,h,⟨x,hx,h1,h2⟩=>by
    have le:∀ {l:List β},(∀ x∈l,p x=true→q x=true)→(l.filter p).length≤(l.filter q).length:=by
      intro l
      induction l with
      | nil=>intro _;exact Nat.le_refl _
      | cons y l ih =>
        intro h
        have i:=ih fun x hx=>h x (List.mem_cons_of_mem _ hx)
        have hy:=h y (List.mem_cons_self ..)
        rw [List.filter_cons,List.filter_cons]
        by_cases e:p y=true
        · rw [if_pos e,if_pos (hy e)];simpa using i
        · rw [if_neg e]
          split
          · exact Nat.le_succ_of_le i
          · exact i
    have hl:∀ x∈l,p x=true→q x=true:=fun x hx=>h x (List.mem_cons_of_mem _ hx)
    rw [List.filter_cons,List.filter_cons]
    rcases List.mem_cons.mp hx with e | e
    · subst e
      rw [if_neg (by rw [h2];decide),if_pos h1]
      exact Nat.lt_succ_of_le (le hl)
    · have i:=filter_lt hl ⟨x,e,h1,h2⟩
      have hy:=h y (List.mem_cons_self ..)
      by_cases e:p y=true
      · rw [if_pos e,if_pos (hy e)];simpa using i
      · rw [if_neg e]
        split
        · exact Nat.lt_succ_of_lt i
        · exact i
noncomputable def meas (L:α→W) (n:Nat) (d:D α):Nat:=((words n).filter fun x=>(keys d).any fun y=>decide (¬ x < L y)).length
structure PBk (op:α→α→α) (L:α→W) (M:W→α) (br:α→Br α):Prop where
  one:∀ z,Pl (L z)→val (cL op (br z)) z=1
  late:∀ z,Pl (L z)→∀ x∈keys (cL op (br z)),¬ L x < L z
  perm:∀ z,Pl (L z)→∀ x∈keys (cL op (br z)),(L x).Perm (L z)
  lie:∀ z,Pl (L z)→Lie (fn M (cL op (br z)))
noncomputable def made (op:α→α→α) (br:α→Br α) (f:D α) (x:α):Int:=isum (f.map fun p=>p.2 * val (cL op (br p.1)) x)
structure RI (op:α→α→α) (L:α→W) (M:W→α) (br:α→Br α) (m:W) (P0:D α) (f d:D α):Prop where
  nd:(keys d).Nodup
  nz:NZ d
  lie:Lie (fn M P0)→Lie (fn M d)
  per:∀ x∈keys d,(L x).Perm m
  ndf:(keys f).Nodup
  nzf:NZ f
  plf:∀ x∈keys f,Pl (L x)∧(L x).Perm m
  sep:∀ x∈keys f,∀ y∈keys d,L x < L y
  sum:∀ x,val P0 x=val d x + made op br f x
theorem RI.start {br:α→Br α} {m:W} {d:D α} (nd:(keys d).Nodup) (nz:NZ d) (per:∀ x∈keys d,(L x).Perm m):RI op L M br m d [] d :=
  { nd:=nd,nz:=nz,lie:=fun h=>h,per:=per,ndf:=List.nodup_nil,nzf:=fun p h=>(by cases h),plf:=fun x h=>(by cases h),sep:=fun x h=>(by cases h),sum:=fun x=>(by show _=_ + (0:Int);omega) }
theorem RI.plain {br:α→Br α} {m:W} {P0 f d:D α} (I:Iso op L M) (R:RI op L M br m P0 f d) (lp:Lie (fn M P0)) (hm:∀ c∈m,c∈[97,98,99]) (h8:m.length≤8) {w:α} (hw:w∈keys d) (hl:∀ y∈keys d,¬ L y < L w):Pl (L w):=by
  have p:=R.per w hw
  refine least_plain (P:=fn M d) (tab8 _ (by rw [p.length_eq];exact h8)) (fun c hc=>hm c (p.mem_iff.mp hc)) (R.lie lp) ?_ fun x hx=>?_
  · show val d (M (L w))≠0
    rw [I.ml]
    exact R.nz.val R.nd hw
  · refine Classical.byContradiction fun y=>hl (M x) (key_val y) ?_
    rw [I.lm];exact hx
theorem RI.step {br:α→Br α} {m:W} {P0 f d d':D α} (I:Iso op L M) (B:PBk op L M br) (R:RI op L M br m P0 f d) (hm:∀ c∈m,c∈[97,98,99]) {w:α} (pl:Pl (L w)) (hw:w∈keys d) (hl:∀ y∈keys d,¬ L y < L w)
    (nd':(keys d').Nodup) (nz':NZ d') (hv:∀ x,val d' x=val d x + (-val d w) * val (cL op (br w)) x):w ∉ keys f∧RI op L M br m P0 (f++[(w,val d w)]) d'∧meas L m.length d' < meas L m.length d:=by
  have hv0:val d w≠0:=R.nz.val R.nd hw
  have v0:val d' w=0:=by rw [hv,B.one w pl];omega
  have key':∀ x∈keys d',L w < L x∧(L x).Perm m:=fun x hx=>by
    have hn:val d' x≠0:=nz'.val nd' hx
    have h1:¬ L x < L w∧(L x).Perm m:=by
      by_cases e:val d x=0
      · have e2:val (cL op (br w)) x≠0:=fun z=>by rw [hv,e,z] at hn;simp at hn
        have k:=key_val e2
        exact ⟨B.late w pl x k,(B.perm w pl x k).trans (R.per w hw)⟩
      · exact ⟨hl x (key_val e),R.per x (key_val e)⟩
    refine ⟨?_,h1.2⟩
    rcases MW.tri (L w) (L x) with z | z | z
    · exact z
    · have:=I.inj z
      subst this
      exact absurd v0 hn
    · exact absurd z h1.1
  have nw:w ∉ keys f:=fun h=>MW.lt_irrefl _ (R.sep w h w hw)
  refine ⟨nw,⟨nd',nz',?_,fun x hx=>(key' x hx).2,?_,?_,?_,?_,fun x=>?_⟩,?_⟩
  · exact fun lp=>((R.lie lp).add ((B.lie w pl).mul (-val d w))).congr fun x=>(hv (M x)).symm
  · show ((f++[(w,val d w)]).map (·.1)).Nodup
    rw [List.map_append]
    refine List.nodup_append.mpr ⟨R.ndf,by simp,fun a ha b hb=>?_⟩
    have:b=w:=by simpa using hb
    rw [this]
    intro e
    rw [e] at ha
    exact nw ha
  · intro p hp
    rcases List.mem_append.mp hp with h | h
    · exact R.nzf p h
    · have:p=(w,val d w):=by simpa using h
      rw [this];exact hv0
  · intro x hx
    have hx:x∈keys f++[w]:=by simpa [keys] using hx
    rcases List.mem_append.mp hx with h | h
    · exact R.plf x h
    · have:x=w:=by simpa using h
      rw [this];exact ⟨pl,R.per w hw⟩
  · intro x hx y hy
    have hx:x∈keys f++[w]:=by simpa [keys] using hx
    rcases List.mem_append.mp hx with h | h
    · exact MW.lt_trans (R.sep x h w hw) (key' y hy).1
    · have:x=w:=by simpa using h
      rw [this];exact (key' y hy).1
  · rw [R.sum x,hv x]
    unfold made
    rw [List.map_append,isum_append]
    show _=_ + (_ + (val d w * val (cL op (br w)) x + 0))
    rw [Int.neg_mul]
    omega
  · have pm:=R.per w hw
    refine filter_lt (fun x _ h=>?_) ⟨L w,?_,?_,?_⟩
    · obtain ⟨y,hy,h⟩:=List.any_eq_true.mp h
      have h:¬ x < L y:=of_decide_eq_true h
      exact List.any_eq_true.mpr ⟨w,hw,decide_eq_true fun z=>h (MW.lt_trans z (key' y hy).1)⟩
    · rw [← pm.length_eq]
      exact mem_words _ fun c hc=>hm c (pm.mem_iff.mp hc)
    · exact List.any_eq_true.mpr ⟨w,hw,decide_eq_true (MW.lt_irrefl _)⟩
    · refine Bool.eq_false_iff.mpr fun h=>?_
      obtain ⟨y,hy,h⟩:=List.any_eq_true.mp h
      exact (of_decide_eq_true h:¬ L w < L y) (key' y hy).1
noncomputable def dd:List α→List α
  | []=>[]
  | a :: l=>if a∈dd l then dd l else a :: dd l
variable {κ:Type} [DecidableEq κ]
noncomputable def gput (sk:α→κ) (G:List (κ×D α)) (p:α×Int):List (κ×D α) :=
  if (G.any fun e=>decide (e.1=sk p.1))=true then G.map (fun e=>if e.1=sk p.1 then (e.1,put e.2 p.1 p.2) else e) else G++[(sk p.1,[p])]
structure GI (sk:α→κ) (G:List (κ×D α)) (x:D α):Prop where
  nd:(G.map (·.1)).Nodup
  part:∀ e∈G,e.2=x.filter fun p=>decide (sk p.1=e.1)
  all:∀ p∈x,∃ e∈G,e.1=sk p.1
theorem GI.nil (sk:α→κ):GI sk [] ([]:D α):=⟨List.nodup_nil,fun e h=>(by cases h),fun p h=>(by cases h)⟩
theorem GI.step {sk:α→κ} {G:List (κ×D α)} {x:D α} (g:GI sk G x) {p:α×Int} (hp:p.1 ∉ keys x):GI sk (gput sk G p) (x++[p]):=by
  unfold gput
  split
  · rename_i h
    obtain ⟨e0,he0,hk0⟩:=List.any_eq_true.mp h
    have hk0:e0.1=sk p.1:=of_decide_eq_true hk0
    refine ⟨?_,fun e he=>?_,fun q hq=>?_⟩
    · have:(G.map (fun e=>if e.1=sk p.1 then (e.1,put e.2 p.1 p.2) else e)).map (·.1)=G.map (·.1):=by
        rw [List.map_map]
        refine List.map_congr_left fun e _=>?_
        show (if e.1=sk p.1 then (e.1,put e.2 p.1 p.2) else e).1=e.1
        split <;> rfl
      rw [this];exact g.nd
    · obtain ⟨e1,h1,e2⟩:=List.mem_map.mp he
      rw [List.filter_append]
      by_cases z:e1.1=sk p.1
      · rw [if_pos z] at e2
        subst e2
        show put e1.2 p.1 p.2=_
        have hn:p.1 ∉ keys e1.2:=fun y=>by
          rw [g.part e1 h1] at y
          obtain ⟨r,hr,er⟩:=List.mem_map.mp y
          exact hp (List.mem_map.mpr ⟨r,(List.mem_filter.mp hr).1,er⟩)
        rw [put_new _ hn,g.part e1 h1]
        congr 1
        rw [List.filter_cons,if_pos (decide_eq_true z.symm)]
        rfl
      · rw [if_neg z] at e2
        subst e2
        rw [List.filter_cons,if_neg (by simpa using fun y=>z y.symm),g.part e1 h1]
        simp
    · rcases List.mem_append.mp hq with y | y
      · obtain ⟨e,he,hk⟩:=g.all q y
        refine ⟨_,List.mem_map.mpr ⟨e,he,rfl⟩,?_⟩
        split <;> exact hk
      · have:q=p:=by simpa using y
        subst this
        refine ⟨_,List.mem_map.mpr ⟨e0,he0,rfl⟩,?_⟩
        split <;> exact hk0
  · rename_i h
    have hno:∀ e∈G,e.1≠sk p.1:=fun e he y=>h (List.any_eq_true.mpr ⟨e,he,decide_eq_true y⟩)
    refine ⟨?_,fun e he=>?_,fun q hq=>?_⟩
    · rw [List.map_append]
      refine List.nodup_append.mpr ⟨g.nd,by simp,fun a ha b hb=>?_⟩
      obtain ⟨e,he,rfl⟩:=List.mem_map.mp ha
      have:b=sk p.1:=by simpa using hb
      rw [this];exact hno e he
    · rw [List.filter_append]
      rcases List.mem_append.mp he with y | y
      · rw [List.filter_cons,if_neg (by simpa using fun z=>hno e y z.symm),g.part e y]
        simp
      · have:e=(sk p.1,[p]):=by simpa using y
        subst this
        have:x.filter (fun q=>decide (sk q.1=sk p.1))=[]:=List.filter_eq_nil_iff.mpr fun q hq z=>by
          obtain ⟨e,he,hk⟩:=g.all q hq
          exact hno e he (hk.trans (of_decide_eq_true z))
        rw [this,List.filter_cons,if_pos (decide_eq_true rfl)]
        rfl
    · rcases List.mem_append.mp hq with y | y
      · obtain ⟨e,he,hk⟩:=g.all q y
        exact ⟨e,List.mem_append_left _ he,hk⟩
      · have:q=p:=by simpa using y
        subst this
        exact ⟨_,List.mem_append_right _ (List.mem_singleton.mpr rfl),rfl⟩
theorem val_filter {x:D α} (h:(keys x).Nodup) (f:α→Bool) (w:α):val (x.filter fun p=>f p.1) w=if f w=true then val x w else 0:=by
  rw [val_isum (nd_filter h _),val_isum h]
  clear h
  induction x with
  | nil=>simp [isum]
  | cons p r ih =>
    rw [List.filter_cons]
    by_cases e:p.1=w
    · by_cases z:f p.1=true
      · rw [if_pos z,isum_cons,isum_cons,ih,if_pos e,← e,if_pos z,if_pos z]
      · rw [if_neg z,ih,← e,if_neg z,if_neg z]
    · by_cases z:f p.1=true
      · rw [if_pos z,isum_cons,isum_cons,ih,if_neg e,Int.zero_add,Int.zero_add]
      · rw [if_neg z,isum_cons,ih,if_neg e,Int.zero_add]
theorem GI.sum {sk:α→κ} {G:List (κ×D α)} {x:D α} (g:GI sk G x) (hx:(keys x).Nodup) (w:α):isum (G.map fun e=>val e.2 w)=val x w:=by
  have e1:isum (G.map fun e=>val e.2 w)=isum (G.map fun e=>if e.1=sk w then val x w else 0):=isum_map_congr fun e he=>by
    rw [g.part e he,val_filter hx (fun a=>decide (sk a=e.1)) w]
    by_cases z:e.1=sk w
    · rw [if_pos z,if_pos (decide_eq_true z.symm)]
    · rw [if_neg z,if_neg (by simpa using fun y=>z y.symm)]
  rw [e1]
  by_cases z:val x w=0
  · rw [z]
    exact isum_nought fun e _=>by split <;> rfl
  · obtain ⟨p,hp,ep⟩:=List.mem_map.mp (key_val z)
    obtain ⟨e,he,hk⟩:=g.all p hp
    have ep:p.1=w:=ep
    rw [ep] at hk
    have:∀ {G:List (κ×D α)},(G.map (·.1)).Nodup→e∈G→isum (G.map fun e=>if e.1=sk w then val x w else 0)=val x w:=by
      intro G
      induction G with
      | nil=>intro _ h;cases h
      | cons u U ih =>
        intro hU hm
        rw [List.map_cons] at hU
        have hu:=List.nodup_cons.mp hU
        rw [isum_cons]
        by_cases y:u.1=sk w
        · rw [if_pos y,isum_nought fun q hq=>if_neg fun z=>hu.1 (by rw [y,← z];exact List.mem_map.mpr ⟨q,hq,rfl⟩)]
          omega
        · rw [if_neg y,Int.zero_add]
          refine ih hu.2 ((List.mem_cons.mp hm).resolve_left fun z=>y (by rw [← z];exact hk))
    exact this g.nd he
end
end MD
end
section
namespace MP
open MW (Pl W)
open ML
noncomputable def plf:W→Bool
  | []=>false
  | a :: r=>ends (a :: r) r
end MP
end
section
namespace MJ
open MW (Pl W)
open ML MD Wm
noncomputable def bk (P Q:F):F:=fun x=>cv P Q x + (-1) * cv Q P x
variable {α:Type} [DecidableEq α] {op:α→α→α} {L:α→W} {M:W→α}
end MJ
end
section
namespace MH
noncomputable abbrev W:=List Nat
noncomputable def Wf (ls:List Nat):Nat→List W
  | 0=>[[]]
  | n + 1=>ls.flatMap fun l=>(Wf ls n).map fun w=>l :: w
noncomputable def psL:Nat→Int→Int→Int→Int
  | 0,_,sign,_=>sign
  | k + 1,p,sign,rest=>if rest % p=0 then (if rest / p % p=0 then 0 else psL k (p + 1) (-sign) (rest / p)) else psL k (p + 1) sign rest
noncomputable def ps (n:Nat):Int:=psL (n - 1) 2 1 n
noncomputable def hmS (k n:Nat):Nat→Int
  | 0=>0
  | i + 1=>if n % (i + 1)=0 then hmS k n i + ps (i + 1) * ((k ^ (n / (i + 1)):Nat):Int) else hmS k n i
noncomputable def hm (k n:Nat):Int:=hmS k n n / n
noncomputable def abc:List Nat:=[97,98,99]
theorem counts2:∀ k∈[1,2],∀ n∈List.range 8,hm k (n + 1)=(((Wf (abc.take k) (n + 1)).filter MW.pl).length:Int):=by decide +kernel
theorem counts3:∀ n∈List.range 6,hm 3 (n + 1)=(((Wf (abc.take 3) (n + 1)).filter MW.pl).length:Int):=by decide +kernel
theorem counts {k n:Nat} (h1:1≤k) (h3:k≤3) (n1:1≤n) (h8:n≤8) (h6:k=3→n≤6):hm k n=(((Wf (abc.take k) n).filter MW.pl).length:Int):=by
  obtain ⟨m,rfl⟩:∃ m,n=m + 1:=⟨n - 1,by omega⟩
  by_cases e:k=3
  · subst e
    exact counts3 m (List.mem_range.mpr (by have:=h6 rfl;omega))
  · exact counts2 k (by have : k = 1 ∨ k = 2 := by omega
                        rcases this with z | z <;> rw [z] <;> decide) m (List.mem_range.mpr (by omega))
end MH
end
section
namespace Wm
variable {α:Type} [DecidableEq α] {op:α→α→α} {ℓ:α→Nat}
theorem mem_put {d:D α} {w:α} {c:Int} {p:α×Int} (h:p∈put d w c):p.1=w∨p.1∈keys d:=by
  have q:p.1∈keys (put d w c):=List.mem_map.mpr ⟨p,h,rfl⟩
  rw [keys_put] at q
  split at q
  · exact .inr q
  · rcases List.mem_append.mp q with z | z
    · exact .inr z
    · exact .inl (by simpa using z)
noncomputable def AllW (R:α→Prop) (d:D α):Prop:=∀ w∈keys d,R w
theorem allW_nil {R:α→Prop}:AllW R ([]:D α):=fun w h=>by simp [keys] at h
theorem allW_put {R:α→Prop} {d:D α} {w:α} {c:Int} (h:AllW R d) (hw:R w):AllW R (put d w c):=fun x hx=>by
  obtain ⟨p,hp,rfl⟩:=List.mem_map.mp hx
  rcases mem_put hp with z | z
  · rw [z];exact hw
  · exact h _ z
theorem allW_filter {R:α→Prop} {d:D α} {f:α×Int→Bool} (h:AllW R d):AllW R (d.filter f):=fun x hx=>by
  obtain ⟨p,hp,rfl⟩:=List.mem_map.mp hx
  exact h _ (List.mem_map.mpr ⟨p,(List.mem_filter.mp hp).1,rfl⟩)
theorem allW_add {R:α→Prop} {d:D α} {w:α} {c:Int} (h:AllW R d) (hw:R w):AllW R (add d w c):=allW_put h hw
theorem keep_foldM {β:Type} {step:D α→β→D α} {P:D α→Prop}:∀ (l:List β) (d:D α),(∀ d p,p∈l→P d→P (step d p))→P d→P (l.foldl step d)
  | [],d,_,h=>h
  | p :: l,d,hs,h=>keep_foldM l _ (fun d q hq=>hs d q (List.mem_cons_of_mem _ hq)) (hs d p List.mem_cons_self h)
theorem allW_foldP {R S T:α→Prop} {a b:D α} (ha:AllW R a) (hb:AllW S b) (h1:∀ u v,R u→S v→T (op u v)) (h2:∀ u v,R u→S v→T (op v u)):AllW T (foldP op a b) :=
  keep_foldM (P:=AllW T) a [] (fun d p hp h=>keep_foldM (P:=AllW T) b d (fun d q hq h=>by
    have hp':=ha p.1 (List.mem_map.mpr ⟨p,hp,rfl⟩)
    have hq':=hb q.1 (List.mem_map.mpr ⟨q,hq,rfl⟩)
    exact allW_add (allW_add h (h1 _ _ hp' hq')) (h2 _ _ hp' hq')) h) allW_nil
noncomputable def Br.ok (R:α→Prop):Br α→Prop
  | .leaf x=>R x
  | .node a b=>a.ok R∧b.ok R
theorem wlen_cP (hop:∀ u v,ℓ (op u v)=ℓ u + ℓ v):∀ {b:Br α},b.ok (fun x=>ℓ x=1)→AllW (fun w=>ℓ w=b.wt) (cP op b)
  | .leaf x,h=>fun w hw=>by
    have e:w=x:=by simpa [cP,keys] using hw
    rw [e];exact h
  | .node a b,h=>by
    have h1:=wlen_cP hop (b:=a) h.1
    have h2:=wlen_cP hop (b:=b) h.2
    show AllW (fun w=>ℓ w=a.wt + b.wt) (twP op (cP op a) (cP op b))
    unfold twP
    rw [nz_eq (nd_foldP _ _)]
    refine allW_filter (allW_foldP h1 h2 (fun u v e1 e2=>?_) fun u v e1 e2=>?_)
    · rw [hop,e1,e2]
    · rw [hop,e1,e2];omega
theorem br_wt_pos (b:Br α):1≤b.wt:=by
  cases b with
  | leaf x=>exact Nat.le_refl _
  | node a b=>have:=br_wt_pos a;have:=br_wt_pos b;show 1≤a.wt + b.wt;omega
end Wm
namespace K01
open PySem PySem.Spec PyProof.Rows Tim L2 Wm
noncomputable abbrev cat:Str→Str→Str:=fun x y=>x++y
theorem len_cat (u v:Str):(cat u v).length=u.length + v.length:=by
  show (u.cps++v.cps).size=u.cps.size + v.cps.size
  simp
noncomputable def dk (d:D Str):List (Key×V):=d.map fun p=>(Sum.inr p.1,V.int p.2)
theorem dk_len (d:D Str):(dk d).length=d.length:=List.length_map _
theorem dk_val (d:D Str) (w:Str):valV (dk d) (Sum.inr w:Key)=(look d w).map V.int:=by
  induction d with
  | nil=>rfl
  | cons p r ih =>
    show valV ((Sum.inr p.1,V.int p.2) :: dk r) _=_
    by_cases e:p.1=w
    · rw [valV_pos (by rw [e]),look_pos e];rfl
    · rw [valV_neg (by intro z;exact e (Sum.inr.inj z)),look_neg e,ih]
theorem dk_any (d:D Str) (w:Str):((dk d).any fun kv=>decide (kv.1=(Sum.inr w:Key)))=d.any fun p=>decide (p.1=w):=by
  induction d with
  | nil=>rfl
  | cons p r ih =>
    show (decide ((Sum.inr p.1:Key)=Sum.inr w) || (dk r).any _)=(decide (p.1=w) || r.any _)
    rw [ih]
    congr 1
    simp
theorem dk_put (d:D Str) (w:Str) (c:Int):putK (dk d) (Sum.inr w:Key) (.int c)=dk (put d w c):=by
  unfold putK put
  rw [dk_any]
  split
  · unfold dk
    rw [List.map_map,List.map_map]
    refine List.map_congr_left fun p _=>?_
    show (if (Sum.inr p.1:Key)=Sum.inr w then _ else _)=_
    by_cases e:p.1=w
    · simp [e]
    · have e2:¬ (Sum.inr p.1:Key)=Sum.inr w:=fun z=>e (Sum.inr.inj z)
      simp [e,e2]
  · unfold dk
    rw [List.map_append]
    rfl
theorem dk_get {d:D Str} {i:Nat} {k:Key} {v:V} (e:(dk d)[i]? = some (k,v)):∃ p,d[i]? = some p∧k=Sum.inr p.1∧v = .int p.2:=by
  unfold dk at e
  rw [List.getElem?_map] at e
  cases q:d[i]? with
  | none=>rw [q] at e;cases e
  | some p=>rw [q] at e;cases e;exact ⟨p,rfl,rfl,rfl⟩
theorem dk_keys (d:D Str):(dk d).map (fun p=>kV p.1)=(keys d).map V.str:=by
  unfold dk keys
  rw [List.map_map,List.map_map]
  rfl
noncomputable def SX (x:Addr) (H H':Hp):Prop:=∀ b o,b≠x→H b=some o→H' b=some o
theorem sx_upd {H:Hp} {x:Addr} {o:HO}:SX x H (upd H x o):=fun b u n e=>by rw [upd_ne n];exact e
theorem _root_.L2.Same.sx {H H':Hp} {x:Addr} (h:Same H H'):SX x H H':=fun b o _ e=>h b o e
theorem SX.trans {H H1 H2:Hp} {x:Addr} (a:SX x H H1) (b:SX x H1 H2):SX x H H2:=fun c o n e=>b c o n (a c o n e)
theorem SX.same {H H1 H2:Hp} {x:Addr} (a:Same H H1) (hx:H x=none) (b:SX x H1 H2):Same H H2:=fun c o e=>b c o (ne_of_none e hx) (a c o e)
theorem new_same {H:Hp} {p:Addr} (h:H p=none) (o:HO):Same H (upd H p o):=fun b u q=>by rw [upd_ne (ne_of_none q h)];exact q
theorem upd_sx {H H':Hp} {x:Addr} {o:HO} (a:SX x H H'):SX x H (upd H' x o):=fun b u n e=>by rw [upd_ne n];exact a b u n e
theorem upd_same2 {H H':Hp} {x:Addr} {o:HO} (a:Same H H') (hx:H x=none):Same H (upd H' x o):=fun b u e=>by rw [upd_ne (ne_of_none e hx)];exact a b u e
noncomputable def Abc (x:Str):Prop:=∀ c∈x.cps.toList,c=97∨c=98∨c=99
noncomputable def BrV (H:Hp):Br Str→V→Prop
  | .leaf x,v=>v = .str x∧x.length=1∧Abc x
  | .node a b,v=>∃ p u w,v = .ref p∧H p=some (.tup [u,w])∧BrV H a u∧BrV H b w
theorem BrV.same {H H':Hp} (s:Same H H'):∀ {b:Br Str} {v:V},BrV H b v→BrV H' b v
  | .leaf x,v,h=>h
  | .node a b,v,⟨p,u,w,e,h,h1,h2⟩=>⟨p,u,w,e,s _ _ h,h1.same s,h2.same s⟩
theorem BrV.ok {H:Hp}:∀ {b:Br Str} {v:V},BrV H b v→b.ok (fun x=>x.length=1)
  | .leaf x,v,h=>h.2.1
  | .node a b,v,⟨p,u,w,e,h,h1,h2⟩=>⟨h1.ok,h2.ok⟩
end K01
end
section
namespace K01
open PySem PySem.Spec PyProof.Rows Tim L2 Wm
noncomputable def top (i:Nat):Stmt:=PySem.Challenge.pw_twistbrackets_k15_each_refusal_its_own.main.body.getD i (.Pass ⟨0,0,0,0⟩)
end K01
end
section
namespace K01
open PySem PySem.Spec PyProof.Rows Tim L2 Wm
structure Blt (mg:Str→Option Value):Prop where
  isi:mg "isinstance" = none
  str:mg "str" = none
  len:mg "len" = none
  lst:mg "list" = none
  tup:mg "tuple" = none
  int:mg "int" = none
  bool:mg "bool" = none
  srt:mg "sorted" = none
  rng:mg "range" = none
  zip:mg "zip" = none
  all:mg "all" = none
  min:mg "min" = none
  max:mg "max" = none
  dict:mg "dict" = none
  abs:mg "abs" = none
  sum:mg "sum" = none
  set:mg "set" = none
  enm:mg "enumerate" = none
  rev:mg "reversed" = none
  ve:mg "ValueError" = none
theorem bt_str:bootBuiltins "str" = some (.type "str"):=by decide +kernel
theorem bt_int:bootBuiltins "int" = some (.type "int"):=by decide +kernel
theorem bt_list:bootBuiltins "list" = some (.type "list"):=by decide +kernel
theorem bt_sorted:bootBuiltins "sorted" = some (.builtin "sorted"):=by decide +kernel
structure At (K:PySem.W.Frag) (mg:Str→Option Value) (x:Str) (st:Stmt) (ps:List Str) (f:Addr) (fd:FuncData):Prop where
  fn:Fun K x x st f fd
  b:Binds K fd ps []
  m:mg x=some (.ref f)
theorem At.k {K:PySem.W.Frag} {mg:Str→Option Value} {x:Str} {st:Stmt} {ps:List Str} {f:Addr} {fd:FuncData} (a:At K mg x st ps f fd):PySem.W.keepIn K (.ref f)=true:=a.fn.kp
section
variable {P:Program} {w:World} {K:PySem.W.Frag} {mg:Str→Option Value} {base:Heap} {f:Addr} {fd:FuncData}
theorem fn_zero {k:Nat} {ps:List Str} {sp:Sp} (no:∀ vs H Q E,¬ sp vs H Q E):FnOk P w K mg base CX0 k f fd ps sp :=
  ⟨fun vs H Q E h=>absurd h (no vs H Q E),fun A outer s H args us vs Q E _ _ _ _ h=>absurd h (no vs H Q E)⟩
end
end K01
end
section
namespace K01
open PySem PySem.Spec PyProof.Rows Tim L2 Wm
section
variable {P:Program} {w:World} {K:PySem.W.Frag} {mg:Str→Option Value} {base:Heap} {f:Addr} {fd:FuncData}
noncomputable def spAdd (g:D Str→Str→Int→D Str):Sp:=fun vs H Q _=>∃ (d:Addr) (w:Str) (c:Int) (x:D Str),vs=[.ref d,.str w,.int c]∧H d=some (.dK (dk x))∧x.length < sizeLine∧Q .non (upd H d (.dK (dk (g x w c))))
end
end K01
end
section
namespace K01
open PySem PySem.Spec PyProof.Rows Tim L2 Wm
section
variable {P:Program} {w:World} {K:PySem.W.Frag} {mg:Str→Option Value} {base:Heap} {f:Addr} {fd:FuncData}
theorem scAdd:FnScope ["counts","word","count"] ["counts","word","count"] (defScope (top 9)):=⟨rfl,rfl,rfl,by decide +kernel,rfl,by decide +kernel,by decide +kernel⟩
theorem ok_add (F:Fun K "add_count" "add_count" (top 9) f fd):FnOk P w K mg base CX0 1 f fd ["counts","word","count"] (spAdd add):=by
  refine F.ok scAdd (fun vs H Q E h=>?_) (fun cdv A outer s H vs Q E hr h=>?_)
  · obtain ⟨d,w,c,x,rfl,_⟩:=h
    rfl
  obtain ⟨d,w,c,x,rfl,hd,hz,q⟩:=h
  refine ⟨_,pss_one (ps_dput (hu_of hr) (pv 0) (pv 1) (pe_op op_add (pe_dget2 (hu_of hr) (pv 0) (pv 1) pe_int ⟨rfl,rfl,rfl,rfl⟩) (pv 2)) rfl),?_⟩
  refine ⟨_,rfl,d,rfl,.inl ⟨_,.inl hd⟩,_,rfl,_,DGet.k (k:=Sum.inr w) hd,_,rfl,val x w,c,?_,rfl,_,rfl,_,rfl,d,_,rfl,DPut.k (k:=Sum.inr w) hd (by rw [dk_len];exact hz),?_⟩
  · rw [dk_val];unfold val;cases look x w <;> rfl
  · rw [dk_put];exact q
noncomputable def spNz:Sp:=fun vs H Q _=>∃ (d:Addr) (x:D Str),vs=[.ref d]∧H d=some (.dK (dk x))∧x.length < sizeLine∧∀ r H',H r=none→SX d H H'→H' r=some (.dK (dk (nz x)))→Q (.ref r) H'
theorem scNz:FnScope ["counts","kept","word","count"] ["counts"] (defScope (top 10)):=⟨rfl,rfl,rfl,by decide +kernel,rfl,by decide +kernel,by decide +kernel⟩
noncomputable def nzS (x:D Str) (i:Nat):D Str:=(x.take i).foldl (fun k p=>if p.2≠0 then put k p.1 p.2 else k) []
theorem nzS_succ {x:D Str} {i:Nat} {p:Str×Int} (e:x[i]? = some p):nzS x (i + 1)=if p.2≠0 then put (nzS x i) p.1 p.2 else nzS x i:=by
  unfold nzS
  rw [List.take_add_one,e,List.foldl_append]
  rfl
theorem nzS_len (x:D Str) (i:Nat):(nzS x i).length≤i:=by
  unfold nzS
  have:=len_fold (step:=fun k p=>if p.2≠0 then put k p.1 p.2 else k) (k:=1) (fun (d:D Str) (p:Str×Int)=>by
    show (if p.2≠0 then put d p.1 p.2 else d).length≤d.length + 1
    split
    · exact len_put _ _ _
    · exact Nat.le_succ _) (x.take i) []
  have h2:=List.length_take_le i x
  rw [List.length_nil,Nat.mul_one,Nat.zero_add] at this
  exact Nat.le_trans this h2
theorem ok_nz (F:Fun K "without_noughts" "without_noughts" (top 10) f fd):FnOk P w K mg base CX0 1 f fd ["counts"] spNz:=by
  refine F.ok scNz (fun vs H Q E h=>?_) (fun cdv A outer s H vs Q E hr h=>?_)
  · obtain ⟨d,x,rfl,_⟩:=h
    rfl
  obtain ⟨d,x,rfl,hd,hz,q⟩:=h
  refine ⟨_,pss_cons (ps_set (i:=1) scNz.nd rfl (Or.inl rfl) pe_dnewK)
    (pss_cons (ps_for PassesOwn.never rfl (pi_items (pv 0)) (pg_tup rfl (pgs_cons (pg_name (i:=2) scNz.nd rfl (Or.inl rfl)) (pgs_cons (pg_name (i:=3) scNz.nd rfl (Or.inl rfl)) pgs_nil)))
      (pss_one (ps_if (pt_cmpR op_ne (pv 3) pe_int (nomark _)) (pss_one (ps_dput (hu_of hr) (pv 1) (pv 2) (pv 3) rfl)) pss_nil)))
    (pss_one (ps_ret (pv 1)))),?_⟩
  intro r hr0
  have ndr:d≠r:=ne_of_none hd hr0
  refine ⟨_,rfl,d,_,rfl,.inl ⟨by rw [upd_ne ndr];exact hd,fun o=>?_⟩⟩
  refine for_items (d:=d) (o:=o) (kvs:=dk x) (fun i σ H2=>∃ u v,σ=[some (.ref d),some (.ref r),u,v]∧SX d H H2∧H2 d=some (.frz o (.dK (dk x)))∧H2 r=some (.dK (dk (nzS x i)))) ?_ ?_ ?_ ?_
  · refine ⟨none,none,rfl,?_,upd_same,?_⟩
    · exact (new_same hr0 _).sx.trans sx_upd
    · rw [upd_ne ndr.symm,upd_same];rfl
  · rintro i σ H2 _ ⟨u,v,rfl,s1,h1,h2⟩
    exact h1
  · rintro i k v a σ H2 hi hn ⟨u0,v0,rfl,s1,h1,h2⟩
    obtain ⟨p,hp,rfl,rfl⟩:=dk_get hi
    have hil:i < x.length:=(List.getElem?_eq_some_iff.mp hp).1
    refine ⟨a,_,rfl,.inl (.inl upd_same),rfl,_,_,rfl,_,_,rfl,rfl,?_⟩
    have nad:d≠a:=ne_of_none h1 hn
    have nar:r≠a:=ne_of_none h2 hn
    have s2:SX d H (upd H2 a (.tup [kV (Sum.inr p.1),.int p.2])):=s1.trans (new_same hn _).sx
    refine ⟨_,rfl,rfl,_,rfl,?_⟩
    refine ite2 (fun e=>?_) (fun e=>?_)
    · have e:p.2≠0:=fun z=>by
        rw [z] at e;exact absurd e (by decide)
      refine ⟨_,rfl,_,rfl,_,rfl,r,_,rfl,DPut.k (k:=Sum.inr p.1) (kvs:=dk (nzS x i)) (by rw [upd_ne nar];exact h2) (by rw [dk_len];have:=nzS_len x i;omega),?_⟩
      refine ⟨_,_,rfl,fun b u n e=>?_,?_,?_⟩
      · rw [upd_ne (ne_of_none e hr0)];exact s2 b u n e
      · rw [upd_ne ndr,upd_ne nad];exact h1
      · rw [upd_same,dk_put,nzS_succ hp,if_pos e]
    · have e:¬ p.2≠0:=fun z=>e (by
        show (!decide (V.int p.2=V.int 0))=true
        rw [decide_eq_false (fun q=>z (V.int.inj q))];rfl)
      refine ⟨_,_,rfl,s2,?_,?_⟩
      · rw [upd_ne nad];exact h1
      · rw [upd_ne nar,h2,nzS_succ hp,if_neg e]
  · rintro σ H2 ⟨u,v,rfl,s1,h1,h2⟩
    refine ⟨_,rfl,q r H2 hr0 s1 ?_⟩
    rw [h2,dk_len]
    unfold nzS nz
    rw [List.take_length]
end
end K01
end
section
namespace K01
open PySem PySem.Spec PyProof.Rows Tim L2 Wm
section
variable {P:Program} {w:World} {K:PySem.W.Frag} {mg:Str→Option Value} {base:Heap} {f:Addr} {fd:FuncData}
end
end K01
end
section
namespace K01
open PySem PySem.Spec PyProof.Rows Tim L2 Wm
section
variable {P:Program} {w:World} {K:PySem.W.Frag} {mg:Str→Option Value} {base:Heap} {f fp ft fa fn fb fl:Addr} {fd pd td ad nd bd ld:FuncData}
end
end K01
end
section
namespace K01
open PySem PySem.Spec PyProof.Rows Tim L2 Wm
section
variable {P:Program} {w:World} {K:PySem.W.Frag} {mg:Str→Option Value} {base:Heap} {f fp ft fa fn fb fl:Addr} {fd pd td ad nd bd ld:FuncData}
end
end K01
end
section
namespace K01
open PySem PySem.Spec PyProof.Rows Tim L2 Wm
theorem mod_lt {i j:Int} (h:0 < j):0≤i % j∧i % j < j:=⟨Int.emod_nonneg _ (by omega),Int.emod_lt_of_pos _ h⟩
theorem p64:(2:Int) ^ 64=18446744073709551616:=by decide
theorem cmul_r {i j:Int} (h0:0≤j) (h:j < 18446744073709551616):CMul i j:=by
  have:=p64
  exact .inr ⟨by omega,by omega⟩
section
variable {P:Program} {w:World} {K:PySem.W.Frag} {mg:Str→Option Value} {base:Heap} {f fs fr fb fm fd' fc:Addr} {fd sd rd bd md dd cd:FuncData}
noncomputable def spStir:Sp:=fun vs H Q _=>∃ c:Int,vs=[.int c]∧∀ (i:Int) H',Same H H'→Q (.int i) H'
theorem scStir:FnScope ["cell","found","factor","mixed"] ["cell"] (defScope (top 48)):=⟨rfl,rfl,rfl,by decide +kernel,rfl,by decide +kernel,by decide +kernel⟩
theorem ok_stir (F:At K mg "_law_stir" (top 48) ["cell"] f fd):FnOk P w K mg base CX0 1 f fd ["cell"] spStir:=by
  refine F.fn.ok scStir (fun vs H Q E h=>?_) (fun cdv A outer s H vs Q E hr h=>?_)
  · obtain ⟨c,rfl,_⟩:=h
    rfl
  obtain ⟨c,rfl,q⟩:=h
  refine ⟨_,pss_cons (ps_set (i:=1) scStir.nd rfl (Or.inl rfl) pe_int)
    (pss_cons (ps_for PassesOwn.never rfl (pi_list (pe_lst (pa_cons pe_int (pa_cons pe_int (pa_cons pe_int (pa_cons pe_int pa_nil)))))) (pg_name (i:=2) scStir.nd rfl (Or.inl rfl))
      (pss_cons (ps_set (i:=3) scStir.nd rfl (Or.inl rfl) (pe_op op_mod (pe_op op_add (pe_op op_mul (pv 0) (pv 2)) pe_int) pe_int))
      (pss_cons (ps_set (i:=3) scStir.nd rfl (Or.inl rfl) (pe_op op_mod (pe_op op_mul (pe_op op_mod (pe_op op_mul (pv 3) (pv 3)) pe_int) pe_int) pe_int))
      (pss_one (ps_set (i:=1) scStir.nd rfl (Or.inl rfl) (pe_op op_add (pe_op op_mul (pv 1) (pe_op op_pow pe_int pe_int)) (pe_op op_fdiv (pv 3) pe_int)))))))
    (pss_one (ps_ret (pv 1)))),?_⟩
  refine ⟨by show 4≤sizeLine;decide,fun p np=>?_⟩
  refine ⟨p,rfl,⟨_,.inl (.inl upd_same)⟩,for_list (K:=K) (a:=p) (xs:=[.int 48271,.int 69621,.int 39373,.int 44488]) (fun i σ Hx=>∃ (g:Int) (x2 x3:Option V),σ=[some (.int c),some (.int g),x2,x3]∧Hx=upd H p (.lst [.int 48271,.int 69621,.int 39373,.int 44488])) ⟨0,none,none,rfl,rfl⟩ ?_ ?_ ?_⟩
  · rintro i σ Hx _ ⟨g,x2,x3,rfl,rfl⟩
    exact .inl (.inl upd_same)
  · rintro i v σ Hx hi ⟨g,x2,x3,rfl,rfl⟩
    obtain ⟨z,rfl,z0,z1⟩:∃ z:Int,v = .int z∧0≤z∧z < 100000:=by
      match i,hi with
      | 0,hi=>cases hi;exact ⟨_,rfl,by decide,by decide⟩
      | 1,hi=>cases hi;exact ⟨_,rfl,by decide,by decide⟩
      | 2,hi=>cases hi;exact ⟨_,rfl,by decide,by decide⟩
      | 3,hi=>cases hi;exact ⟨_,rfl,by decide,by decide⟩
      | n + 4,hi=>cases hi
    have m1:=mod_lt (i:=c * z + 7919) (j:=2147483647) (by decide)
    refine ⟨_,rfl,_,rfl,_,_,rfl,rfl,cmul_r z0 (by omega),_,_,rfl,rfl,_,_,rfl,rfl,(by show (0:Int) < _;decide),?_⟩
    refine ⟨_,rfl,_,rfl,_,_,rfl,rfl,cmul_r m1.1 (by omega),_,_,rfl,rfl,(by show (0:Int) < _;decide),_,_,rfl,rfl,cmul_r (by decide) (by decide),_,_,rfl,rfl,(by show (0:Int) < _;decide),?_⟩
    refine ⟨_,rfl,_,_,rfl,rfl,⟨by decide,by decide,by decide⟩,_,_,rfl,rfl,cmul_r (by decide) (by decide),_,rfl,_,_,rfl,rfl,⟨by decide,by decide⟩,_,_,rfl,rfl,?_⟩
    exact ⟨_,_,_,rfl,rfl⟩
  · rintro σ Hx ⟨g,x2,x3,rfl,rfl⟩
    exact ⟨_,rfl,q g _ (new_same np _)⟩
theorem at_script {ns:List Int} {k:Int} (h0:0≤k) (h:k < (ns.length:Int)):∃ v:Int,atI (ns.map V.int) k=some (.int v):=by
  have hk:k.toNat < ns.length:=by omega
  have ek:k=((k.toNat:Nat):Int):=by omega
  refine ⟨ns[k.toNat],?_⟩
  have q:atI (ns.map V.int) ((k.toNat:Nat):Int)=some (.int ns[k.toNat]):=atI_nat (by rw [List.getElem?_map,List.getElem?_eq_getElem hk] <;> rfl)
  rw [← ek] at q
  exact q
noncomputable def spCell (K:PySem.W.Frag):Sp:=fun vs H Q _=>∃ (a:Addr) (ns:List Int) (k:Int),vs=[.ref a,.int k]∧SqL K H a (ns.map V.int)∧0≤k∧∀ (i:Int) H',Same H H'→Q (.int i) H'
theorem scCell:FnScope ["script","k"] ["script","k"] (defScope (top 49)):=⟨rfl,rfl,rfl,by decide +kernel,rfl,by decide +kernel,by decide +kernel⟩
theorem ok_cell (T:Blt mg) (F:At K mg "_law_cell" (top 49) ["script","k"] f fd) (FS:At K mg "_law_stir" (top 48) ["cell"] fs sd):FnOk P w K mg base CX0 2 f fd ["script","k"] (spCell K):=by
  have GS:FnOk P w K mg base CX0 1 fs sd ["cell"] spStir:=ok_stir FS
  refine F.fn.ok scCell (fun vs H Q E h=>?_) (fun cdv A outer s H vs Q E hr h=>?_)
  · obtain ⟨a,ns,k,rfl,_⟩:=h
    rfl
  obtain ⟨a,ns,k,rfl,hS,h0,q⟩:=h
  refine ⟨_,pss_cons (ps_if (pt_cmpR op_lt (pv 1) (pe_callB call_len_seq rfl T.len PySem.boot_len (pa_cons (pv 0) pa_nil)) (nomark _)) (pss_one (ps_ret (pe_call GS hr rfl FS.m FS.k FS.b .nil pass0 (pa_cons (pe_ix ix_list (pv 0) (pv 1) (fun _ _=>rfl)) pa_nil)))) pss_nil)
    (pss_one (ps_ret (pe_call GS hr rfl FS.m FS.k FS.b .nil pass0 (pa_cons pe_int pa_nil)))),?_⟩
  refine ⟨_,rfl,_,rfl,a,_,rfl,.inl hS,_,_,rfl,rfl,_,rfl,?_⟩
  refine ite2 (fun c=>?_) (fun c=>?_)
  · have c:k < (((ns.map V.int).length:Nat):Int):=of_decide_eq_true c
    rw [List.length_map] at c
    obtain ⟨v,hv⟩:=at_script h0 c
    exact ⟨_,rfl,_,rfl,a,_,_,_,rfl,rfl,hS,hv,_,rfl,q⟩
  · exact ⟨_,rfl,q⟩
end
end K01
end
section
namespace K01
open PySem PySem.Spec PyProof.Rows Tim L2 Wm
theorem pow_le {a b:Nat} (h:a≤b):2 ^ a≤2 ^ b:=Nat.pow_le_pow_right (by decide) h
noncomputable def inP (b:D Str) (p:Str×Int) (d:D Str) (j:Nat):D Str:=(b.take j).foldl (stepP cat p) d
noncomputable def outP (a b:D Str) (i:Nat):D Str:=(a.take i).foldl (fun d p=>b.foldl (stepP cat p) d) []
theorem inP_succ {b:D Str} {p q:Str×Int} {d:D Str} {j:Nat} (e:b[j]? = some q):inP b p d (j + 1)=stepP cat p (inP b p d j) q:=by
  unfold inP;rw [List.take_add_one,e,List.foldl_append];rfl
theorem outP_succ {a b:D Str} {p:Str×Int} {i:Nat} (e:a[i]? = some p):outP a b (i + 1)=inP b p (outP a b i) b.length:=by
  unfold outP inP;rw [List.take_add_one,e,List.foldl_append,List.take_length];rfl
theorem outP_all (a b:D Str):outP a b a.length=foldP cat a b:=by unfold outP foldP;rw [List.take_length]
theorem inP_len (b:D Str) (p:Str×Int) (d:D Str) (j:Nat):(inP b p d j).length≤d.length + j * 2:=by
  have h:=len_fold (step:=stepP cat p) (k:=2) (fun d q=>len_stepP p q d) (b.take j) d
  have h2:=List.length_take_le j b
  unfold inP
  omega
theorem outP_len (a b:D Str) (i:Nat):(outP a b i).length≤i * (b.length * 2):=by
  have h:=len_fold (step:=fun d p=>b.foldl (stepP cat p) d) (k:=b.length * 2) (fun d p=>len_fold (fun d q=>len_stepP p q d) b d) (a.take i) []
  have h2:=List.length_take_le i a
  unfold outP
  rw [List.length_nil,Nat.zero_add] at h
  exact Nat.le_trans h (Nat.mul_le_mul_right _ h2)
theorem fill_lt {i j la lb:Nat} (hi:i < la) (hj:j < lb):i * (lb * 2) + j * 2 + 1 < la * (lb * 2):=by
  have h:(i + 1) * (lb * 2)≤la * (lb * 2):=Nat.mul_le_mul_right _ hi
  rw [Nat.add_mul] at h
  omega
theorem two_len {x y:Br Str} {a b:D Str} (ha:a.length≤2 ^ (x.wt - 1)) (hb:b.length≤2 ^ (y.wt - 1)) (h:x.wt + y.wt≤12):a.length * (b.length * 2)≤2048:=by
  have p1:=br_wt_pos x
  have p2:=br_wt_pos y
  have h1:a.length * (b.length * 2)≤2 ^ (x.wt - 1) * (2 ^ (y.wt - 1) * 2):=Nat.mul_le_mul ha (Nat.mul_le_mul_right _ hb)
  have h2:2 ^ (x.wt - 1) * (2 ^ (y.wt - 1) * 2)=2 ^ (x.wt - 1 + (y.wt - 1 + 1)):=by rw [Nat.pow_add,Nat.pow_add]
  have h3:2 ^ (x.wt - 1 + (y.wt - 1 + 1))≤2 ^ 11:=pow_le (by omega)
  omega
theorem mul_ok {x:Br Str} {c e:Int} (h:c.natAbs≤2 ^ (x.wt - 1)) (hx:x.wt≤12):CMul c e:=by
  have h3:2 ^ (x.wt - 1)≤2 ^ 11:=pow_le (by omega)
  refine .inl ⟨?_,?_⟩ <;> omega
theorem mul_ok2 {x:Br Str} {c e:Int} (h:c.natAbs≤2 ^ (x.wt - 1)) (hx:x.wt≤12):CMul e c:=(mul_ok (e:=e) h hx).symm
theorem fz_one' {J:Addr→Obj→List (Key×V)→It} {R:It→Hp→Prop} {H:Hp} {d:Addr} {kvs:List (Key×V)} (rd:Rd H d (.dK kvs)) (h:∀ o H',H' d=some (.frz o (.dK kvs))→(∀ b,b≠d→H' b=H b)→(∀ u,H d=some (.frz u (.dK kvs))→H'=H)→R (J d o kvs) H') :
    (H d=some (.dK kvs)∧∀ o,R (J d o kvs) (upd H d (.frz o (.dK kvs))))∨∃ o,H d=some (.frz o (.dK kvs))∧R (J d o kvs) H:=by
  rcases rd with e | ⟨o,e⟩
  · exact .inl ⟨e,fun o=>h o _ upd_same (fun b n=>upd_ne n) fun u q=>by rw [e] at q;cases q⟩
  · exact .inr ⟨o,e,h o H e (fun _ _=>rfl) fun _ _=>rfl⟩
theorem fz_var' {J:Addr→Obj→List (Key×V)→It} {R:It→Hp→Prop} {H:Hp} {d:Addr} {kvs:List (Key×V)} {i:Nat} {σ:L2.St} (e:σ[i]? = some (some (.ref d))) (rd:Rd H d (.dK kvs))
    (h:∀ o H',H' d=some (.frz o (.dK kvs))→(∀ b,b≠d→H' b=H b)→(∀ u,H d=some (.frz u (.dK kvs))→H'=H)→R (J d o kvs) H'):iFz J (tVar i) σ H R:=⟨_,e,d,kvs,rfl,fz_one' rd h⟩
theorem rd_inj {H:Hp} {d:Addr} {x y:List (Key×V)} (a:Rd H d (.dK x)) (b:Rd H d (.dK y)):x=y:=by
  rcases a with a | ⟨u,a⟩ <;> rcases b with b | ⟨v,b⟩ <;> rw [a] at b
  · exact HO.dK.inj (Option.some.inj b)
  · cases b
  · cases b
  · exact HO.dK.inj (HO.frz.inj (Option.some.inj b)).2
noncomputable def Kp2 (d1 d2:Addr) (a b:D Str) (H H':Hp):Prop:=(∀ x o,x≠d1→x≠d2→H x=some o→H' x=some o)∧Rd H' d1 (.dK (dk a))∧Rd H' d2 (.dK (dk b))
theorem loop_items' {i:Nat} {σ:L2.St} {H:Hp} {d:Addr} {kvs:List (Key×V)} {g:TG} {tb:TS} {D:Ends} (e:σ[i]? = some (some (.ref d))) (rd:Rd H d (.dK kvs)) (Pv:Obj→Nat→L2.St→Hp→Prop)
    (h0:∀ o H',H' d=some (.frz o (.dK kvs))→(∀ b,b≠d→H' b=H b)→(∀ u,H d=some (.frz u (.dK kvs))→H'=H)→Pv o 0 σ H') (hl:∀ o i σ H,Pv o i σ H→H d=some (.frz o (.dK kvs)))
    (hs:∀ o i k v a σ H,kvs[i]? = some (k,v)→H a=none→Pv o i σ H→g (.ref a) σ (upd H a (.tup [kV k,v])) fun σ2 H2=>tb { D with nx:=Pv o (i + 1),ct:=Pv o (i + 1),bk:=D.nx } σ2 H2) (hd:∀ o σ H,Pv o kvs.length σ H→D.nx σ H) :
    tFor (iFz Iti (tVar i)) g tb D σ H:=by
  unfold tFor
  refine fz_var' e rd fun o H' e1 e2 e3=>?_
  exact for_items (d:=d) (o:=o) (kvs:=kvs) (g:=g) (tb:=tb) (D:=D) (Pv o) (h0 o H' e1 e2 e3) (fun i σ H _ p=>hl o i σ H p) (hs o) (hd o)
theorem op_mulG {X:Cx}:OpR X (binaryOp .Mult) (rI IntMulOk fun i j=>.int (i * j)):=opI fun _ _ _ _ _ _ _ hc q=>mul_int q hc
theorem rd_same {H H':Hp} {a:Addr} {o:HO} (s:Same H H') (h:Rd H a o):Rd H' a o:=by
  rcases h with h | ⟨u,h⟩
  · exact .inl (s _ _ h)
  · exact .inr ⟨u,s _ _ h⟩
theorem rd_ne {H:Hp} {a b:Addr} {o:HO} {kvs:List (Key×V)} (h:Rd H a (.dK kvs)) (hb:H b=none):a≠b:=by
  rcases h with h | ⟨u,h⟩
  · exact ne_of_none h hb
  · exact ne_of_none h hb
section
variable {P:Program} {w:World} {K:PySem.W.Frag} {mg:Str→Option Value} {base:Heap} {f fa fn ft:Addr} {fd ad nd td:FuncData}
noncomputable def spBc (g:Br Str→D Str) (n:Nat):Sp:=fun vs H Q _=>∃ (b:Br Str) (v:V),vs=[v]∧BrV H b v∧b.wt≤n∧b.wt≤12∧∀ r H',H r=none→Same H H'→H' r=some (.dK (dk (g b)))→Q (.ref r) H'
noncomputable def inS (ad:D Str→Str→Int→D Str) (b:D Str) (c:Int) (d:D Str) (j:Nat):D Str:=(b.take j).foldl (fun d q=>ad d q.1 (c * q.2)) d
theorem inS_succ {ad:D Str→Str→Int→D Str} {b:D Str} {c:Int} {q:Str×Int} {d:D Str} {j:Nat} (e:b[j]? = some q):inS ad b c d (j + 1)=ad (inS ad b c d j) q.1 (c * q.2):=by
  unfold inS;rw [List.take_add_one,e,List.foldl_append];rfl
theorem inS_len {ad:D Str→Str→Int→D Str} (ha:∀ d w c,(ad d w c).length≤d.length + 1) (b:D Str) (c:Int) (d:D Str) (j:Nat):(inS ad b c d j).length≤d.length + j:=by
  have h:=len_fold (step:=fun d (q:Str×Int)=>ad d q.1 (c * q.2)) (k:=1) (fun d q=>ha d q.1 _) (b.take j) d
  have h2:=List.length_take_le j b
  unfold inS
  omega
end
end K01
end
section
namespace K01
open PySem PySem.Spec PyProof.Rows Tim L2 Wm
section
variable {P:Program} {w:World} {K:PySem.W.Frag} {mg:Str→Option Value} {base:Heap} {f fa fn ft:Addr} {fd ad nd td:FuncData}
noncomputable def spTwP:Sp:=fun vs H Q _=>∃ (d1 d2:Addr) (a b:D Str),vs=[.ref d1,.ref d2]∧Rd H d1 (.dK (dk a))∧Rd H d2 (.dK (dk b))∧a.length * (b.length * 2) < sizeLine ∧
  (∀ p∈a,∀ q∈b,p.1.length + q.1.length≤sizeLine∧IntMulOk p.2 q.2)∧∀ r H',H r=none→Kp2 d1 d2 a b H H'→H' r=some (.dK (dk (twP cat a b)))→Q (.ref r) H'
theorem scTwP:FnScope ["first","second","counts","ahead","ahead_count","behind","behind_count","product"] ["first","second"] (defScope (top 7)):=⟨rfl,rfl,rfl,by decide +kernel,rfl,by decide +kernel,by decide +kernel⟩
theorem ok_twP (F:At K mg "twisted" (top 7) ["first","second"] f fd) (FA:At K mg "add_count" (top 9) ["counts","word","count"] fa ad) (FN:At K mg "without_noughts" (top 10) ["counts"] fn nd) :
    FnOk P w K mg base CX0 2 f fd ["first","second"] spTwP:=by
  have GA:FnOk P w K mg base CX0 1 fa ad ["counts","word","count"] (spAdd add):=ok_add FA.fn
  have GN:FnOk P w K mg base CX0 1 fn nd ["counts"] spNz:=ok_nz FN.fn
  refine F.fn.ok scTwP (fun vs H Q E h=>?_) (fun cdv A outer s H vs Q E hr h=>?_)
  · obtain ⟨d1,d2,a,b,rfl,_⟩:=h
    rfl
  obtain ⟨r1,r2,a,b,rfl,e1,e2,hAB,hw,q⟩:=h
  have hr1:Room 1 _:=hr.mono (by omega)
  refine ⟨_,pss_cons (ps_set (i:=2) scTwP.nd rfl (Or.inl rfl) pe_dnewK)
    (pss_cons (ps_for PassesOwn.never rfl (pi_items (pv 0)) (pg_tup rfl (pgs_cons (pg_name (i:=3) scTwP.nd rfl (Or.inl rfl)) (pgs_cons (pg_name (i:=4) scTwP.nd rfl (Or.inl rfl)) pgs_nil)))
      (pss_one (ps_for PassesOwn.never rfl (pi_items (pv 1)) (pg_tup rfl (pgs_cons (pg_name (i:=5) scTwP.nd rfl (Or.inl rfl)) (pgs_cons (pg_name (i:=6) scTwP.nd rfl (Or.inl rfl)) pgs_nil)))
        (pss_cons (ps_set (i:=7) scTwP.nd rfl (Or.inl rfl) (pe_op op_mulG (pv 4) (pv 6)))
        (pss_cons (ps_expr (pe_call GA hr1 rfl FA.m FA.k FA.b .nil pass0 (pa_cons (pv 2) (pa_cons (pe_op op_add_str (pv 3) (pv 5)) (pa_cons (pv 7) pa_nil)))))
        (pss_one (ps_expr (pe_call GA hr1 rfl FA.m FA.k FA.b .nil pass0 (pa_cons (pv 2) (pa_cons (pe_op op_add_str (pv 5) (pv 3)) (pa_cons (pe_un un_neg (pv 7)) pa_nil)))))))))))
    (pss_one (ps_ret (pe_call GN hr1 rfl FN.m FN.k FN.b .nil pass0 (pa_cons (pv 2) pa_nil))))),?_⟩
  intro c nc
  have d1c:r1≠c:=rd_ne (o:=.own 0) e1 nc
  have d2c:r2≠c:=rd_ne (o:=.own 0) e2 nc
  have hz:=sizeLine_eq
  have sc:=new_same nc (.dK [])
  have rd1:Rd (upd H c (.dK [])) r1 (.dK (dk a)):=rd_same sc e1
  have rd2:Rd (upd H c (.dK [])) r2 (.dK (dk b)):=rd_same sc e2
  dsimp only [gName,tSeq]
  refine loop_items' (d:=r1) rfl rd1 (fun o1 i σ Hx=>∃ x4 x5 x6 x7 x8,σ=[some (.ref r1),some (.ref r2),some (.ref c),x4,x5,x6,x7,x8]∧(∀ x o,x≠r1→x≠r2→H x=some o→Hx x=some o)∧Hx r1=some (.frz o1 (.dK (dk a)))∧Rd Hx r2 (.dK (dk b))∧Hx c=some (.dK (dk (outP a b i)))) ?_ ?_ ?_ ?_
  · intro o1 H3 e3 k3 _
    refine ⟨none,none,none,none,none,rfl,fun x o n1 n2 e=>?_,e3,?_,?_⟩
    · rw [k3 x n1];exact sc _ _ e
    · by_cases hh:r2=r1
      · subst hh
        have:dk a=dk b:=rd_inj rd1 rd2
        rw [← this];exact .inr ⟨o1,e3⟩
      · unfold Rd;rw [k3 r2 hh];exact rd2
    · rw [k3 c d1c.symm,upd_same];rfl
  · rintro o1 i σ Hx ⟨x4,x5,x6,x7,x8,rfl,sx,f1,f2,f3⟩
    exact f1
  · rintro o1 i k v ta σ Hx hi hta ⟨x4,x5,x6,x7,x8,rfl,sx,f1,f2,f3⟩
    obtain ⟨pa,hpa,rfl,rfl⟩:=dk_get hi
    have hil:i < a.length:=(List.getElem?_eq_some_iff.mp hpa).1
    have mA:pa∈a:=List.mem_of_getElem? hpa
    have sa:=new_same hta (.tup [kV (Sum.inr pa.1),.int pa.2])
    refine ⟨ta,_,rfl,.inl (.inl upd_same),rfl,_,_,rfl,_,_,rfl,rfl,?_⟩
    dsimp only [gName,tSeq]
    refine loop_items' (d:=r2) rfl (rd_same sa f2) (fun o2 j σ Hx=>∃ x6 x7 x8,σ=[some (.ref r1),some (.ref r2),some (.ref c),some (.str pa.1),some (.int pa.2),x6,x7,x8]∧(∀ x o,x≠r1→x≠r2→H x=some o→Hx x=some o)∧Hx r1=some (.frz o1 (.dK (dk a)))∧Hx r2=some (.frz o2 (.dK (dk b)))∧Hx c=some (.dK (dk (inP b pa (outP a b i) j)))) ?_ ?_ ?_ ?_
    · intro o2 H4 e4 k4 k5
      refine ⟨x6,x7,x8,rfl,fun x o n1 n2 e=>?_,?_,e4,?_⟩
      · rw [k4 x n2];exact sa _ _ (sx x o n1 n2 e)
      · by_cases hh:r1=r2
        · subst hh
          have f1':=sa _ _ f1
          have:dk a=dk b:=rd_inj (.inr ⟨o1,f1⟩) f2
          rw [this] at f1'
          rw [k5 o1 f1',this];exact f1'
        · rw [k4 r1 hh];exact sa _ _ f1
      · rw [k4 c d2c.symm];exact sa _ _ f3
    · rintro o2 j σ Hy ⟨y6,y7,y8,rfl,sy,g1,g2,g3⟩
      exact g2
    · rintro o2 j k v tb σ Hy hj htb ⟨y6,y7,y8,rfl,sy,g1,g2,g3⟩
      obtain ⟨pb,hpb,rfl,rfl⟩:=dk_get hj
      have hjl:j < b.length:=(List.getElem?_eq_some_iff.mp hpb).1
      have mB:pb∈b:=List.mem_of_getElem? hpb
      have sb:=new_same htb (.tup [kV (Sum.inr pb.1),.int pb.2])
      obtain ⟨wAB,mm⟩:=hw pa mA pb mB
      have L1:=inP_len b pa (outP a b i) j
      have L2:=outP_len a b i
      have L3:=fill_lt hil hjl
      refine ⟨tb,_,rfl,.inl (.inl upd_same),rfl,_,_,rfl,_,_,rfl,rfl,?_⟩
      refine ⟨_,rfl,_,rfl,_,_,rfl,rfl,mm,?_⟩
      refine ⟨_,rfl,_,rfl,_,rfl,_,_,rfl,rfl,by omega,_,rfl,c,_,_,_,rfl,sb _ _ g3,by omega,?_⟩
      refine ⟨_,rfl,_,rfl,_,rfl,_,_,rfl,rfl,by omega,_,rfl,_,rfl,c,_,_,_,rfl,upd_same,?_,?_⟩
      · have:=len_add (inP b pa (outP a b i) j) (pa.1++pb.1) (pa.2 * pb.2)
        omega
      refine ⟨_,_,_,rfl,fun x o n1 n2 e=>?_,?_,?_,?_⟩
      · rw [upd_ne (ne_of_none e nc),upd_ne (ne_of_none e nc)];exact sb _ _ (sy x o n1 n2 e)
      · rw [upd_ne d1c,upd_ne d1c];exact sb _ _ g1
      · rw [upd_ne d2c,upd_ne d2c];exact sb _ _ g2
      · rw [upd_same,inP_succ hpb];rfl
    · rintro o2 σ Hy ⟨y6,y7,y8,rfl,sy,g1,g2,g3⟩
      refine ⟨_,_,_,_,_,rfl,sy,g1,.inr ⟨o2,g2⟩,?_⟩
      rw [g3,dk_len,outP_succ hpa]
  · rintro o1 σ Hx ⟨x4,x5,x6,x7,x8,rfl,sx,f1,f2,f3⟩
    rw [dk_len,outP_all] at f3
    refine ⟨_,rfl,c,_,rfl,f3,?_,fun r H' nr sr er=>q r H' ?_ ⟨fun x o n1 n2 e=>sr _ _ (ne_of_none e nc) (sx x o n1 n2 e),.inr ⟨o1,sr _ _ d1c f1⟩,?_⟩ er⟩
    · have:=len_foldP (op:=cat) a b
      omega
    · cases z:H r with
      | none=>rfl
      | some o =>
        by_cases n1:r=r1
        · rw [n1,f1] at nr;cases nr
        · by_cases n2:r=r2
          · rcases f2 with f2 | ⟨u,f2⟩ <;> rw [n2,f2] at nr <;> cases nr
          · rw [sx r o n1 n2 z] at nr;cases nr
    · rcases f2 with f2 | ⟨u,f2⟩
      · exact .inl (sr _ _ d2c f2)
      · exact .inr ⟨u,sr _ _ d2c f2⟩
theorem scBc:FnScope ["bracket"] ["bracket"] (defScope (top 6)):=⟨rfl,rfl,rfl,by decide +kernel,rfl,by decide +kernel,by decide +kernel⟩
theorem ok_bc (T:Blt mg) (F:At K mg "bracket_counts" (top 6) ["bracket"] f fd) (FT:At K mg "twisted" (top 7) ["first","second"] ft td) (FA:At K mg "add_count" (top 9) ["counts","word","count"] fa ad) (FN:At K mg "without_noughts" (top 10) ["counts"] fn nd) :
    ∀ n:Nat,FnOk P w K mg base CX0 (n + 2) f fd ["bracket"] (spBc (cP cat) n)
  | 0=>fn_zero fun vs H Q E h=>by
    obtain ⟨b,v,_,_,h,_⟩:=h
    have:=br_wt_pos b
    omega
  | n + 1=>by
    have G:=ok_bc T F FT FA FN n
    have GT:FnOk P w K mg base CX0 2 ft td ["first","second"] spTwP:=ok_twP FT FA FN
    refine F.fn.ok scBc (fun vs H Q E h=>?_) (fun cdv A outer s H vs Q E hr h=>?_)
    · obtain ⟨b,v,rfl,_⟩:=h
      rfl
    obtain ⟨b,v,rfl,hb,hn,h12,q⟩:=h
    have hr2:Room 2 _:=hr.mono (by omega)
    refine ⟨_,pss_cons (ps_if (pt_val (pe_callB call_isi rfl T.isi boot_isi (pa_cons (pv 0) (pa_cons (pe_ty rfl T.str bt_str) pa_nil)))) (pss_one (ps_ret (pe_disp (pps_cons (pv 0) pe_int pps_nil) rfl rfl (by simp) (by decide)))) pss_nil)
      (pss_one (ps_ret (pe_call GT hr2 rfl FT.m FT.k FT.b .nil pass0 (pa_cons (pe_call G hr rfl F.m F.k F.b .nil pass0 (pa_cons (pe_ix ix_tup (pv 0) pe_int (fun _ _=>rfl)) pa_nil)) (pa_cons (pe_call G hr rfl F.m F.k F.b .nil pass0 (pa_cons (pe_ix ix_tup (pv 0) pe_int (fun _ _=>rfl)) pa_nil)) pa_nil))))),?_⟩
    cases b with
    | leaf x =>
      obtain ⟨rfl,hx⟩:=hb
      refine ⟨_,rfl,_,_,_,rfl,.ss x,_,rfl,iteT ?_⟩
      intro p hp
      refine ⟨_,rfl,upd_same,[(Sum.inr x,.int 1)],rfl,(by show 1≤15;decide),?_⟩
      exact q p _ hp (upd_same2 (new_same hp _) hp) upd_same
    | node a b =>
      obtain ⟨p,u,w,rfl,hp,hu,hw⟩:=hb
      have hn:a.wt + b.wt≤n + 1:=hn
      have h12:a.wt + b.wt≤12:=h12
      have:=br_wt_pos a
      have:=br_wt_pos b
      refine ⟨_,rfl,_,_,_,rfl,.ts hp,_,rfl,iteF ?_⟩
      refine ⟨_,rfl,p,_,_,_,rfl,rfl,.inl (.inl hp),rfl,a,u,rfl,hu,by omega,by omega,fun r1 H1 n1 s1 e1=>?_⟩
      refine ⟨_,rfl,p,_,_,_,rfl,rfl,.inl (.inl (s1 _ _ hp)),rfl,b,w,rfl,hw.same s1,by omega,by omega,fun r2 H2 n2 s2 e2=>?_⟩
      have hA:=(len_cP (op:=cat) a).1
      have hB:=(len_cP (op:=cat) b).1
      have hAB:=two_len hA hB h12
      have lA:=wlen_cP (op:=cat) len_cat hu.ok
      have lB:=wlen_cP (op:=cat) len_cat hw.ok
      have hz:=sizeLine_eq
      refine ⟨r1,r2,cP cat a,cP cat b,rfl,.inl (s2 _ _ e1),.inl e2,by omega,fun p mA q mB=>⟨?_,CMul.ok (mul_ok (abs_cP mA) (by omega))⟩,fun r H' nr kp er=>?_⟩
      · have wA:=lA p.1 (List.mem_map.mpr ⟨p,mA,rfl⟩)
        have wB:=lB q.1 (List.mem_map.mpr ⟨q,mB,rfl⟩)
        omega
      · exact q r H' (s1.free (s2.free nr)) (fun x o e=>kp.1 x o (ne_of_none e n1) (ne_of_none e (s1.free n2)) (s2 _ _ (s1 _ _ e))) er
noncomputable def addAll (y:D Str) (t:Int) (x:D Str):D Str:=y.foldl (fun d q=>add d q.1 (t * q.2)) x
noncomputable def spAdA:Sp:=fun vs H Q _=>∃ (c a:Addr) (t:Int) (x y:D Str),vs=[.ref c,.int t,.ref a]∧c≠a∧H c=some (.dK (dk x))∧Rd H a (.dK (dk y))∧x.length + y.length < sizeLine∧(∀ p∈y,IntMulOk t p.2) ∧
  ∀ H',(∀ b o,b≠c→b≠a→H b=some o→H' b=some o)→Rd H' a (.dK (dk y))→H' c=some (.dK (dk (addAll y t x)))→Q .non H'
theorem scAdA:FnScope ["counts","times","added","word","count"] ["counts","times","added"] (defScope (top 8)):=⟨rfl,rfl,rfl,by decide +kernel,rfl,by decide +kernel,by decide +kernel⟩
theorem ok_adA (F:At K mg "add_counts" (top 8) ["counts","times","added"] f fd) (FA:At K mg "add_count" (top 9) ["counts","word","count"] fa ad) :
    FnOk P w K mg base CX0 2 f fd ["counts","times","added"] spAdA:=by
  have GA:FnOk P w K mg base CX0 1 fa ad ["counts","word","count"] (spAdd add):=ok_add FA.fn
  refine F.fn.ok scAdA (fun vs H Q E h=>?_) (fun cdv A outer s H vs Q E hr h=>?_)
  · obtain ⟨c,a,t,x,y,rfl,_⟩:=h
    rfl
  obtain ⟨c,a,t,x,y,rfl,nca,hc,ha,hz,hm,q⟩:=h
  refine ⟨_,pss_one (ps_for PassesOwn.never rfl (pi_items (pv 2)) (pg_tup rfl (pgs_cons (pg_name (i:=3) scAdA.nd rfl (Or.inl rfl)) (pgs_cons (pg_name (i:=4) scAdA.nd rfl (Or.inl rfl)) pgs_nil)))
      (pss_one (ps_expr (pe_call GA hr rfl FA.m FA.k FA.b .nil pass0 (pa_cons (pv 0) (pa_cons (pv 3) (pa_cons (pe_op op_mulG (pv 1) (pv 4)) pa_nil))))))),?_⟩
  dsimp only [gName,tSeq]
  refine loop_items' (d:=a) rfl ha (fun o j σ Hy=>∃ y4 y5,σ=[some (.ref c),some (.int t),some (.ref a),y4,y5]∧(∀ b o,b≠c→b≠a→H b=some o→Hy b=some o)∧Hy a=some (.frz o (.dK (dk y)))∧Hy c=some (.dK (dk (inS add y t x j)))) ?_ ?_ ?_ ?_
  · intro o H3 e3 k3 _
    exact ⟨none,none,rfl,fun b o n1 n2 e=>by rw [k3 b n2];exact e,e3,by rw [k3 c nca];exact hc⟩
  · rintro o j σ Hy ⟨y4,y5,rfl,sy,g1,g2⟩
    exact g1
  · rintro o j k v tb σ Hy hj htb ⟨y4,y5,rfl,sy,g1,g2⟩
    obtain ⟨pb,hpb,rfl,rfl⟩:=dk_get hj
    have hjl:j < y.length:=(List.getElem?_eq_some_iff.mp hpb).1
    have mB:pb∈y:=List.mem_of_getElem? hpb
    have sb:=new_same htb (.tup [kV (Sum.inr pb.1),.int pb.2])
    have L1:=inS_len (ad:=add) len_add y t x j
    refine ⟨tb,_,rfl,.inl (.inl upd_same),rfl,_,_,rfl,_,_,rfl,rfl,?_⟩
    refine ⟨_,rfl,_,rfl,_,rfl,_,rfl,_,_,rfl,rfl,hm pb mB,c,_,_,_,rfl,sb _ _ g2,by omega,?_⟩
    refine ⟨_,_,rfl,fun b o n1 n2 e=>?_,?_,?_⟩
    · rw [upd_ne n1];exact sb _ _ (sy b o n1 n2 e)
    · rw [upd_ne nca.symm];exact sb _ _ g1
    · rw [upd_same,inS_succ hpb]
  · rintro o σ Hy ⟨y4,y5,rfl,sy,g1,g2⟩
    refine q Hy sy (.inr ⟨o,g1⟩) ?_
    rw [g2,dk_len]
    unfold inS addAll
    rw [List.take_length]
end
end K01
end
section
namespace K01
open PySem PySem.Spec PyProof.Rows Tim L2 Wm
theorem dget_frz {H:Hp} {a:Addr} {d:D Str} {w:Str} {c:Int} (rd:Rd H a (.dK (dk d))) (e:look d w=some c):DGet H a (.str w) (some (.int c)):=.inl ⟨dk d,Sum.inr w,rd,rfl,by rw [dk_val,e];rfl⟩
section
variable {P:Program} {w:World} {K:PySem.W.Frag} {mg:Str→Option Value} {base:Heap} {f fp ft fa fn fb:Addr} {fd pd td ad nd bd:FuncData}
end
end K01
end
section
namespace K01
open PySem PySem.Spec PyProof.Rows Tim L2 Wm
noncomputable def TotV (K:PySem.W.Frag) (H:Hp) (t:Addr) (ps:List V) (T:List (Int×Br Str)):Prop :=
  SqL K H t ps∧ps.length=T.length∧∀ (i:Nat) x,T[i]? = some x→∃ p bv,ps[i]? = some (.ref p)∧H p=some (.tup [.int x.1,bv])∧BrV H x.2 bv
theorem TotV.same {K:PySem.W.Frag} {H H':Hp} {t:Addr} {ps:List V} {T:List (Int×Br Str)} (h:TotV K H t ps T) (s:Same H H'):TotV K H' t ps T :=
  ⟨s.seq h.1,h.2.1,fun i x e=>by
    obtain ⟨p,bv,a,b,c⟩:=h.2.2 i x e
    exact ⟨p,bv,a,s _ _ b,c.same s⟩⟩
theorem TotV.at {K:PySem.W.Frag} {H:Hp} {t:Addr} {ps:List V} {T:List (Int×Br Str)} (h:TotV K H t ps T) {i:Nat} {v:V} (e:ps[i]? = some v):∃ x p bv,T[i]? = some x∧v = .ref p∧H p=some (.tup [.int x.1,bv])∧BrV H x.2 bv:=by
  have hi:i < T.length:=by rw [← h.2.1];exact (List.getElem?_eq_some_iff.mp e).1
  obtain ⟨p,bv,a,b,c⟩:=h.2.2 i T[i] (List.getElem?_eq_getElem hi)
  rw [e] at a
  exact ⟨_,p,bv,List.getElem?_eq_getElem hi,Option.some.inj a,b,c⟩
noncomputable def outS (ad:D Str→Str→Int→D Str) (g:Br Str→D Str) (T:List (Int×Br Str)) (i:Nat):D Str:=(T.take i).foldl (fun d p=>(g p.2).foldl (fun d q=>ad d q.1 (p.1 * q.2)) d) []
theorem outS_succ {ad:D Str→Str→Int→D Str} {g:Br Str→D Str} {T:List (Int×Br Str)} {x:Int×Br Str} {i:Nat} (e:T[i]? = some x):outS ad g T (i + 1)=inS ad (g x.2) x.1 (outS ad g T i) (g x.2).length:=by
  unfold outS inS;rw [List.take_add_one,e,List.foldl_append,List.take_length];rfl
theorem outS_len {ad:D Str→Str→Int→D Str} {g:Br Str→D Str} {T:List (Int×Br Str)} (ha:∀ d w c,(ad d w c).length≤d.length + 1) (hg:∀ x∈T,(g x.2).length≤2048):∀ i,i≤T.length→(outS ad g T i).length≤i * 2048
  | 0,_=>by unfold outS;simp
  | i + 1,h=>by
    have ih:=outS_len ha hg i (by omega)
    have hi:i < T.length:=h
    rw [outS_succ (List.getElem?_eq_getElem hi)]
    have h1:=inS_len ha (g T[i].2) T[i].1 (outS ad g T i) (g T[i].2).length
    have h2:=hg _ (List.getElem_mem hi)
    omega
theorem len2048 {x:Br Str} {d:D Str} (h:d.length≤2 ^ (x.wt - 1)) (hx:x.wt≤12):d.length≤2048:=by
  have h3:2 ^ (x.wt - 1)≤2 ^ 11:=pow_le (by omega)
  omega
section
variable {P:Program} {w:World} {K:PySem.W.Frag} {mg:Str→Option Value} {base:Heap} {f fp ft fa fn fb:Addr} {fd pd td ad nd bd:FuncData}
noncomputable def spSum (K:PySem.W.Frag) (g:List (Int×Br Str)→D Str):Sp:=fun vs H Q _=>∃ (t:Addr) (ps:List V) (T:List (Int×Br Str)),vs=[.ref t]∧TotV K H t ps T∧T.length≤4000∧(∀ x∈T,x.2.wt≤12)∧∀ r H',H r=none→Same H H'→H' r=some (.dK (dk (g T)))→Q (.ref r) H'
end
end K01
end
section
namespace K01
open PySem PySem.Spec PyProof.Rows Tim L2 Wm
section
variable {P:Program} {w:World} {K:PySem.W.Frag} {mg:Str→Option Value} {base:Heap} {f fp ft fa fn fb:Addr} {fd pd td ad nd bd:FuncData}
theorem scSc:FnScope ["total","counts","times","bracket"] ["total"] (defScope (top 5)):=⟨rfl,rfl,rfl,by decide +kernel,rfl,by decide +kernel,by decide +kernel⟩
theorem ok_sc (F:At K mg "sum_counts" (top 5) ["total"] f fd) (FB:At K mg "bracket_counts" (top 6) ["bracket"] fb bd) (FC:At K mg "add_counts" (top 8) ["counts","times","added"] fp pd) (FA:At K mg "add_count" (top 9) ["counts","word","count"] fa ad) (FN:At K mg "without_noughts" (top 10) ["counts"] fn nd) (GB:FnOk P w K mg base CX0 14 fb bd ["bracket"] (spBc (cP cat) 12)) :
    FnOk P w K mg base CX0 15 f fd ["total"] (spSum K (smP cat)):=by
  have GC:FnOk P w K mg base CX0 2 fp pd ["counts","times","added"] spAdA:=ok_adA FC FA
  have GN:FnOk P w K mg base CX0 1 fn nd ["counts"] spNz:=ok_nz FN.fn
  refine F.fn.ok scSc (fun vs H Q E h=>?_) (fun cdv A outer s H vs Q E hr h=>?_)
  · obtain ⟨t,ps,T,rfl,_⟩:=h
    rfl
  obtain ⟨t,ps,T,rfl,hT,h64,h12,q⟩:=h
  have hr1:Room 1 _:=hr.mono (by omega)
  have hr2:Room 2 _:=hr.mono (by omega)
  refine ⟨_,pss_cons (ps_set (i:=1) scSc.nd rfl (Or.inl rfl) pe_dnewK)
    (pss_cons (ps_for PassesOwn.never rfl (pi_list (pv 0)) (pg_tup rfl (pgs_cons (pg_name (i:=2) scSc.nd rfl (Or.inl rfl)) (pgs_cons (pg_name (i:=3) scSc.nd rfl (Or.inl rfl)) pgs_nil)))
      (pss_one (ps_expr (pe_call GC hr2 rfl FC.m FC.k FC.b .nil pass0 (pa_cons (pv 1) (pa_cons (pv 2) (pa_cons (pe_call GB hr rfl FB.m FB.k FB.b .nil pass0 (pa_cons (pv 3) pa_nil)) pa_nil)))))))
    (pss_one (ps_ret (pe_call GN hr1 rfl FN.m FN.k FN.b .nil pass0 (pa_cons (pv 1) pa_nil))))),?_⟩
  intro c nc
  have hz:=sizeLine_eq
  have hg:∀ x∈T,(cP cat x.2).length≤2048:=fun x hx=>len2048 (len_cP x.2).1 (h12 x hx)
  refine ⟨_,rfl,t,rfl,⟨_,(new_same nc _).seq hT.1⟩,for_list (K:=K) (a:=t) (xs:=ps) (fun i σ Hx=>∃ x2 x3,σ=[some (.ref t),some (.ref c),x2,x3]∧Same H Hx∧Hx c=some (.dK (dk (outS add (cP cat) T i)))) ?_ ?_ ?_ ?_⟩
  · exact ⟨none,none,rfl,new_same nc _,upd_same⟩
  · rintro i σ Hx _ ⟨x2,x3,rfl,sx,f1⟩
    exact sx.seq hT.1
  · rintro i v σ Hx hi ⟨x2,x3,rfl,sx,f1⟩
    obtain ⟨x,p,bv,hx,rfl,hp,hb⟩:=(hT.same sx).at hi
    have hil:i < T.length:=(List.getElem?_eq_some_iff.mp hx).1
    have hm:=List.mem_of_getElem? hx
    refine ⟨p,_,rfl,.inl (.inl hp),rfl,_,_,rfl,_,_,rfl,rfl,?_⟩
    refine ⟨_,rfl,_,rfl,_,rfl,x.2,bv,rfl,hb,h12 x hm,h12 x hm,fun r H1 nr s1 er=>?_⟩
    have ncr:c≠r:=ne_of_none f1 nr
    have nr':H r=none:=sx.free nr
    have L2:=outS_len (ad:=add) len_add hg i (by omega)
    have L3:=hg x hm
    refine ⟨c,r,x.1,outS add (cP cat) T i,cP cat x.2,rfl,ncr,s1 _ _ f1,.inl er,by omega,fun p mB=>CMul.ok (mul_ok2 (abs_cP mB) (h12 x hm)),fun H2 k2 _ e2=>?_⟩
    refine ⟨_,_,rfl,fun b o e=>k2 b o (ne_of_none e nc) (ne_of_none e nr') (s1 _ _ (sx _ _ e)),?_⟩
    rw [e2,outS_succ hx]
    unfold addAll inS
    rw [List.take_length]
  · rintro σ Hx ⟨x2,x3,rfl,sx,f1⟩
    rw [hT.2.1] at f1
    have L2:=outS_len (ad:=add) len_add hg T.length (Nat.le_refl _)
    refine ⟨_,rfl,c,_,rfl,f1,by omega,fun r H' nr sr er=>q r H' (sx.free nr) (SX.same sx nc sr) ?_⟩
    rw [er]
    unfold smP outS
    rw [List.take_length]
end
end K01
end
section
namespace K01
open PySem PySem.Spec PyProof.Rows Tim L2 Wm
section
variable {P:Program} {w:World} {K:PySem.W.Frag} {mg:Str→Option Value} {base:Heap} {f fp ft fa fn fb:Addr} {fd pd td ad nd bd:FuncData}
end
end K01
end
section
namespace K01
open PySem PySem.Spec PyProof.Rows Tim L2 Wm
section
variable {P:Program} {w:World} {K:PySem.W.Frag} {mg:Str→Option Value} {base:Heap} {f fp ft fa fn fb fl:Addr} {fd pd td ad nd bd ld:FuncData}
end
end K01
end
section
namespace K01
open PySem PySem.Spec PyProof.Rows Tim L2 Wm
section
variable {P:Program} {w:World} {K:PySem.W.Frag} {mg:Str→Option Value} {base:Heap} {f fo fw:Addr} {fd od wd:FuncData}
end
end K01
end
section
namespace K01
open PySem PySem.Spec PyProof.Rows Tim L2 Wm
section
variable {P:Program} {w:World} {K:PySem.W.Frag} {mg:Str→Option Value} {base:Heap} {f fs fr fb fm fd' fc:Addr} {fd sd rd bd md dd cd:FuncData}
end
end K01
end
section
namespace K01
open PySem PySem.Spec PyProof.Rows Tim L2 Wm
section
variable {P:Program} {w:World} {K:PySem.W.Frag} {mg:Str→Option Value} {base:Heap} {f fs fr fb fm fd' fc:Addr} {fd sd rd bd md dd cd:FuncData}
end
end K01
end
section
namespace K01
open PySem PySem.Spec PyProof.Rows Tim L2 Wm
section
variable {P:Program} {w:World} {K:PySem.W.Frag} {mg:Str→Option Value} {base:Heap} {f:Addr} {fd:FuncData}
noncomputable def spWt (n:Nat):Sp:=fun vs H Q _=>∃ (b:Br Str) (v:V),vs=[v]∧BrV H b v∧b.wt≤n∧Q (.int b.wt) H
theorem scWtP:FnScope ["bracket"] ["bracket"] (defScope (top 3)):=⟨rfl,rfl,rfl,by decide +kernel,rfl,by decide +kernel,by decide +kernel⟩
theorem ok_wtP (T:Blt mg) (F:At K mg "weight" (top 3) ["bracket"] f fd):∀ n:Nat,FnOk P w K mg base CX0 n f fd ["bracket"] (spWt n)
  | 0=>fn_zero fun vs H Q E h=>by
    obtain ⟨b,v,_,_,h,_⟩:=h
    have:=br_wt_pos b
    omega
  | n + 1=>by
    have G:=ok_wtP T F n
    refine F.fn.ok scWtP (fun vs H Q E h=>?_) (fun cdv A outer s H vs Q E hr h=>?_)
    · obtain ⟨b,v,rfl,_⟩:=h
      rfl
    obtain ⟨b,v,rfl,hb,hn,q⟩:=h
    refine ⟨_,pss_cons (ps_if (pt_val (pe_callB call_isi rfl T.isi boot_isi (pa_cons (pv 0) (pa_cons (pe_ty rfl T.str bt_str) pa_nil)))) (pss_one (ps_ret pe_int)) pss_nil)
      (pss_one (ps_ret (pe_op op_add (pe_call G hr rfl F.m F.k F.b .nil pass0 (pa_cons (pe_ix ix_tup (pv 0) pe_int (fun _ _=>rfl)) pa_nil)) (pe_call G hr rfl F.m F.k F.b .nil pass0 (pa_cons (pe_ix ix_tup (pv 0) pe_int (fun _ _=>rfl)) pa_nil))))),?_⟩
    cases b with
    | leaf x =>
      obtain ⟨rfl,hx⟩:=hb
      refine ⟨_,rfl,_,_,_,rfl,.ss x,_,rfl,?_⟩
      exact iteT q
    | node a b =>
      obtain ⟨p,u,w,rfl,hp,h1,h2⟩:=hb
      have hn:a.wt + b.wt≤n + 1:=hn
      have:=br_wt_pos a
      have:=br_wt_pos b
      refine ⟨_,rfl,_,_,_,rfl,.ts hp,_,rfl,?_⟩
      refine iteF ?_
      refine ⟨_,rfl,p,_,_,_,rfl,rfl,.inl (.inl hp),rfl,a,u,rfl,h1,by omega,?_⟩
      exact ⟨_,rfl,p,_,_,_,rfl,rfl,.inl (.inl hp),rfl,b,w,rfl,h2,by omega,_,_,rfl,rfl,q⟩
end
end K01
end
section
namespace K01
open PySem PySem.Spec PyProof.Rows Tim L2 Wm
noncomputable abbrev Ls (x:Str):List Nat:=x.cps.toList
noncomputable def mk (l:List Nat):Str:=⟨l.toArray⟩
theorem Ls_mk (l:List Nat):Ls (mk l)=l:=by simp [Ls,mk]
theorem mk_Ls (x:Str):mk (Ls x)=x:=by cases x;simp [mk,Ls]
theorem str_ext {x y:Str} (h:Ls x=Ls y):x=y:=by rw [← mk_Ls x,← mk_Ls y,h]
theorem len_Ls (x:Str):(Ls x).length=x.length:=by rw [Array.length_toList];rfl
theorem len_mk (l:List Nat):(mk l).length=l.length:=by rw [← len_Ls,Ls_mk]
theorem Ls_cat (x y:Str):Ls (x++y)=Ls x++Ls y:=by
  show (x.cps++y.cps).toList=_
  simp
theorem slice_from {x:Str} {i:Nat} (h:i≤x.length):Txt.slice x (some (i:Int)) none=mk ((Ls x).drop i):=by
  apply str_ext
  rw [Ls_mk]
  have:=sl_from (x:=x) (i:=(i:Int)) ⟨by omega,by omega⟩
  simpa using this
theorem slice_to {x:Str} {i:Nat} (h:i≤x.length):Txt.slice x none (some (i:Int))=mk ((Ls x).take i):=by
  apply str_ext
  rw [Ls_mk]
  have:=sl_to (x:=x) (j:=(i:Int)) ⟨by omega,by omega⟩
  simpa using this
theorem abc_drop {x:Str} {i:Nat} (h:Abc x):Abc (mk ((Ls x).drop i)):=fun c hc=>h c (by
  have hc:c∈Ls (mk ((Ls x).drop i)):=hc
  rw [Ls_mk] at hc
  exact List.mem_of_mem_drop hc)
theorem abc_take {x:Str} {i:Nat} (h:Abc x):Abc (mk ((Ls x).take i)):=fun c hc=>h c (by
  have hc:c∈Ls (mk ((Ls x).take i)):=hc
  rw [Ls_mk] at hc
  exact List.mem_of_mem_take hc)
theorem empty_iff {z:Str}:z=Str.ofString ""↔Ls z=[]:=by
  constructor
  · intro h;rw [h];decide +kernel
  · intro h;exact str_ext (by rw [h];decide +kernel)
theorem lk2 {x a b c:Str} {k:NameKind} (h:List.lookup x [(a,NameKind.local),(b,NameKind.local),(c,NameKind.cell)]=some k) (hk:k≠.local):x=c:=by
  rw [List.lookup_cons] at h
  split at h
  · cases h;exact absurd rfl hk
  · rw [List.lookup_cons] at h
    split at h
    · cases h;exact absurd rfl hk
    · rw [List.lookup_cons] at h
      split at h
      · rename_i e;exact eq_of_beq e
      · cases h
section
variable {P:Program} {w:World} {K:PySem.W.Frag} {mg:Str→Option Value} {base:Heap} {f fa fn ft fp fr:Addr} {fd ad nd td pd rd:FuncData}
noncomputable def spPl:Sp:=fun vs H Q _=>∃ z:Str,vs=[.str z]∧z.length≤1000∧∀ H',Same H H'→Q (.bl (MW.pl (Ls z))) H'
theorem scPl:FnScope ["word"] ["word"] (defScope (top 27)):=⟨rfl,rfl,rfl,by decide +kernel,rfl,by decide +kernel,by decide +kernel⟩
noncomputable def cPl:Scope:={ kind:=.function,names:=[(Str.ofString ".0",.local),(Str.ofString "start",.local),(Str.ofString "word",.free)],isGenerator:=false,isCoroutine:=false,more:=[] }
theorem ok_pl (T:Blt mg) (F:At K mg "is_plain" (top 27) ["word"] f fd):FnOk P w K mg base CX0 1 f fd ["word"] spPl:=by
  refine F.fn.ok scPl (fun vs H Q E h=>?_) (fun cdv A outer s H vs Q E hr h=>?_)
  · obtain ⟨z,rfl,_⟩:=h
    rfl
  obtain ⟨z,rfl,hz,q⟩:=h
  have O:CompOk (cxOf CX0 P w K mg base ["word"] "is_plain" (defScope (top 27)) f cdv A outer s H E).nox ["start","word"] cPl [(Str.ofString "word",s.heap.objs.size + 1)]:={
    clos:=rfl
    nocell:=by decide +kernel
    kind:=rfl
    names:=by decide +kernel
    sub:=fun x c e=>e
    has:=fun x h=>by
      have e:x=Str.ofString "word":=by
        rcases h with h | h
        · exact lk2 h (by decide)
        · exact lk2 h (by decide)
      subst e
      exact ⟨_,rfl⟩ }
  refine ⟨_,pss_cons (ps_if (pt_cmpR op_eq (pv 0) pe_str (nomark _)) (pss_one (ps_ret pe_bl)) pss_nil)
    (pss_one (ps_ret (pe_callB (call_all rfl) rfl T.all L2.boot_all (pa_cons (pe_compG (N':=["start","word"]) rfl O (pi_range2 rfl T.rng (pa_cons pe_int (pa_cons (pe_callB call_len_str rfl T.len PySem.boot_len (pa_cons (pv 0) pa_nil)) pa_nil))) (fun C s₀ H₀ ex pn xe=>pg_name (i:=0) (by show List.Nodup [Str.ofString "start",Str.ofString "word"];decide +kernel) rfl (.inl rfl) (.inr rfl)) (fun _ _ _ _ _ _=>pifs_nil)
      (fun C s₀ H₀ ex pn xe=>pe_cmpR op_lt_str (pv 1) (pe_slice sl_str (pv 1) (po_some (pv 0)) po_none) (nomark _))) pa_nil)))),?_⟩
  have hzl:=sizeLine_eq
  refine ⟨_,rfl,rfl,_,rfl,?_⟩
  refine ite2 (fun e=>?_) (fun e=>?_)
  · have e:z=Str.ofString "":=by
      have e:=of_decide_eq_true e
      exact V.str.inj e
    have:MW.pl (Ls z)=false:=by rw [empty_iff.mp e];rfl
    rw [this] at q
    exact q H (Same.refl _)
  · have e:Ls z≠[]:=fun y=>e (by rw [empty_iff.mpr y];rfl)
    have hl:0 < z.length:=by rw [← len_Ls];exact List.length_pos_iff.mpr e
    refine ⟨_,rfl,z,rfl,by omega,1,_,rfl,⟨by decide,by decide,by omega,by omega⟩,?_⟩
    refine ⟨[none,some (.str z)],⟨rfl,?_⟩,fun D nD=>?_⟩
    · intro i x v e1 e2
      rcases i with _ | _ | i
      · cases e2
      · cases e1
        cases e2
        exact ⟨0,rfl,rfl,rfl,rfl⟩
      · cases e1
    refine comp_rngG (g:=fun i=>.bl (decide (Ls z < (Ls z).drop (1 + i)))) (p:=fun _=>true) (by omega) nD (fun i Hx R hi sx hR=>hR _ (Same.refl _)) (fun i Hx R hi _ sx hR=>?_) fun Hx sx xD=>?_
    · refine ⟨_,rfl,_,rfl,_,rfl,_,rfl,z,rfl,by omega,z,_,rfl,rfl,?_⟩
      have e:(1:Int) + (i:Int)=((1 + i:Nat):Int):=by omega
      rw [e,slice_from (by omega)]
      have:=hR Hx (Same.refl _)
      show R (V.bl (decide (Ls z < Ls (mk _)))) Hx
      rw [Ls_mk]
      exact this
    · rw [List.filter_eq_self.mpr fun _ _=>rfl] at xD
      refine ⟨D,(List.range ((z.length:Int) - 1).toNat).map (fun i=>decide (Ls z < (Ls z).drop (1 + i))),rfl,.inl (.inl (by rw [xD,List.map_map];rfl)),?_⟩
      have:((List.range ((z.length:Int) - 1).toNat).map (fun i=>decide (Ls z < (Ls z).drop (1 + i)))).all id=MW.pl (Ls z):=by
        unfold MW.pl
        rw [List.all_map,decide_eq_true e,Bool.true_and,len_Ls]
        congr 2
        omega
      rw [this]
      exact q Hx sx
noncomputable def spRf (C:Addr):Sp:=fun vs H Q E=>∃ z:Str,vs=[.str z]∧z.length≤1000∧Abc z∧(MW.Pl (Ls z)→∀ H',Same H H'→Q .non H')∧(¬ MW.Pl (Ls z)→∀ H',Same H H'→E (.ref C) none H')
theorem scRf:FnScope ["word"] ["word"] (defScope (top 30)):=⟨rfl,rfl,rfl,by decide +kernel,rfl,by decide +kernel,by decide +kernel⟩
theorem abc_small {z:Str} (h:Abc z):∀ c∈z.cps.toList,c < 16 ^ 8:=fun c hc=>by
  have e:(16:Nat) ^ 8=4294967296:=by decide
  rcases h c hc with q | q | q <;> rw [q,e] <;> decide
theorem ok_rf {C:Addr} (T:Blt mg) (F:At K mg "refuse_unless_plain" (top 30) ["word"] f fd) (FP:At K mg "is_plain" (top 27) ["word"] fp pd) (XC:ExcAt K mg "NoWord" C) :
    FnOk P w K mg base (CXE P w) 2 f fd ["word"] (spRf C):=by
  have GP:FnOk P w K mg base CX0 1 fp pd ["word"] spPl:=ok_pl T FP
  refine F.fn.okE scRf (fun vs H Q E h=>?_) (fun cdv A outer s H vs Q E hr h=>?_)
  · obtain ⟨z,rfl,_⟩:=h
    rfl
  obtain ⟨z,rfl,hz,ha,q1,q2⟩:=h
  refine ⟨_,pss_one (ps_if (pt_not (pt_val (pe_call GP hr rfl FP.m FP.k FP.b .nil pass0 (pa_cons (pv 0) pa_nil))))
    (pss_one (ps_raise hr.hd XC rfl (pa_cons (pe_join (pj_cons pe_str (pj_cons (pe_fmtR (pv 0)) pj_nil))) pa_nil))) pss_nil),?_⟩
  have hzl:=sizeLine_eq
  refine ⟨_,rfl,z,rfl,hz,fun H1 s1=>⟨_,rfl,?_⟩⟩
  refine ite2 (fun e=>?_) (fun e=>?_)
  · have e:MW.pl (Ls z)=false:=by simpa using e
    have np:¬ MW.Pl (Ls z):=fun y=>by rw [MW.pl_true.mpr y] at e;cases e
    refine ⟨_,rfl,by decide +kernel,_,rfl,z,rfl,hz,abc_small ha,fun y hy=>⟨y,rfl,?_,?_,(by show 1≤sizeLine;decide),q2 np _ s1⟩⟩
    · have:(Str.empty++Str.ofString "not a plain word: ").length=18:=by decide +kernel
      have l:=len_cat (Str.empty++Str.ofString "not a plain word: ") y
      have l:((Str.empty++Str.ofString "not a plain word: ")++y).length=_:=l
      omega
    · have:(Str.empty++Str.ofString "not a plain word: ").length=18:=by decide +kernel
      have l:=len_cat (Str.empty++Str.ofString "not a plain word: ") y
      have l:((Str.empty++Str.ofString "not a plain word: ")++y).length=_:=l
      omega
  · have e:MW.pl (Ls z)=true:=by simpa using e
    exact q1 (MW.pl_true.mp e) _ s1
noncomputable def spCut (C:Addr):Sp:=fun vs H Q E=>∃ z:Str,vs=[.str z]∧z.length≤1000∧Abc z ∧
  (MW.Pl (Ls z)→2≤z.length→∀ p i H',MW.CutAt (Ls z) i→H p=none→Same H H'→H' p=some (.tup [.str (mk ((Ls z).take i)),.str (mk ((Ls z).drop i))])→Q (.ref p) H')∧(¬ (MW.Pl (Ls z)∧2≤z.length)→∀ H',Same H H'→E (.ref C) none H')
theorem scCut:FnScope ["word","start"] ["word"] (defScope (top 28)):=⟨rfl,rfl,rfl,by decide +kernel,rfl,by decide +kernel,by decide +kernel⟩
theorem ok_cut {C:Addr} (T:Blt mg) (F:At K mg "cut" (top 28) ["word"] f fd) (FP:At K mg "is_plain" (top 27) ["word"] fp pd) (FR:At K mg "refuse_unless_plain" (top 30) ["word"] fr rd) (XC:ExcAt K mg "NoWord" C) :
    FnOk P w K mg base (CXE P w) 3 f fd ["word"] (spCut C):=by
  have GP:FnOk P w K mg base CX0 1 fp pd ["word"] spPl:=ok_pl T FP
  have GR:FnOk P w K mg base (CXE P w) 2 fr rd ["word"] (spRf C):=ok_rf T FR FP XC
  refine F.fn.okE scCut (fun vs H Q E h=>?_) (fun cdv A outer s H vs Q E hr h=>?_)
  · obtain ⟨z,rfl,_⟩:=h
    rfl
  obtain ⟨z,rfl,hz,ha,q1,q2⟩:=h
  have hr1:Room 1 _:=hr.mono (by omega)
  refine ⟨_,pss_cons (ps_expr (pe_call GR hr rfl FR.m FR.k FR.b .nil passE (pa_cons (pv 0) pa_nil)))
    (pss_cons (ps_if (pt_cmpR op_eq (pe_callB call_len_str rfl T.len PySem.boot_len (pa_cons (pv 0) pa_nil)) pe_int (nomark _)) (pss_one (ps_raise hr.hd XC rfl (pa_cons (pe_join (pj_cons pe_str (pj_cons (pe_fmtR (pv 0)) pj_nil))) pa_nil))) pss_nil)
    (pss_cons (ps_set (i:=1) scCut.nd rfl (Or.inl rfl) pe_int)
    (pss_cons (ps_while PassesOwn.leaving (pt_not (pt_val (pe_call GP hr1 rfl FP.m FP.k FP.b .nil pass0 (pa_cons (pe_slice sl_str (pv 0) (po_some (pv 1)) po_none) pa_nil)))) (pss_one (ps_set (i:=1) scCut.nd rfl (Or.inl rfl) (pe_op op_add (pv 1) pe_int))))
    (pss_one (ps_ret (pe_tup (pa_cons (pe_slice sl_str (pv 0) po_none (po_some (pv 1))) (pa_cons (pe_slice sl_str (pv 0) (po_some (pv 1)) po_none) pa_nil)))))))),?_⟩
  have hzl:=sizeLine_eq
  refine ⟨_,rfl,z,rfl,hz,ha,fun hp H1 s1=>?_,fun hp H1 s1=>q2 (fun y=>hp y.1) H1 s1⟩
  refine ⟨_,rfl,z,rfl,by omega,rfl,_,rfl,?_⟩
  refine ite2 (fun e=>?_) (fun e=>?_)
  · have e:(z.length:Int)=1:=V.int.inj (of_decide_eq_true e)
    refine ⟨_,rfl,by decide +kernel,_,rfl,z,rfl,hz,abc_small ha,fun y hy=>⟨y,rfl,?_,?_,(by show 1≤sizeLine;decide),q2 (fun y=>by omega) _ s1⟩⟩
    · have:(Str.empty++Str.ofString "one letter has no cut: ").length=23:=by decide +kernel
      have l:=len_cat (Str.empty++Str.ofString "one letter has no cut: ") y
      have l:((Str.empty++Str.ofString "one letter has no cut: ")++y).length=_:=l
      omega
    · have:(Str.empty++Str.ofString "one letter has no cut: ").length=23:=by decide +kernel
      have l:=len_cat (Str.empty++Str.ofString "one letter has no cut: ") y
      have l:((Str.empty++Str.ofString "one letter has no cut: ")++y).length=_:=l
      omega
  · have e:¬ (z.length:Int)=1:=fun y=>e (by rw [y];rfl)
    have h0:0 < z.length:=by rw [← len_Ls];exact List.length_pos_iff.mpr hp.1
    have h2:2≤(Ls z).length:=by rw [len_Ls];omega
    obtain ⟨i,hi⟩:=MW.cut_ex h2
    have hil:=hi.2.1
    rw [len_Ls] at hil
    refine ⟨fun m σ Hx=>∃ j:Nat,m=i - j∧σ=[some (.str z),some (.int (j:Int))]∧Same H1 Hx∧0 < j∧j≤i,⟨i - 1,1,rfl,rfl,Same.refl _,by omega,hi.1⟩,?_⟩
    rintro m σ Hx ⟨j,rfl,rfl,sx,j0,ji⟩
    refine ⟨_,rfl,_,rfl,_,rfl,z,rfl,by omega,mk ((Ls z).drop j),by rw [slice_from (by omega)];rfl,?_,fun Hy sy=>⟨_,rfl,?_⟩⟩
    · rw [len_mk,List.length_drop,len_Ls];omega
    · rw [Ls_mk]
      by_cases hpj:MW.Pl ((Ls z).drop j)
      · rw [MW.pl_true.mpr hpj]
        refine iteF ?_
        have ej:j=i:=by
          rcases Nat.lt_or_ge j i with y | y
          · exact absurd hpj (hi.2.2.2 j j0 y)
          · omega
        subst ej
        refine ⟨_,rfl,_,rfl,_,rfl,z,rfl,by omega,_,rfl,_,rfl,_,rfl,z,rfl,by omega,(by show 2≤sizeLine;decide),fun p np=>?_⟩
        rw [slice_to (by omega),slice_from (by omega)]
        have s2:Same H Hy:=s1.trans (sx.trans sy)
        exact q1 hp (by omega) p j _ hi (s2.free np) (s2.trans (new_same np _)) upd_same
      · have:MW.pl ((Ls z).drop j)=false:=Bool.eq_false_iff.mpr fun y=>hpj (MW.pl_true.mp y)
        rw [this]
        refine iteT ?_
        have hji:j < i:=by
          rcases Nat.lt_or_ge j i with y | y
          · exact y
          · have:j=i:=by omega
            rw [this] at hpj
            exact absurd hi.2.2.1 hpj
        refine ⟨fun σ' H'=>∃ j':Nat,j'=j + 1∧σ'=[some (.str z),some (.int (j':Int))]∧Same H1 H',?_,_,rfl,_,_,rfl,rfl,j + 1,rfl,rfl,sx.trans sy⟩
        rintro σ' H' ⟨j',rfl,rfl,s'⟩
        exact ⟨i - (j + 1),by omega,j + 1,rfl,rfl,s',by omega,by omega⟩
end
end K01
end
section
namespace K01
open PySem PySem.Spec PyProof.Rows Tim L2 Wm
section
variable {P:Program} {w:World} {K:PySem.W.Frag} {mg:Str→Option Value} {base:Heap} {f fa fn ft fp fr fs fc:Addr} {fd ad nd td pd rd sd cd:FuncData}
end
end K01
end
section
namespace K01
open PySem PySem.Spec PyProof.Rows Tim L2 Wm
inductive PB:List Nat→Br Str→Prop where
  | one (a:Nat):PB [a] (.leaf (mk [a]))
  | two {w:List Nat} {i:Nat} {b c:Br Str} (h:MW.CutAt w i) (hb:PB (w.take i) b) (hc:PB (w.drop i) c):PB w (.node b c)
theorem PB.len {w:List Nat} {b:Br Str} (h:PB w b):b.wt=w.length:=by
  induction h with
  | one a=>rfl
  | @two w i b c h hb hc ih1 ih2 =>
    show b.wt + c.wt=_
    rw [ih1,ih2,List.length_take,List.length_drop]
    have:=h.2.1
    omega
theorem PB.uni {w:List Nat} {b:Br Str} (h:PB w b):∀ {c:Br Str},PB w c→b=c:=by
  induction h with
  | one a =>
    intro c hc
    cases hc with
    | one=>rfl
    | two h _ _=>have:=h.1;have:=h.2.1;simp at this;omega
  | @two w i b1 b2 h hb hc ih1 ih2 =>
    intro c hc'
    cases hc' with
    | one=>have:=h.1;have:=h.2.1;simp at this;omega
    | two h' hb' hc' =>
      have e:=MW.cut_uni h h'
      subst e
      rw [ih1 hb',ih2 hc']
theorem pb_ex:∀ (n:Nat) (w:List Nat),w.length≤n→MW.Pl w→∃ b,PB w b
  | 0,w,h,hp=>by
    have:w=[]:=List.length_eq_zero_iff.mp (by omega)
    exact absurd this hp.1
  | n + 1,w,h,hp=>by
    by_cases h1:w.length=1
    · obtain ⟨a,rfl⟩:=List.length_eq_one_iff.mp h1
      exact ⟨_,.one a⟩
    · have h0:0 < w.length:=List.length_pos_iff.mpr hp.1
      obtain ⟨i,hi⟩:=MW.cut_ex (w:=w) (by omega)
      have:=hi.1
      have:=hi.2.1
      obtain ⟨b,hb⟩:=pb_ex n (w.take i) (by rw [List.length_take];omega) (MW.cut_plain hp hi)
      obtain ⟨c,hc⟩:=pb_ex n (w.drop i) (by rw [List.length_drop];omega) hi.2.2.1
      exact ⟨_,.two hi hb hc⟩
theorem leaf_of {z:Str} (h:z.length=1):∃ a,Ls z=[a]∧z=mk [a]:=by
  obtain ⟨a,e⟩:=List.length_eq_one_iff.mp (by rw [len_Ls];exact h)
  exact ⟨a,e,by rw [← e,mk_Ls]⟩
section
variable {P:Program} {w:World} {K:PySem.W.Frag} {mg:Str→Option Value} {base:Heap} {f fa fn ft fp fr fs fc:Addr} {fd ad nd td pd rd sd cd:FuncData}
noncomputable def spPb (C:Addr) (n:Nat):Sp:=fun vs H Q E=>∃ z:Str,vs=[.str z]∧z.length≤n∧z.length≤1000∧Abc z ∧
  (MW.Pl (Ls z)→∀ b v H',PB (Ls z) b→Same H H'→BrV H' b v→Q v H')∧(¬ MW.Pl (Ls z)→∀ H',Same H H'→E (.ref C) none H')
theorem scPb:FnScope ["word","parts"] ["word"] (defScope (top 29)):=⟨rfl,rfl,rfl,by decide +kernel,rfl,by decide +kernel,by decide +kernel⟩
theorem fn_never {CX:CXT} {k:Nat} {ps:List Str}:FnOk P w K mg base CX k f fd ps (fun _ _ _ _=>False):=⟨fun vs H Q E h=>h.elim,fun A outer s H args us vs Q E _ _ _ _ h=>h.elim⟩
theorem pb_step {C:Addr} {n k:Nat} {spG:Sp} (T:Blt mg) (F:At K mg "plain_bracket" (top 29) ["word"] f fd) (FC:At K mg "cut" (top 28) ["word"] fc cd) (FP:At K mg "is_plain" (top 27) ["word"] fp pd) (FR:At K mg "refuse_unless_plain" (top 30) ["word"] fr rd) (XC:ExcAt K mg "NoWord" C)
    (G:FnOk P w K mg base (CXE P w) k f fd ["word"] spG) (hk:4≤k) (hG:∀ (z:Str) H Q E,z.length < n→z.length≤1000→Abc z→MW.Pl (Ls z)→(∀ b v H',PB (Ls z) b→Same H H'→BrV H' b v→Q v H')→spG [.str z] H Q E) :
    FnOk P w K mg base (CXE P w) (k + 1) f fd ["word"] (spPb C n):=by
  have GC:FnOk P w K mg base (CXE P w) 3 fc cd ["word"] (spCut C):=ok_cut T FC FP FR XC
  have GR:FnOk P w K mg base (CXE P w) 2 fr rd ["word"] (spRf C):=ok_rf T FR FP XC
  refine F.fn.okE scPb (fun vs H Q E h=>?_) (fun cdv A outer s H vs Q E hr h=>?_)
  · obtain ⟨z,rfl,_⟩:=h
    rfl
  obtain ⟨z,rfl,hn,hz,ha,q1,q2⟩:=h
  have hr3:Room 3 _:=hr.mono (by omega)
  have hr2:Room 2 _:=hr.mono (by omega)
  refine ⟨_,pss_cons (ps_expr (pe_call GR hr2 rfl FR.m FR.k FR.b .nil passE (pa_cons (pv 0) pa_nil)))
    (pss_cons (ps_if (pt_cmpR op_eq (pe_callB call_len_str rfl T.len PySem.boot_len (pa_cons (pv 0) pa_nil)) pe_int (nomark _)) (pss_one (ps_ret (pv 0))) pss_nil)
    (pss_cons (ps_set (i:=1) scPb.nd rfl (Or.inl rfl) (pe_call GC hr3 rfl FC.m FC.k FC.b .nil passE (pa_cons (pv 0) pa_nil)))
    (pss_one (ps_ret (pe_tup (pa_cons (pe_call G hr rfl F.m F.k F.b .nil passE (pa_cons (pe_ix ix_tup (pv 1) pe_int (fun _ _=>rfl)) pa_nil)) (pa_cons (pe_call G hr rfl F.m F.k F.b .nil passE (pa_cons (pe_ix ix_tup (pv 1) pe_int (fun _ _=>rfl)) pa_nil)) pa_nil))))))),?_⟩
  have hzl:=sizeLine_eq
  refine ⟨_,rfl,z,rfl,hz,ha,fun hp H1 s1=>?_,fun hp H1 s1=>q2 hp H1 s1⟩
  refine ⟨_,rfl,z,rfl,by omega,rfl,_,rfl,?_⟩
  refine ite2 (fun e=>?_) (fun e=>?_)
  · have e:(z.length:Int)=1:=V.int.inj (of_decide_eq_true e)
    obtain ⟨a,e1,e2⟩:=leaf_of (z:=z) (by omega)
    refine ⟨_,rfl,q1 hp (.leaf z) (.str z) H1 (by rw [e1,e2];exact .one a) s1 ⟨rfl,by omega,ha⟩⟩
  · have e:¬ (z.length:Int)=1:=fun y=>e (by rw [y];rfl)
    have h0:0 < z.length:=by rw [← len_Ls];exact List.length_pos_iff.mpr hp.1
    refine ⟨_,rfl,z,rfl,hz,ha,fun _ h2 p i H2 hi np s2 e2=>?_,fun y=>absurd ⟨hp,by omega⟩ y⟩
    have i0:=hi.1
    have i1:=hi.2.1
    rw [len_Ls] at i1
    refine ⟨_,rfl,p,_,_,_,rfl,rfl,.inl (.inl e2),rfl,hG (mk ((Ls z).take i)) _ _ _ ?_ ?_ (abc_take ha) (by rw [Ls_mk];exact MW.cut_plain hp hi) fun b1 v1 H3 pb1 s3 hb1=>?_⟩
    · rw [len_mk,List.length_take,len_Ls];omega
    · rw [len_mk,List.length_take,len_Ls];omega
    rw [Ls_mk] at pb1
    refine ⟨_,rfl,p,_,_,_,rfl,rfl,.inl (.inl (s3 _ _ e2)),rfl,hG (mk ((Ls z).drop i)) _ _ _ ?_ ?_ (abc_drop ha) (by rw [Ls_mk];exact hi.2.2.1) fun b2 v2 H4 pb2 s4 hb2=>?_⟩
    · rw [len_mk,List.length_drop,len_Ls];omega
    · rw [len_mk,List.length_drop,len_Ls];omega
    rw [Ls_mk] at pb2
    refine ⟨(by show 2≤sizeLine;decide),fun p5 n5=>?_⟩
    have s5:=new_same n5 (.tup [v1,v2])
    exact q1 hp (.node b1 b2) (.ref p5) _ (.two hi pb1 pb2) (s1.trans (s2.trans (s3.trans (s4.trans s5)))) ⟨p5,v1,v2,rfl,upd_same,hb1.same (s4.trans s5),hb2.same s5⟩
theorem ok_pb {C:Addr} (T:Blt mg) (F:At K mg "plain_bracket" (top 29) ["word"] f fd) (FC:At K mg "cut" (top 28) ["word"] fc cd) (FP:At K mg "is_plain" (top 27) ["word"] fp pd) (FR:At K mg "refuse_unless_plain" (top 30) ["word"] fr rd) (XC:ExcAt K mg "NoWord" C) :
    ∀ n:Nat,FnOk P w K mg base (CXE P w) (n + 5) f fd ["word"] (spPb C n)
  | 0=>pb_step T F FC FP FR XC (k:=4) fn_never (Nat.le_refl _) fun z H Q E h=>by omega
  | n + 1=>pb_step T F FC FP FR XC (k:=n + 5) (ok_pb T F FC FP FR XC n) (by omega) fun z H Q E h hz ha hp q=>⟨z,rfl,by omega,hz,ha,fun _=>q,fun y=>absurd hp y⟩
end
end K01
end
section
namespace K01
open PySem PySem.Spec PyProof.Rows Tim L2 Wm
section
variable {P:Program} {w:World} {K:PySem.W.Frag} {mg:Str→Option Value} {base:Heap} {f fp fr fs fw:Addr} {fd pd rd sd wd:FuncData}
noncomputable def In (k n m:Int):Prop:=1≤k∧k≤3∧1≤n∧n≤m
noncomputable def spWi (C:Addr):Sp:=fun vs H Q E=>∃ k n m:Int,vs=[.int k,.int n,.int m]∧(m=8∨m=60)∧(In k n m→Q .non H)∧(¬ In k n m→E (.ref C) none H)
theorem scWi:FnScope ["letters","length","longest"] ["letters","length","longest"] (defScope (top 34)):=⟨rfl,rfl,rfl,by decide +kernel,rfl,by decide +kernel,by decide +kernel⟩
noncomputable def Abc3:List Str:=[Str.ofString "a",Str.ofString "b",Str.ofString "c"]
theorem ok_wi {C aL:Addr} (T:Blt mg) (F:At K mg "refuse_unless_within" (top 34) ["letters","length","longest"] f fd) (XC:ExcAt K mg "NoNumber" C) (hL:mg "LETTERS" = some (.ref aL)) (tL:TupK K aL Abc3) :
    FnOk P w K mg base (CXE P w) 1 f fd ["letters","length","longest"] (spWi C):=by
  refine F.fn.okE scWi (fun vs H Q E h=>?_) (fun cdv A outer s H vs Q E hr h=>?_)
  · obtain ⟨k,n,m,rfl,_⟩:=h
    rfl
  obtain ⟨k,n,m,rfl,hm,q1,q2⟩:=h
  refine ⟨_,pss_cons (ps_if (PW.pt (pw_or (pt_cmpR op_lt (pv 0) pe_int (nomark _)) (pw_or1 (pt_cmpR op_gt (pv 0) (pe_callB call_len_seq rfl T.len PySem.boot_len (pa_cons (pe_glob (v:=.ref aL) rfl hL rfl) pa_nil)) (nomark _)))))
      (pss_one (ps_raise hr.hd XC rfl (pa_cons pe_str pa_nil))) pss_nil)
    (pss_one (ps_if (PW.pt (pw_or (pt_cmpR op_lt (pv 1) pe_int (nomark _)) (pw_or1 (pt_cmpR op_gt (pv 1) (pv 2) (nomark _)))))
      (pss_one (ps_raise hr.hd XC rfl (pa_cons (pe_join (pj_cons pe_str (pj_cons (pe_fmt (pv 2)) pj_nil))) pa_nil))) pss_nil)),?_⟩
  have hz:=sizeLine_eq
  refine ⟨_,rfl,_,_,rfl,rfl,_,rfl,?_⟩
  refine ite2 (fun c=>iteT ⟨by show 1≤sizeLine;omega,q2 fun y=>?_⟩) (fun c=>?_)
  · have c:k < 1:=of_decide_eq_true c
    have:=y.1
    omega
  have c:¬ k < 1:=fun y=>c (decide_eq_true y)
  refine ⟨_,rfl,aL,_,rfl,.inr (tL.sq H),_,_,rfl,rfl,_,rfl,?_⟩
  refine ite2 (fun d=>⟨by show 1≤sizeLine;omega,q2 fun y=>?_⟩) (fun d=>?_)
  · have d:(3:Int) < k:=of_decide_eq_true d
    have:=y.2.1
    omega
  have d:¬ (3:Int) < k:=fun y=>d (decide_eq_true y)
  have fin:¬ In k n m→tRaise C E (tCons (jCons (tC (V.str (Str.ofString "the length is not 1 to "))) (jCons (tFmt (tVar 2)) jNil) Str.empty) tNil)
      { nx:=fun x H'=>Q V.non H',rt:=Q } (L2.start [Str.ofString "letters",Str.ofString "length",Str.ofString "longest"] [V.int k,V.int n,V.int m]) H:=fun h=>by
    refine ⟨_,rfl,by decide +kernel,_,rfl,.inr ⟨m,rfl,?_,_,rfl,?_,?_,by show 1≤sizeLine;omega,q2 h⟩⟩
    · rcases hm with rfl | rfl <;> decide
    · rcases hm with rfl | rfl <;> decide +kernel
    · rcases hm with rfl | rfl <;> decide +kernel
  refine ⟨_,rfl,_,_,rfl,rfl,_,rfl,?_⟩
  refine ite2 (fun e=>iteT (fin fun y=>?_)) (fun e=>?_)
  · have e:n < 1:=of_decide_eq_true e
    have:=y.2.2.1
    omega
  have e:¬ n < 1:=fun y=>e (decide_eq_true y)
  refine ⟨_,rfl,_,rfl,_,_,rfl,rfl,_,rfl,?_⟩
  refine ite2 (fun g=>fin fun y=>?_) (fun g=>q1 ?_)
  · have g:m < n:=of_decide_eq_true g
    have:=y.2.2.2
    omega
  · have g:¬ m < n:=fun y=>g (decide_eq_true y)
    exact ⟨by omega,by omega,by omega,by omega⟩
theorem scHm:FnScope ["letters","length","total","divisor"] ["letters","length"] (defScope (top 33)):=⟨rfl,rfl,rfl,by decide +kernel,rfl,by decide +kernel,by decide +kernel⟩
end
end K01
end
section
namespace K01
open PySem PySem.Spec PyProof.Rows Tim L2 Wm
noncomputable def ws (l:List (List Nat)):List V:=l.map fun w=>.str (mk w)
section
variable {P:Program} {w:World} {K:PySem.W.Frag} {mg:Str→Option Value} {base:Heap} {f fp fr fs fw fa:Addr} {fd pd rd sd wd ad:FuncData}
end
end K01
end
section
namespace K01
open PySem PySem.Spec PyProof.Rows Tim L2 Wm
section
variable {P:Program} {w:World} {K:PySem.W.Frag} {mg:Str→Option Value} {base:Heap} {f fp fr fs fw fa:Addr} {fd pd rd sd wd ad:FuncData}
theorem scPlw:FnScope ["letters","length"] ["letters","length"] (defScope (top 31)):=⟨rfl,rfl,rfl,by decide +kernel,rfl,by decide +kernel,by decide +kernel⟩
end
end K01
end
section
namespace K01
open PySem PySem.Spec PyProof.Rows Tim L2 Wm
noncomputable def brL:Br Str→List Nat
  | .leaf x=>Ls x
  | .node a b=>brL a++brL b
theorem isum_zero {β:Type} {f:β→Int}:∀ {l:List β},(∀ p∈l,f p=0)→isum (l.map f)=0
  | [],_=>rfl
  | x :: r,h=>by
    simp only [List.map_cons,isum]
    rw [h x (List.mem_cons_self ..),isum_zero fun p hp=>h p (List.mem_cons_of_mem _ hp)]
    rfl
theorem isum_ne {β:Type} {f:β→Int} {l:List β} (h:isum (l.map f)≠0):∃ p∈l,f p≠0:=by
  refine Classical.byContradiction fun y=>h (isum_zero fun p hp=>?_)
  exact Classical.byContradiction fun z=>y ⟨p,hp,z⟩
theorem key_mem {d:D Str} {p:Str×Int} (h:p∈d):p.1∈keys d:=List.mem_map.mpr ⟨p,h,rfl⟩
theorem tw_key {a b:D Str} {x:Str} (h:x∈keys (foldL cat a b)):∃ y∈keys a,∃ z∈keys b,x=cat y z∨x=cat z y:=by
  have g:=good_foldL (op:=cat) a b
  have v:=g.2.val g.1 h
  rw [val_foldL] at v
  obtain ⟨p,hp,v⟩:=isum_ne v
  obtain ⟨q,hq,v⟩:=isum_ne v
  refine ⟨p.1,key_mem hp,q.1,key_mem hq,?_⟩
  unfold gv at v
  by_cases e1:x=cat p.1 q.1
  · exact .inl e1
  · rw [if_neg e1] at v
    by_cases e2:x=cat q.1 p.1
    · exact .inr e2
    · rw [if_neg e2] at v;exact absurd rfl v
theorem br_perm:∀ (b:Br Str) {x:Str},x∈keys (cL cat b)→(Ls x).Perm (brL b)
  | .leaf y,x,h=>by
    have:x=y:=by simpa [keys,cL] using h
    rw [this]
    exact List.Perm.refl _
  | .node l r,x,h=>by
    obtain ⟨y,hy,z,hz,e⟩:=tw_key h
    have p1:=br_perm l hy
    have p2:=br_perm r hz
    rcases e with e | e
    · rw [e]
      show (Ls (y++z)).Perm (brL l++brL r)
      rw [Ls_cat]
      exact p1.append p2
    · rw [e]
      show (Ls (z++y)).Perm (brL l++brL r)
      rw [Ls_cat]
      exact (p2.append p1).trans List.perm_append_comm
theorem br_len (b:Br Str) {x:Str} (h:x∈keys (cL cat b)):(Ls x).length=(brL b).length:=(br_perm b h).length_eq
theorem PB.lets {w:List Nat} {b:Br Str} (h:PB w b):brL b=w:=by
  induction h with
  | one a=>exact Ls_mk _
  | @two w i b c h hb hc ih1 ih2 =>
    show brL b++brL c=w
    rw [ih1,ih2,List.take_append_drop]
theorem isum_pick {d:D Str} (hn:(keys d).Nodup) (u:Str) (c:Int):isum (d.map fun p=>if p.1=u then p.2 * c else 0)=val d u * c:=by
  induction d with
  | nil=>show (0:Int)=_;unfold val;rw [look_nil];simp
  | cons p r ih =>
    have hn':(keys r).Nodup:=(List.nodup_cons.mp hn).2
    have hp:p.1 ∉ keys r:=(List.nodup_cons.mp hn).1
    simp only [List.map_cons,isum]
    rw [ih hn']
    by_cases e:p.1=u
    · rw [if_pos e]
      unfold val
      rw [look_pos e]
      have:look r u=none:=look_none.mpr (by rw [← e];exact hp)
      rw [this]
      simp
    · rw [if_neg e]
      unfold val
      rw [look_neg e]
      omega
theorem PB.words {w:List Nat} {b:Br Str} (h:PB w b):MW.Pl w→val (cL cat b) (mk w)=1∧∀ x∈keys (cL cat b),¬ Ls x < w:=by
  induction h with
  | one a =>
    intro _
    refine ⟨?_,fun x hx=>?_⟩
    · show val [(mk [a],(1:Int))] (mk [a])=1
      unfold val
      rw [look_pos rfl]
      rfl
    · have:x=mk [a]:=by simpa [keys,cL] using hx
      rw [this,Ls_mk]
      exact MW.lt_irrefl _
  | @two w i b c h hb hc ih1 ih2 =>
    intro hw
    have i0:=h.1
    have i1:=h.2.1
    have pu:=MW.cut_plain hw h
    obtain ⟨u1,u2⟩:=ih1 pu
    obtain ⟨v1,v2⟩:=ih2 h.2.2.1
    have lu:∀ x∈keys (cL cat b),(Ls x).length=i:=fun x hx=>by rw [br_len b hx,hb.lets,List.length_take];omega
    have lv:∀ x∈keys (cL cat c),(Ls x).length=w.length - i:=fun x hx=>by rw [br_len c hx,hc.lets,List.length_drop]
    have ltu:(w.take i).length=i:=by rw [List.length_take];omega
    have ltv:(w.drop i).length=w.length - i:=List.length_drop
    have late:∀ x∈keys (cL cat b),∀ y∈keys (cL cat c),w < Ls (cat y x):=fun x hx y hy=>by
      show w < Ls (y++x)
      rw [Ls_cat]
      have h1:=hw.2 i i0 i1
      have hl:(w.drop i).length≤w.length:=by omega
      have h2:=MW.lt_more h1 hl [] (Ls x)
      rw [List.append_nil] at h2
      rcases MW.tri (w.drop i) (Ls y) with z | z | z
      · exact MW.lt_trans h2 (MW.lt_more z (by rw [lv y hy,ltv];omega) _ _)
      · rw [← z];exact h2
      · exact absurd z (v2 y hy)
    refine ⟨?_,fun x hx=>?_⟩
    · show val (foldL cat (cL cat b) (cL cat c)) (mk w)=1
      rw [val_foldL]
      have key:∀ p∈cL cat b,isum ((cL cat c).map fun q=>gv cat p q (mk w))=if p.1=mk (w.take i) then p.2 * val (cL cat c) (mk (w.drop i)) else 0:=fun p hp=>by
        have h1:∀ q∈cL cat c,gv cat p q (mk w)=if q.1=mk (w.drop i) then q.2 * (if p.1=mk (w.take i) then p.2 else 0) else 0:=fun q hq=>by
          unfold gv
          have n2:¬ mk w=cat q.1 p.1:=fun e=>by
            have:=late p.1 (key_mem hp) q.1 (key_mem hq)
            rw [← e,Ls_mk] at this
            exact MW.lt_irrefl _ this
          rw [if_neg n2,Int.add_zero]
          by_cases e:mk w=cat p.1 q.1
          · have e':w=Ls p.1++Ls q.1:=by
              have:Ls (mk w)=Ls (p.1++q.1):=congrArg Ls e
              rw [Ls_mk,Ls_cat] at this
              exact this
            have a1:w.take i=Ls p.1:=by rw [e',List.take_append_of_le_length (by rw [lu _ (key_mem hp)];omega),List.take_of_length_le (by rw [lu _ (key_mem hp)];omega)]
            have a2:w.drop i=Ls q.1:=by rw [e',List.drop_append_of_le_length (by rw [lu _ (key_mem hp)];omega),List.drop_of_length_le (by rw [lu _ (key_mem hp)];omega)];rfl
            rw [if_pos e,if_pos (by rw [a2,mk_Ls]),if_pos (by rw [a1,mk_Ls]),Int.mul_comm]
          · rw [if_neg e]
            by_cases e1:q.1=mk (w.drop i)
            · rw [if_pos e1]
              by_cases e2:p.1=mk (w.take i)
              · refine absurd ?_ e
                rw [e1,e2]
                show mk w=mk (w.take i)++mk (w.drop i)
                refine str_ext ?_
                rw [Ls_cat,Ls_mk,Ls_mk,Ls_mk,List.take_append_drop]
              · rw [if_neg e2,Int.mul_zero]
            · rw [if_neg e1]
        rw [isum_map_congr h1,isum_pick (nd_cL c)]
        by_cases e2:p.1=mk (w.take i)
        · rw [if_pos e2,if_pos e2,Int.mul_comm]
        · rw [if_neg e2,if_neg e2,Int.mul_zero]
      rw [isum_map_congr key,isum_pick (nd_cL b),u1,v1]
      rfl
    · obtain ⟨y,hy,z,hz,e⟩:=tw_key hx
      rcases e with e | e
      · rw [e]
        show ¬ Ls (y++z) < w
        rw [Ls_cat]
        intro q
        rw [← List.take_append_drop i w] at q
        rcases MW.lt_of_more q (by rw [lu y hy,ltu]) with q | ⟨_,q⟩
        · exact u2 y hy q
        · exact v2 z hz q
      · rw [e]
        exact MW.lt_asymm (late y hy z hz)
end K01
end
section
namespace K01
open PySem PySem.Spec PyProof.Rows Tim L2 Wm
theorem iso:MD.Iso cat Ls mk:=⟨Ls_mk,mk_Ls,fun x y=>Ls_cat x y⟩
noncomputable def pbr (z:Str):Br Str:=open Classical in if h:∃ b,PB (Ls z) b then Classical.choose h else .leaf z
theorem pbr_pb {z:Str} (h:MW.Pl (Ls z)):PB (Ls z) (pbr z):=by
  have e:=pb_ex _ (Ls z) (Nat.le_refl _) h
  unfold pbr
  rw [dif_pos e]
  exact Classical.choose_spec e
theorem PB.lt {w:List Nat} {b:Br Str} (h:PB w b):MD.Lt Ls b:=by
  induction h with
  | one a=>exact ⟨a,Ls_mk _⟩
  | two _ _ _ i1 i2=>exact ⟨i1,i2⟩
theorem pbk:MD.PBk cat Ls mk pbr where
  one:=fun z h=>by have:=((pbr_pb h).words h).1;rw [mk_Ls] at this;exact this
  late:=fun z h=>((pbr_pb h).words h).2
  perm:=fun z h x hx=>by have:=br_perm (pbr z) hx;rw [(pbr_pb h).lets] at this;exact this
  lie:=fun z h=>MD.lie_cL iso (pbr_pb h).lt
noncomputable def skS (z:Str):Str:=mk ((Ls z).mergeSort (fun a b=>decide (a≤b)))
theorem skS_perm (z:Str):(Ls (skS z)).Perm (Ls z):=by unfold skS;rw [Ls_mk];exact List.mergeSort_perm _ _
theorem srt_uni {a b:List Nat} (ha:a.Pairwise (·≤·)) (hb:b.Pairwise (·≤·)) (p:a.Perm b):a=b:=List.Perm.eq_of_pairwise (fun x y _ _ h1 h2=>Nat.le_antisymm h1 h2) ha hb p
theorem srt_ms (l:List Nat):(l.mergeSort (fun a b=>decide (a≤b))).Pairwise (·≤·):=by
  have:=List.pairwise_mergeSort (le:=fun a b:Nat=>decide (a≤b)) (fun a b c h1 h2=>decide_eq_true (Nat.le_trans (of_decide_eq_true h1) (of_decide_eq_true h2))) (fun a b=>by rcases Nat.le_total a b with h | h <;> simp [h]) l
  exact this.imp fun h=>of_decide_eq_true h
theorem skS_eq {x y:Str}:skS x=skS y↔(Ls x).Perm (Ls y):=by
  refine ⟨fun e=>?_,fun p=>?_⟩
  · have:=(skS_perm x).symm
    rw [e] at this
    exact this.trans (skS_perm y)
  · unfold skS
    rw [srt_uni (srt_ms _) (srt_ms _) ((List.mergeSort_perm _ _).trans (p.trans (List.mergeSort_perm _ _).symm))]
theorem glued_ls:∀ (ss:List Str),Ls (Builtin.Str.glued (Str.ofString "") ss)=ss.flatMap Ls:=by
  have go:∀ (ss:List Str) (acc:Array Nat),(ss.foldl (fun acc p=>acc++(Str.ofString "").cps++p.cps) acc).toList=acc.toList++ss.flatMap Ls:=by
    intro ss
    induction ss with
    | nil=>intro acc;simp
    | cons s ss ih =>
      intro acc
      rw [List.foldl_cons,ih]
      have:(Str.ofString "").cps = #[]:=by decide
      rw [this]
      simp [List.flatMap_cons]
  intro ss
  cases ss with
  | nil=>rfl
  | cons s ss =>
    show (List.foldl _ s.cps ss).toList=_
    rw [go,List.flatMap_cons]
theorem join_sorted {z:Str} {ss:List Str} (p:ss.Perm (L2.signs z)) (hs:sortedS ss=true):Builtin.Str.glued (Str.ofString "") ss=skS z:=by
  have one:∀ s∈ss,∃ c,s=⟨#[c]⟩:=fun s h=>by
    obtain ⟨c,_,e⟩:=List.mem_map.mp (p.mem_iff.mp h)
    exact ⟨c,e.symm⟩
  have pw:=sorted_all hs
  refine str_ext ?_
  rw [glued_ls]
  have h1:(ss.flatMap Ls).Perm (Ls z):=by
    refine (p.flatMap_right Ls).trans ?_
    unfold L2.signs
    rw [List.flatMap_map]
    show ((Ls z).flatMap fun c=>[c]).Perm (Ls z)
    rw [List.flatMap_singleton']
  have h2:(ss.flatMap Ls).Pairwise (·≤·):=by
    clear h1 p hs
    induction ss with
    | nil=>exact .nil
    | cons s ss ih =>
      obtain ⟨c,rfl⟩:=one s (List.mem_cons_self ..)
      have pw':=List.pairwise_cons.mp pw
      rw [List.flatMap_cons]
      refine List.pairwise_cons.mpr ⟨fun d hd=>?_,ih (fun s h=>one s (List.mem_cons_of_mem _ h)) pw'.2⟩
      obtain ⟨t,ht,hd⟩:=List.mem_flatMap.mp hd
      obtain ⟨e,rfl⟩:=one t (List.mem_cons_of_mem _ ht)
      have:d=e:=by simpa [Ls] using hd
      subst this
      have:=pw'.1 _ ht
      rcases Nat.lt_or_ge d c with q | q
      · exact absurd (show [d] < [c] from List.cons_lt_cons_iff.mpr (.inl q)) this
      · exact q
  unfold skS
  rw [Ls_mk]
  exact srt_uni h2 (srt_ms _) (h1.trans (List.mergeSort_perm _ _).symm)
end K01
end
section
namespace K01
open PySem PySem.Spec PyProof.Rows Tim L2 Wm
theorem nodup_le {α:Type} [DecidableEq α]:∀ {l m:List α},l.Nodup→(∀ x∈l,x∈m)→l.length≤m.length
  | [],m,_,_=>Nat.zero_le _
  | a :: l,m,h,hs=>by
    have hn:=List.nodup_cons.mp h
    have i:=nodup_le (l:=l) (m:=m.erase a) hn.2 fun x hx=>(List.mem_erase_of_ne (fun (e:x=a)=>hn.1 (e ▸ hx))).mpr (hs x (List.mem_cons_of_mem _ hx))
    have ha:=hs a (List.mem_cons_self ..)
    rw [List.length_erase_of_mem ha] at i
    have:=List.length_pos_of_mem ha
    rw [List.length_cons]
    omega
theorem len_words:∀ n,(MD.words n).length=3 ^ n
  | 0=>rfl
  | n + 1=>by
    unfold MD.words
    rw [List.length_flatMap]
    have e:((MD.words n).map fun w=>[97 :: w,98 :: w,99 :: w].length)=(MD.words n).map fun _=>3:=rfl
    rw [e,List.map_const',List.sum_replicate_nat,len_words n,Nat.pow_succ]
theorem part_len {x:D Str} {m:List Nat} (hn:(keys x).Nodup) (hp:∀ y∈keys x,(Ls y).Perm m) (hm:∀ c∈m,c∈[97,98,99]) (h8:m.length≤8):x.length≤6561:=by
  have h1:((keys x).map Ls).Nodup:=List.Pairwise.map _ (fun a b n e=>n (str_ext e)) hn
  have h2:=nodup_le h1 (m:=MD.words m.length) fun y hy=>by
    obtain ⟨z,hz,rfl⟩:=List.mem_map.mp hy
    have p:=hp z hz
    rw [← p.length_eq]
    exact MD.mem_words _ fun c hc=>hm c (p.mem_iff.mp hc)
  rw [len_words,List.length_map] at h2
  have h3:(keys x).length=x.length:=List.length_map _
  have h4:3 ^ m.length≤3 ^ 8:=Nat.pow_le_pow_right (by decide) h8
  have h5:3 ^ 8=6561:=by decide
  omega
theorem val_addAll {y x:D Str} (hy:(keys y).Nodup) (t:Int) (z:Str):val (addAll y t x) z=val x z + t * val y z:=by
  unfold addAll
  rw [val_fold (g:=fun q z=>if z=q.1 then t * q.2 else 0) (fun d q z=>val_add d q.1 z _),MD.val_isum hy,← MD.isum_mul]
  congr 1
  refine isum_map_congr fun q _=>?_
  by_cases e:z=q.1
  · rw [if_pos e,if_pos e.symm]
  · rw [if_neg e,if_neg (Ne.symm e),Int.mul_zero]
theorem nd_addAll {y:D Str} (t:Int):∀ {x:D Str},(keys x).Nodup→(keys (addAll y t x)).Nodup:=fun {x} h=>keep_fold (P:=fun d=>(keys d).Nodup) (fun d p hd=>nd_add hd _ _) y x h
noncomputable abbrev RIS (m:List Nat) (x f y:D Str):Prop:=MD.RI cat Ls mk pbr m x f y
noncomputable def spPc (C:Addr):Sp:=fun vs H Q E=>∃ (d:Addr) (x:D Str) (m:List Nat),vs=[.ref d]∧Rd H d (.dK (dk x))∧(keys x).Nodup∧NZ x∧(∀ y∈keys x,(Ls y).Perm m)∧(∀ c∈m,c∈[97,98,99])∧m.length≤8 ∧
  (∀ r f H',H r=none→Same H H'→H' r=some (.dK (dk f))→RIS m x f []→Q (.ref r) H')∧(¬ ML.Lie (MD.fn mk x)→∀ H',Same H H'→E (.ref C) none H')
section
variable {P:Program} {w:World} {K:PySem.W.Frag} {mg:Str→Option Value} {base:Heap} {f fa fn ft fp fr fs fc fb fi:Addr} {fd ad nd td pd rd sd cd bd id':FuncData}
theorem scPc:FnScope ["part","found","left","least","count"] ["part"] (defScope (top 46)):=⟨rfl,rfl,rfl,by decide +kernel,rfl,by decide +kernel,by decide +kernel⟩
theorem bt_dict:bootBuiltins "dict" = some (.type "dict"):=by decide +kernel
theorem ok_pc {C N:Addr} (T:Blt mg) (F:At K mg "plain_counts_of" (top 46) ["part"] f fd) (FI:At K mg "is_plain" (top 27) ["word"] fi id') (FP:At K mg "plain_bracket" (top 29) ["word"] fp pd) (FB:At K mg "bracket_counts" (top 6) ["bracket"] fb bd)
    (FS:At K mg "add_counts" (top 8) ["counts","times","added"] fs sd) (FA:At K mg "add_count" (top 9) ["counts","word","count"] fa ad) (FN:At K mg "without_noughts" (top 10) ["counts"] fn nd) (XS:ExcAt K mg "NoSum" C)
    (GB:FnOk P w K mg base (CXE P w) 13 fp pd ["word"] (spPb N 8)) (GC:FnOk P w K mg base CX0 14 fb bd ["bracket"] (spBc (cP cat) 12)) :
    FnOk P w K mg base (CXE P w) 15 f fd ["part"] (spPc C):=by
  have GP:FnOk P w K mg base CX0 1 fi id' ["word"] spPl:=ok_pl T FI
  have GS:FnOk P w K mg base CX0 2 fs sd ["counts","times","added"] spAdA:=ok_adA FS FA
  have GN:FnOk P w K mg base CX0 1 fn nd ["counts"] spNz:=ok_nz FN.fn
  refine F.fn.okE scPc (fun vs H Q E h=>?_) (fun cdv A outer s H vs Q E hr h=>?_)
  · obtain ⟨d,x,m,rfl,_⟩:=h
    rfl
  obtain ⟨d,x,m,rfl,hd,ndx,nzx,per,abc,h8,q1,q2⟩:=h
  have hr1:Room 1 _:=hr.mono (by omega)
  have hr2:Room 2 _:=hr.mono (by omega)
  have hr13:Room 13 _:=hr.mono (by omega)
  have hr14:Room 14 _:=hr.mono (by omega)
  refine ⟨_,@PSsW.out _ _ _ (w_cons ⟨ps_set (i:=1) scPc.nd rfl (Or.inl rfl) pe_dnewK⟩
    (w_cons ⟨ps_set (i:=2) scPc.nd rfl (Or.inl rfl) (pe_callTy call_dict_of rfl T.dict bt_dict (pa_cons (pv 0) pa_nil))⟩
    (w_cons ⟨ps_while PassesOwn.leaving (pt_truthD (pv 2) (fun _=>rfl))
      (pss_cons (ps_set (i:=3) scPc.nd rfl (Or.inl rfl) (pe_callB (call_min_dict rfl) rfl T.min L2.boot_min (pa_cons (pv 2) pa_nil)))
      (pss_cons (ps_if (pt_not (pt_val (pe_call GP hr1 rfl FI.m FI.k FI.b .nil pass0 (pa_cons (pv 3) pa_nil)))) (pss_one (ps_raise hr.hd XS rfl (pa_cons (pe_join (pj_cons pe_str (pj_cons (pe_fmtR (pv 3)) (pj_cons pe_str pj_nil)))) pa_nil))) pss_nil)
      (pss_cons (ps_set (i:=4) scPc.nd rfl (Or.inl rfl) (pe_dget (hu_of hr) (pv 2) (pv 3) (fun _ _=>rfl)))
      (pss_cons (ps_dput (hu_of hr) (pv 1) (pv 3) (pv 4) rfl)
      (pss_cons (ps_expr (pe_call GS hr2 rfl FS.m FS.k FS.b .nil pass0 (pa_cons (pv 2) (pa_cons (pe_un un_neg (pv 4)) (pa_cons (pe_call GC hr14 rfl FB.m FB.k FB.b .nil pass0 (pa_cons (pe_call GB hr13 rfl FP.m FP.k FP.b .nil passF (pa_cons (pv 3) pa_nil)) pa_nil)) pa_nil)))))
      (pss_one (ps_set (i:=2) scPc.nd rfl (Or.inl rfl) (pe_call GN hr1 rfl FN.m FN.k FN.b .nil pass0 (pa_cons (pv 2) pa_nil)))))))))⟩
    (w_one ⟨ps_ret (pv 1)⟩)))),?_⟩
  have hz:=sizeLine_eq
  intro r nr
  have s1:=new_same nr (.dK [])
  refine ⟨_,rfl,d,dk x,rfl,rd_same s1 hd,fun l nl=>?_⟩
  have s2:=new_same nl (.dK (dk x))
  have nrl:r≠l:=fun e=>by rw [← e,upd_same] at nl;cases nl
  refine ⟨fun n σ Hx=>∃ (g y:D Str) (y3 y4:Option V) (l:Addr),σ=[some (.ref d),some (.ref r),some (.ref l),y3,y4]∧Same H Hx∧Hx r=some (.dK (dk g))∧Hx l=some (.dK (dk y))∧r≠l∧H l=none∧RIS m x g y∧n=MD.meas Ls m.length y,⟨_,[],x,none,none,l,rfl,s1.trans s2,s2 _ _ upd_same,upd_same,nrl,s1.free nl,MD.RI.start ndx nzx per,rfl⟩,?_⟩
  rintro n σ Hx ⟨g,y,y3,y4,l,rfl,sx,hg,hl,nrl,nl,R,rfl⟩
  refine ⟨_,rfl,l,dk y,rfl,.inl hl,?_⟩
  by_cases hy:y=[]
  · subst hy
    refine iteF ?_
    exact ⟨_,rfl,q1 r g Hx nr sx hg R⟩
  have hne:(!(dk y).isEmpty)=true:=by
    cases y with
    | nil=>exact absurd rfl hy
    | cons _ _=>rfl
  rw [hne]
  refine iteT ?_
  refine ⟨fun σ' H'=>∃ m' < MD.meas Ls m.length y,∃ (g y:D Str) (y3 y4:Option V) (l:Addr),σ'=[some (.ref d),some (.ref r),some (.ref l),y3,y4]∧Same H H'∧H' r=some (.dK (dk g))∧H' l=some (.dK (dk y))∧r≠l∧H l=none∧RIS m x g y∧m'=MD.meas Ls m.length y,fun σ' H' h=>h,?_⟩
  have kne:keys y≠[]:=fun e=>hy (List.map_eq_nil_iff.mp e)
  refine ⟨_,rfl,l,_,keys y,rfl,.inl hl,dk_keys _,kne,fun v hv hmin=>?_⟩
  have pv':=R.per v hv
  have hvl:v.length≤8:=by rw [← len_Ls,pv'.length_eq];exact h8
  have hva:Abc v:=fun c hc=>by
    have:=abc c (pv'.mem_iff.mp hc)
    simpa using this
  refine ⟨_,rfl,v,rfl,by omega,fun H1 s3=>⟨_,rfl,?_⟩⟩
  have hg1:=s3 _ _ hg
  have hl1:=s3 _ _ hl
  by_cases hp:MW.Pl (Ls v)
  · rw [MW.pl_true.mpr hp]
    refine iteF ?_
    obtain ⟨c,hc⟩:∃ c,look y v=some c:=by
      cases e:look y v with
      | none=>exact absurd hv (look_none.mp e)
      | some c=>exact ⟨c,rfl⟩
    have hcv:val y v=c:=by unfold val;rw [hc];rfl
    refine ⟨_,rfl,_,rfl,l,_,rfl,dget_frz (.inl hl1) hc,?_⟩
    have ly:y.length≤6561:=part_len R.nd R.per abc h8
    have lg:g.length≤6561:=part_len R.ndf (fun x hx=>(R.plf x hx).2) abc h8
    refine ⟨_,rfl,_,rfl,_,rfl,r,_,rfl,DPut.k (k:=Sum.inr v) hg1 (by rw [dk_len];omega),?_⟩
    rw [dk_put]
    have hl2:(upd H1 r (.dK (dk (put g v c)))) l=some (.dK (dk y)):=by rw [upd_ne nrl.symm];exact hl1
    refine ⟨_,rfl,_,rfl,_,rfl,_,rfl,v,rfl,hvl,by omega,hva,fun _ b bv H3 pb s4 hb=>?_,fun hn=>absurd hp hn⟩
    have wt:b.wt≤8:=by rw [pb.len,len_Ls];exact hvl
    refine ⟨b,bv,rfl,hb,by omega,by omega,fun r5 H5 n5 s5 e5=>?_⟩
    have hl5:=s5 _ _ (s4 _ _ hl2)
    have hlen:(cP cat b).length≤2 ^ 7:=Nat.le_trans (len_cP b).1 (Nat.pow_le_pow_right (by decide) (by omega))
    refine ⟨l,r5,-c,y,cP cat b,rfl,?_,hl5,.inl e5,by omega,fun p hp=>?_,fun H6 k6 rd6 e6=>?_⟩
    · exact fun e=>by rw [e] at hl2;rw [s4 _ _ hl2] at n5;cases n5
    · exact CMul.ok (mul_ok2 (abs_cP hp) (by omega))
    have n65:(addAll (cP cat b) (-c) y).length < sizeLine:=by
      have:=inS_len (ad:=add) len_add (cP cat b) (-c) y (cP cat b).length
      unfold inS at this
      rw [List.take_length] at this
      unfold addAll
      omega
    refine ⟨_,rfl,l,_,rfl,e6,n65,fun r7 H7 n7 sx7 e7=>?_⟩
    have eb:pbr v=b:=(pbr_pb hp).uni pb
    have ndA:(keys (addAll (cP cat b) (-c) y)).Nodup:=nd_addAll (-c) R.nd
    obtain ⟨nw,R',hm⟩:=R.step (d':=nz (addAll (cP cat b) (-c) y)) iso pbk abc hp hv hmin (nd_nz ndA) (NZ_nz ndA) fun z=>by
      rw [val_nz ndA,val_addAll (nd_cP b),hcv,eb,MD.perm_val (nd_cP b) (c_perm b)]
    rw [hcv] at R'
    have h2r:(upd H1 r (.dK (dk (put g v c)))) r=some (.dK (dk (put g v c))):=upd_same
    have h5r:=s5 _ _ (s4 _ _ h2r)
    have nr5:r≠r5:=fun z=>by rw [← z,s4 _ _ h2r] at n5;cases n5
    have h6r:=k6 r _ nrl nr5 h5r
    have old:∀ z o,H z=some o→H6 z=some o:=fun z o e=>by
      have z1:=s3 _ _ (sx _ _ e)
      have zr:z≠r:=fun y=>by rw [y,nr] at e;cases e
      have z2:(upd H1 r (.dK (dk (put g v c)))) z=some o:=by rw [upd_ne zr];exact z1
      have z4:=s4 _ _ z2
      exact k6 z o (fun y=>by rw [y,nl] at e;cases e) (fun y=>by rw [y,n5] at z4;cases z4) (s5 _ _ z4)
    rw [put_new _ nw] at h6r
    refine ⟨_,hm,_,_,_,_,r7,rfl,fun z o e=>sx7 z o (fun y=>by rw [y,nl] at e;cases e) (old z o e),sx7 r _ nrl h6r,e7,(fun z=>by rw [← z,h6r] at n7;cases n7),?_,R',rfl⟩
    cases e:H r7 with
    | none=>rfl
    | some o=>rw [old _ _ e] at n7;cases n7
  · have hp':MW.pl (Ls v)=false:=Bool.eq_false_iff.mpr fun y=>hp (MW.pl_true.mp y)
    rw [hp']
    refine iteT ?_
    have nL:¬ ML.Lie (MD.fn mk x):=fun L=>hp (R.plain iso L abc h8 hv hmin)
    refine ⟨_,rfl,by decide +kernel,_,rfl,v,rfl,by omega,abc_small hva,fun t ht=>?_⟩
    have l0:(Str.empty++Str.ofString "no sum has these words: ").length=24:=by decide +kernel
    have l1:=len_cat (Str.empty++Str.ofString "no sum has these words: ") t
    have l1:((Str.empty++Str.ofString "no sum has these words: ")++t).length=_:=l1
    have l2:=len_cat ((Str.empty++Str.ofString "no sum has these words: ")++t) (Str.ofString " is left over")
    have l2:(((Str.empty++Str.ofString "no sum has these words: ")++t)++Str.ofString " is left over").length=_:=l2
    have l3:(Str.ofString " is left over").length=13:=by decide +kernel
    exact ⟨t,rfl,by omega,_,rfl,by omega,by omega,(by show 1≤sizeLine;decide),q2 nL _ (sx.trans s3)⟩
end
end K01
end
section
namespace K01
open PySem PySem.Spec PyProof.Rows Tim L2 Wm
noncomputable def kvG (G:List (Str×D Str)) (as:List Addr):List (Key×V):=List.zipWith (fun e a=>((Sum.inr e.1:Key),V.ref a)) G as
theorem kvG_some:∀ {G:List (Str×D Str)} {as:List Addr} {j:Nat} {e:Str×D Str} {a:Addr},(G.map (·.1)).Nodup→G[j]? = some e→as[j]? = some a→valV (kvG G as) (Sum.inr e.1:Key)=some (.ref a)
  | [],as,j,e,a,_,h,_=>by simp at h
  | g :: G,[],j,e,a,_,_,h=>by simp at h
  | g :: G,b :: as,0,e,a,_,h1,h2=>by
    cases h1;cases h2
    unfold valV kvG
    rw [List.zipWith_cons_cons,List.find?_cons_of_pos (by simp)]
    rfl
  | g :: G,b :: as,j + 1,e,a,hn,h1,h2=>by
    rw [List.map_cons] at hn
    have hn:=List.nodup_cons.mp hn
    have h1:G[j]? = some e:=by simpa using h1
    have h2:as[j]? = some a:=by simpa using h2
    have ne:g.1≠e.1:=fun z=>hn.1 (by rw [z];exact List.mem_map.mpr ⟨e,List.mem_of_getElem? h1,rfl⟩)
    have i:=kvG_some hn.2 h1 h2
    unfold valV kvG at i ⊢
    rw [List.zipWith_cons_cons,List.find?_cons_of_neg (by simpa using ne)]
    exact i
theorem kvG_any {G:List (Str×D Str)} {as:List Addr} (hl:as.length=G.length) (k:Str):((kvG G as).any fun kv=>decide (kv.1=(Sum.inr k:Key)))=G.any fun e=>decide (e.1=k):=by
  induction G generalizing as with
  | nil=>cases as <;> rfl
  | cons g G ih =>
    cases as with
    | nil=>simp at hl
    | cons a as =>
      unfold kvG
      rw [List.zipWith_cons_cons,List.any_cons,List.any_cons]
      have:=ih (as:=as) (by simpa using hl)
      unfold kvG at this
      rw [this]
      congr 1
      by_cases e:g.1=k
      · simp [e]
      · simp [e]
theorem kvG_none {G:List (Str×D Str)} {as:List Addr} {k:Str} (hl:as.length=G.length) (h:(G.any fun e=>decide (e.1=k))=false):valV (kvG G as) (Sum.inr k:Key)=none:=by
  rw [← kvG_any hl k] at h
  unfold valV
  rw [Option.map_eq_none_iff,List.find?_eq_none]
  intro x hx y
  rw [List.any_eq_false] at h
  exact h x hx y
theorem kvG_snoc {G:List (Str×D Str)} {as:List Addr} (hl:as.length=G.length) (e:Str×D Str) (a:Addr):kvG (G++[e]) (as++[a])=kvG G as++[((Sum.inr e.1:Key),V.ref a)]:=by
  unfold kvG
  rw [List.zipWith_append hl.symm]
  rfl
theorem kvG_keys {G G':List (Str×D Str)} (as:List Addr) (h:G'.map (·.1)=G.map (·.1)):kvG G' as=kvG G as:=by
  have e:∀ G:List (Str×D Str),kvG G as=List.zipWith (fun (k:Str) a=>((Sum.inr k:Key),V.ref a)) (G.map (·.1)) as:=fun G=>by
    unfold kvG
    rw [List.zipWith_map_left]
  rw [e,e,h]
theorem kvG_len {G:List (Str×D Str)} {as:List Addr} (hl:as.length=G.length):(kvG G as).length=G.length:=by
  unfold kvG;rw [List.length_zipWith];omega
theorem kvG_vals {G:List (Str×D Str)} {as:List Addr} (hl:as.length=G.length):(kvG G as).map (·.2)=as.map V.ref:=by
  induction G generalizing as with
  | nil=>cases as with
    | nil=>rfl
    | cons _ _=>simp at hl
  | cons g G ih =>
    cases as with
    | nil=>simp at hl
    | cons a as =>
      have:=ih (as:=as) (by simpa using hl)
      unfold kvG at this ⊢
      rw [List.zipWith_cons_cons,List.map_cons,List.map_cons,this]
structure PartsAt (H Hy:Hp) (q:Addr) (G:List (Str×D Str)) (as:List Addr):Prop where
  len:as.length=G.length
  nd:as.Nodup
  new:∀ a∈as,H a=none∧a≠q
  top:Hy q=some (.dK (kvG G as))
  at':∀ (j:Nat) e a,G[j]? = some e→as[j]? = some a→Hy a=some (.dK (dk e.2))
noncomputable def grp (x:D Str) (i:Nat):List (Str×D Str):=(x.take i).foldl (MD.gput skS) []
theorem grp_succ {x:D Str} {i:Nat} {p:Str×Int} (e:x[i]? = some p):grp x (i + 1)=MD.gput skS (grp x i) p:=by
  unfold grp;rw [List.take_add_one,e,List.foldl_append];rfl
theorem grp_ok {x:D Str} (hn:(keys x).Nodup):∀ i,i≤x.length→MD.GI skS (grp x i) (x.take i)
  | 0,_=>by unfold grp;rw [List.take_zero];exact MD.GI.nil _
  | i + 1,h=>by
    have e:x[i]? = some x[i]:=List.getElem?_eq_getElem (by omega)
    rw [grp_succ e]
    have t:x.take (i + 1)=x.take i++[x[i]]:=by rw [List.take_add_one,e];rfl
    rw [t]
    refine (grp_ok hn i (by omega)).step fun hm=>?_
    obtain ⟨p,hp,ep⟩:=List.mem_map.mp hm
    obtain ⟨j,hj,ej⟩:=List.getElem_of_mem hp
    rw [List.length_take] at hj
    rw [List.getElem_take] at ej
    have h1:(keys x)[j]'(by unfold keys;rw [List.length_map];omega)=(keys x)[i]'(by unfold keys;rw [List.length_map];omega):=by
      unfold keys
      rw [List.getElem_map,List.getElem_map,ej]
      exact ep
    have:=(List.getElem_inj hn).mp h1
    omega
theorem grp_len (x:D Str):∀ i,(grp x i).length≤i
  | 0=>by unfold grp;rw [List.take_zero];exact Nat.le_refl _
  | i + 1=>by
    have ih:=grp_len x i
    cases e:x[i]? with
    | none =>
      have hi:x.length≤i:=by
        rcases Nat.lt_or_ge i x.length with h | h
        · rw [List.getElem?_eq_getElem h] at e;cases e
        · exact h
      have:grp x (i + 1)=grp x i:=by unfold grp;rw [List.take_of_length_le (by omega),List.take_of_length_le hi]
      rw [this];omega
    | some p =>
      rw [grp_succ e]
      unfold MD.gput
      split
      · rw [List.length_map];omega
      · rw [List.length_append];simp;omega
theorem PartsAt.changed {H Hy:Hp} {q:Addr} {G:List (Str×D Str)} {as:List Addr} (p:PartsAt H Hy q G as) (hn:(G.map (·.1)).Nodup) {e:Str×Int} {j:Nat} {g:Str×D Str} {a:Addr} (hg:G[j]? = some g) (ha:as[j]? = some a) (hk:g.1=skS e.1) :
    PartsAt H (upd Hy a (.dK (dk (put g.2 e.1 e.2)))) q (MD.gput skS G e) as:=by
  have hany:(G.any fun g=>decide (g.1=skS e.1))=true:=List.any_eq_true.mpr ⟨g,List.mem_of_getElem? hg,decide_eq_true hk⟩
  have eG:MD.gput skS G e=G.map fun g=>if g.1=skS e.1 then (g.1,put g.2 e.1 e.2) else g:=by unfold MD.gput;rw [if_pos hany]
  have am:a∈as:=List.mem_of_getElem? ha
  have aq:=(p.new a am).2
  rw [eG]
  refine ⟨by rw [List.length_map];exact p.len,p.nd,p.new,?_,fun i e' b h1 h2=>?_⟩
  · rw [upd_ne aq.symm,p.top]
    congr 2
    refine (kvG_keys as ?_).symm
    rw [List.map_map]
    refine List.map_congr_left fun g _=>?_
    show (if g.1=skS e.1 then (g.1,put g.2 e.1 e.2) else g).1=g.1
    split <;> rfl
  · rw [List.getElem?_map] at h1
    cases hi:G[i]? with
    | none=>rw [hi] at h1;cases h1
    | some g' =>
      rw [hi] at h1
      have h1:(if g'.1=skS e.1 then (g'.1,put g'.2 e.1 e.2) else g')=e':=Option.some.inj h1
      by_cases ij:i=j
      · subst ij
        rw [hg] at hi
        cases hi
        rw [ha] at h2
        cases h2
        rw [upd_same,← h1,if_pos hk]
      · have hil:i < G.length:=(List.getElem?_eq_some_iff.mp hi).1
        have hjl:j < G.length:=(List.getElem?_eq_some_iff.mp hg).1
        have ne:g'.1≠skS e.1:=fun z=>ij (by
          have h3:(G.map (·.1))[i]'(by rw [List.length_map];exact hil)=(G.map (·.1))[j]'(by rw [List.length_map];exact hjl):=by
            rw [List.getElem_map,List.getElem_map,(List.getElem?_eq_some_iff.mp hi).2,(List.getElem?_eq_some_iff.mp hg).2,z,hk]
          exact (List.getElem_inj hn).mp h3)
        rw [if_neg ne] at h1
        subst h1
        have nb:b≠a:=fun z=>ij (by
          subst z
          have e1:=(List.getElem?_eq_some_iff.mp h2)
          have e2:=(List.getElem?_eq_some_iff.mp ha)
          obtain ⟨l1,e1⟩:=e1
          obtain ⟨l2,e2⟩:=e2
          exact (List.getElem_inj p.nd).mp (e1.trans e2.symm))
        rw [upd_ne nb]
        exact p.at' i g' b hi h2
theorem PartsAt.keep {H Hy Hz:Hp} {q:Addr} {G:List (Str×D Str)} {as:List Addr} (p:PartsAt H Hy q G as) (s:Same Hy Hz):PartsAt H Hz q G as:=⟨p.len,p.nd,p.new,s _ _ p.top,fun j e a h1 h2=>s _ _ (p.at' j e a h1 h2)⟩
theorem PartsAt.snoc {H Hy:Hp} {q:Addr} {G:List (Str×D Str)} {as:List Addr} (p:PartsAt H Hy q G as) {e:Str×Int} {n:Addr} (hn:H n=none) (nq:n≠q) (na:n ∉ as) (hno:(G.any fun g=>decide (g.1=skS e.1))=false) :
    PartsAt H (upd (upd Hy q (.dK (kvG G as++[((Sum.inr (skS e.1):Key),V.ref n)]))) n (.dK (dk [e]))) q (MD.gput skS G e) (as++[n]):=by
  have eG:MD.gput skS G e=G++[(skS e.1,[e])]:=by unfold MD.gput;rw [if_neg (by rw [hno];decide)]
  rw [eG]
  refine ⟨by rw [List.length_append,List.length_append,p.len];rfl,?_,fun a ha=>?_,?_,fun i e' b h1 h2=>?_⟩
  · refine List.nodup_append.mpr ⟨p.nd,by simp,fun a ha b hb=>?_⟩
    have:b=n:=by simpa using hb
    rw [this]
    exact fun (z:a=n)=>na (z ▸ ha)
  · rcases List.mem_append.mp ha with h | h
    · exact p.new a h
    · have:a=n:=by simpa using h
      rw [this];exact ⟨hn,nq⟩
  · rw [upd_ne nq.symm,upd_same,kvG_snoc p.len]
  · rcases Nat.lt_or_ge i G.length with hi | hi
    · rw [List.getElem?_append_left hi] at h1
      rw [List.getElem?_append_left (by rw [p.len];exact hi)] at h2
      have bm:=List.mem_of_getElem? h2
      rw [upd_ne (fun (z:b=n)=>na (z ▸ bm)),upd_ne (p.new b bm).2]
      exact p.at' i e' b h1 h2
    · rw [List.getElem?_append_right hi] at h1
      rw [List.getElem?_append_right (by rw [p.len];exact hi),p.len] at h2
      cases hk:i - G.length with
      | zero =>
        rw [hk] at h1 h2
        cases h1
        cases h2
        exact upd_same
      | succ m=>rw [hk] at h1;simp at h1
theorem ones_sum:∀ {l:List Str},(∀ s∈l,s.length=1)→(l.map (·.length)).sum=l.length
  | [],_=>rfl
  | s :: l,h=>by
    rw [List.map_cons,List.sum_cons,List.length_cons,ones_sum fun t ht=>h t (List.mem_cons_of_mem _ ht),h s (List.mem_cons_self ..)]
    omega
theorem signs_fit {z:Str} {ss:List Str} (p:ss.Perm (L2.signs z)) (hz:z.length < 64):(ss.map (·.length)).sum + ss.length * (Str.ofString "").length≤sizeLine:=by
  have h1:∀ s∈ss,s.length=1:=fun s h=>by
    obtain ⟨c,_,e⟩:=List.mem_map.mp (p.mem_iff.mp h)
    rw [← e];rfl
  have h2:ss.length=z.length:=by
    rw [p.length_eq];unfold L2.signs;rw [List.length_map];exact len_Ls z
  have h3:(Str.ofString "").length=0:=by decide
  have hzl:=sizeLine_eq
  rw [ones_sum h1,h3,Nat.mul_zero]
  omega
noncomputable def spPt:Sp:=fun vs H Q _=>∃ (d:Addr) (x:D Str),vs=[.ref d]∧Rd H d (.dK (dk x))∧(keys x).Nodup∧(∀ w∈keys x,w.length < 64)∧x.length < sizeLine ∧
  ∀ (l:Addr) (as:List Addr) H',as.length=(grp x x.length).length→as.Nodup→(∀ a∈as,H a=none)→H l=none→SX d H H'→Rd H' d (.dK (dk x))→H' l=some (.lst (as.map V.ref))→(∀ (j:Nat) e a,(grp x x.length)[j]? = some e→as[j]? = some a→H' a=some (.dK (dk e.2)))→Q (.ref l) H'
section
variable {P:Program} {w:World} {K:PySem.W.Frag} {mg:Str→Option Value} {base:Heap} {f:Addr} {fd:FuncData}
theorem scPt:FnScope ["counts","parts","word","count","part"] ["counts"] (defScope (top 45)):=⟨rfl,rfl,rfl,by decide +kernel,rfl,by decide +kernel,by decide +kernel⟩
theorem ok_pt (T:Blt mg) (F:At K mg "parts_by_letters" (top 45) ["counts"] f fd):FnOk P w K mg base CX0 1 f fd ["counts"] spPt:=by
  refine F.fn.ok scPt (fun vs H Q E h=>?_) (fun cdv A outer s H vs Q E hr h=>?_)
  · obtain ⟨d,x,rfl,_⟩:=h
    rfl
  obtain ⟨d,x,rfl,hd,ndx,h64,hz,qq⟩:=h
  refine ⟨_,pss_cons (ps_set (i:=1) scPt.nd rfl (Or.inl rfl) pe_dnewK)
    (pss_cons (ps_for PassesOwn.never rfl (pi_items (pv 0)) (pg_tup rfl (pgs_cons (pg_name (i:=2) scPt.nd rfl (Or.inl rfl)) (pgs_cons (pg_name (i:=3) scPt.nd rfl (Or.inl rfl)) pgs_nil)))
      (pss_cons (ps_set (i:=4) scPt.nd rfl (Or.inl rfl) (pe_bm PySem.F.plainAttrs_dict PySem.F.slot_dict_setdefault PySem.F.type_dict_setdefault mt_setdef (pv 1) (pa_cons (pe_bm PySem.F.plainAttrs_str PySem.F.slot_str_join PySem.F.type_str_join mt_join pe_str (pa_cons (pe_callB (call_sorted_str rfl) rfl T.srt bt_sorted (pa_cons (pv 2) pa_nil)) pa_nil)) (pa_cons pe_dnewK pa_nil))))
      (pss_one (ps_dput (hu_of hr) (pv 4) (pv 2) (pv 3) rfl))))
    (pss_one (ps_ret (pe_listValues rfl rfl T.lst bt_list (pv 1))))),?_⟩
  have hzl:=sizeLine_eq
  intro q nq
  have s1:=new_same nq (.dK [])
  have dq:d≠q:=by
    rcases hd with h | ⟨o,h⟩
    · exact ne_of_none h nq
    · exact ne_of_none h nq
  dsimp only [gName,tSeq]
  refine loop_items' (d:=d) rfl (rd_same s1 hd) (fun o j σ Hy=>∃ y2 y3 y4 as,σ=[some (.ref d),some (.ref q),y2,y3,y4]∧SX d H Hy∧Hy d=some (.frz o (.dK (dk x)))∧PartsAt H Hy q (grp x j) as) ?_ ?_ ?_ ?_
  · intro o H3 e3 k3 _
    refine ⟨none,none,none,[],rfl,fun b o n e=>by rw [k3 b n];exact s1 _ _ e,e3,rfl,List.nodup_nil,fun a h=>(by cases h),by rw [k3 q dq.symm,upd_same];rfl,fun j e a h _=>?_⟩
    simp [grp] at h
  · rintro o j σ Hy ⟨y2,y3,y4,as,rfl,sy,g1,g2⟩
    exact g1
  · rintro o j k v tb σ Hy hj htb ⟨y2,y3,y4,as,rfl,sy,g1,g2⟩
    obtain ⟨pb,hpb,rfl,rfl⟩:=dk_get hj
    have hjl:j < x.length:=(List.getElem?_eq_some_iff.mp hpb).1
    have sb:=new_same htb (.tup [kV (Sum.inr pb.1),.int pb.2])
    have gi:=grp_ok ndx j (by omega)
    have gl:=grp_len x j
    have hw:pb.1.length < 64:=h64 pb.1 (List.mem_map.mpr ⟨pb,List.mem_of_getElem? hpb,rfl⟩)
    refine ⟨tb,_,rfl,.inl (.inl upd_same),rfl,_,_,rfl,_,_,rfl,rfl,?_⟩
    have p0:=g2.keep sb
    refine ⟨_,rfl,.inr (.inr (.inl ⟨rfl,.inl ⟨_,p0.top⟩⟩)),rfl,_,rfl,pb.1,rfl,hw,fun a1 ss n1 p1 t1=>?_⟩
    have sa:=new_same n1 (.lst (ss.map V.str))
    refine ⟨Str.ofString "",a1,ss,rfl,rfl,.inl (.inl upd_same),signs_fit p1 hw,?_⟩
    rw [join_sorted p1 t1]
    intro n nn
    have sn:=new_same nn (.dK [])
    have p3:=(p0.keep sa).keep sn
    have sxy:SX d H (upd (upd (upd Hy tb (.tup [kV (Sum.inr pb.1),.int pb.2])) a1 (.lst (ss.map V.str))) n (.dK [])):=fun b o' nb e=>sn _ _ (sa _ _ (sb _ _ (sy b o' nb e)))
    have gx:=sn _ _ (sa _ _ (sb _ _ g1))
    revert p3 sxy gx
    generalize hHz:upd (upd (upd Hy tb (.tup [kV (Sum.inr pb.1),.int pb.2])) a1 (.lst (ss.map V.str))) n (.dK [])=Hz
    intro p3 sxy gx
    have zn:Hz n=some (.dK []):=by rw [← hHz];exact upd_same
    have kl:=kvG_len (G:=grp x j) (as:=as) g2.len
    have fin:∀ (z4:Option V) (as':List Addr) (Hw:Hp),SX d H Hw→Hw d=some (.frz o (.dK (dk x)))→PartsAt H Hw q (MD.gput skS (grp x j) pb) as' →
        ∃ y2 y3 y4 as,[some (V.ref d),some (.ref q),some (kV (Sum.inr pb.1)),some (.int pb.2),z4]=[some (V.ref d),some (.ref q),y2,y3,y4]∧SX d H Hw∧Hw d=some (.frz o (.dK (dk x)))∧PartsAt H Hw q (grp x (j + 1)) as:=fun z4 as' Hw h1 h2 h3 =>
      ⟨_,_,z4,as',rfl,h1,h2,by rw [grp_succ hpb];exact h3⟩
    refine ⟨q,kvG (grp x j) as,Sum.inr (skS pb.1),.ref n,rfl,rfl,p3.top,by omega,fun v hv=>?_,fun hv=>?_⟩
    · have hany:((grp x j).any fun g=>decide (g.1=skS pb.1))=true:=by
        refine Bool.of_not_eq_false fun y=>?_
        rw [kvG_none g2.len y] at hv
        cases hv
      obtain ⟨g,hg,hk⟩:=List.any_eq_true.mp hany
      have hk:g.1=skS pb.1:=of_decide_eq_true hk
      obtain ⟨i,hi⟩:=List.getElem?_of_mem hg
      have il:=(List.getElem?_eq_some_iff.mp hi).1
      obtain ⟨a,ha⟩:∃ a,as[i]? = some a:=⟨_,List.getElem?_eq_getElem (by rw [g2.len];exact il)⟩
      have ev:=kvG_some gi.nd hi ha
      rw [hk,hv] at ev
      cases ev
      have za:=p3.at' i g a hi ha
      have ad:a≠d:=fun z=>by rw [z,gx] at za;cases za
      have gl2:g.2.length≤j:=by
        rw [gi.part g hg]
        exact Nat.le_trans (List.length_filter_le _ _) (List.length_take_le _ _)
      refine ⟨_,rfl,_,rfl,_,rfl,a,_,rfl,DPut.k (k:=Sum.inr pb.1) za (by rw [dk_len];omega),?_⟩
      rw [dk_put]
      refine fin (some (.ref a)) as _ (fun b o' nb e=>?_) (by rw [upd_ne ad.symm];exact gx) (p3.changed gi.nd hi ha hk)
      have ba:b≠a:=fun z=>by rw [z,(g2.new a (List.mem_of_getElem? ha)).1] at e;cases e
      rw [upd_ne ba]
      exact sxy b o' nb e
    · have hno:((grp x j).any fun g=>decide (g.1=skS pb.1))=false:=by
        refine Bool.eq_false_iff.mpr fun y=>?_
        obtain ⟨g,hg,hk⟩:=List.any_eq_true.mp y
        obtain ⟨i,hi⟩:=List.getElem?_of_mem hg
        have il:=(List.getElem?_eq_some_iff.mp hi).1
        obtain ⟨a,ha⟩:∃ a,as[i]? = some a:=⟨_,List.getElem?_eq_getElem (by rw [g2.len];exact il)⟩
        have ev:=kvG_some gi.nd hi ha
        rw [of_decide_eq_true hk,hv] at ev
        cases ev
      have ep:putK (kvG (grp x j) as) (Sum.inr (skS pb.1):Key) (.ref n)=kvG (grp x j) as++[((Sum.inr (skS pb.1):Key),V.ref n)]:=by
        unfold putK
        rw [kvG_any g2.len,hno,if_neg (by decide)]
      rw [ep]
      have nq':n≠q:=fun z=>by rw [z,(p0.keep sa).top] at nn;cases nn
      have na:n ∉ as:=fun h=>by
        obtain ⟨i,hi⟩:=List.getElem?_of_mem h
        have il:=(List.getElem?_eq_some_iff.mp hi).1
        obtain ⟨g,hg⟩:∃ g,(grp x j)[i]? = some g:=⟨_,List.getElem?_eq_getElem (by rw [← g2.len];exact il)⟩
        rw [(p0.keep sa).at' i g n hg hi] at nn
        cases nn
      have nd':n≠d:=fun z=>by rw [z,sa _ _ (sb _ _ g1)] at nn;cases nn
      have hn0:H n=none:=by
        cases e:H n with
        | none=>rfl
        | some o'=>rw [sa _ _ (sb _ _ (sy n o' nd' e))] at nn;cases nn
      refine ⟨_,rfl,_,rfl,_,rfl,n,_,rfl,DPut.k (k:=Sum.inr pb.1) (kvs:=dk []) (by rw [upd_ne nq'];exact zn) (by rw [dk_len];show 0 < sizeLine;omega),?_⟩
      rw [dk_put]
      have e1:dk (put ([]:D Str) pb.1 pb.2)=dk [pb]:=rfl
      rw [e1]
      refine fin (some (.ref n)) (as++[n]) _ (fun b o' nb e=>?_) (by rw [upd_ne nd'.symm,upd_ne dq];exact gx) (p3.snoc hn0 nq' na hno)
      have bn:b≠n:=fun z=>by rw [z,hn0] at e;cases e
      have bq:b≠q:=fun z=>by rw [z,nq] at e;cases e
      rw [upd_ne bn,upd_ne bq]
      exact sxy b o' nb e
  · rintro o σ Hy ⟨y2,y3,y4,as,rfl,sy,g1,g2⟩
    rw [dk_len] at g2
    refine ⟨_,rfl,q,_,rfl,.inl g2.top,fun l nl=>?_⟩
    have sl:=new_same nl (.lst ((kvG (grp x x.length) as).map (·.2)))
    have qd:∀ a∈as,a≠d:=fun a ha e=>by
      have:=(g2.new a ha).1
      rw [e] at this
      rcases hd with h | ⟨_,h⟩ <;> rw [h] at this <;> cases this
    refine qq l as _ g2.len g2.nd (fun a ha=>(g2.new a ha).1) ?_ (fun b o' nb e=>sl _ _ (sy b o' nb e)) (.inr ⟨o,sl _ _ g1⟩) (by rw [upd_same,kvG_vals g2.len]) fun j e a h1 h2=>sl _ _ (g2.at' j e a h1 h2)
    cases e:H l with
    | none=>rfl
    | some o' =>
      have:l≠d:=fun z=>by rw [z,g1] at nl;cases nl
      rw [sy l o' this e] at nl;cases nl
end
end K01
end
section
namespace K01
open PySem PySem.Spec PyProof.Rows Tim L2 Wm
theorem made_append (f g:D Str) (z:Str):MD.made cat pbr (f++g) z=MD.made cat pbr f z + MD.made cat pbr g z:=by
  unfold MD.made;rw [List.map_append,isum_append]
theorem grp_key {x:D Str}:∀ (i:Nat) (e:Str×D Str),e∈grp x i→∃ p∈x,e.1=skS p.1
  | 0,e,h=>by unfold grp at h;rw [List.take_zero] at h;cases h
  | i + 1,e,h=>by
    cases hi:x[i]? with
    | none =>
      have hl:x.length≤i:=by
        rcases Nat.lt_or_ge i x.length with q | q
        · rw [List.getElem?_eq_getElem q] at hi;cases hi
        · exact q
      have:grp x (i + 1)=grp x i:=by unfold grp;rw [List.take_of_length_le (by omega),List.take_of_length_le hl]
      rw [this] at h
      exact grp_key i e h
    | some p =>
      rw [grp_succ hi] at h
      unfold MD.gput at h
      split at h
      · obtain ⟨g,hg,he⟩:=List.mem_map.mp h
        obtain ⟨q,hq,hk⟩:=grp_key i g hg
        refine ⟨q,hq,?_⟩
        rw [← he]
        split <;> exact hk
      · rcases List.mem_append.mp h with h | h
        · exact grp_key i e h
        · have:e=(skS p.1,[p]):=by simpa using h
          rw [this]
          exact ⟨p,List.mem_of_getElem? hi,rfl⟩
noncomputable def okW (w:Str):Prop:=Abc w∧w.length≤8
theorem okW_perm {w z:Str} (h:okW z) (p:(Ls w).Perm (Ls z)):okW w:=⟨fun c hc=>h.1 c (p.mem_iff.mp hc),by rw [← len_Ls,p.length_eq,len_Ls];exact h.2⟩
theorem okW_abc {w:Str} (h:okW w):∀ c∈Ls w,c∈[97,98,99]:=fun c hc=>by
  have:=h.1 c hc
  simpa using this
structure FI (G:List (Str×D Str)) (g:D Str):Prop where
  nd:(keys g).Nodup
  nz:NZ g
  pl:∀ w∈keys g,MW.Pl (Ls w)∧okW w∧∃ e∈G,skS w=e.1
  sum:∀ z,MD.made cat pbr g z=isum (G.map fun e=>val e.2 z)
theorem FI.nil:FI [] []:=⟨List.nodup_nil,fun p h=>(by cases h),fun w h=>(by cases h),fun z=>rfl⟩
theorem FI.step {G:List (Str×D Str)} {g f:D Str} {e:Str×D Str} (h:FI G g) (hk:∃ z,okW z∧e.1=skS z) (hn:∀ e'∈G,e'.1≠e.1) (R:RIS (Ls e.1) e.2 f []):FI (G++[e]) (g++f)∧((dk g++dk f).map (·.1)).Nodup:=by
  obtain ⟨z,oz,ez⟩:=hk
  have kf:∀ w∈keys f,MW.Pl (Ls w)∧okW w∧skS w=e.1:=fun w hw=>by
    obtain ⟨h1,h2⟩:=R.plf w hw
    have h3:(Ls w).Perm (Ls z):=by rw [ez] at h2;exact h2.trans (skS_perm z)
    exact ⟨h1,okW_perm oz h3,by rw [ez];exact skS_eq.mpr h3⟩
  have nd:(keys (g++f)).Nodup:=by
    unfold keys
    rw [List.map_append]
    refine List.nodup_append.mpr ⟨h.nd,R.ndf,fun a ha b hb e'=>?_⟩
    subst e'
    obtain ⟨_,_,e',he',hs⟩:=h.pl a ha
    exact hn e' he' (by rw [← hs];exact (kf a hb).2.2)
  refine ⟨⟨nd,fun p hp=>?_,fun w hw=>?_,fun z=>?_⟩,?_⟩
  · rcases List.mem_append.mp hp with q | q
    · exact h.nz p q
    · exact R.nzf p q
  · have hw:w∈keys g++keys f:=by simpa [keys] using hw
    rcases List.mem_append.mp hw with q | q
    · obtain ⟨h1,h2,e',he',hs⟩:=h.pl w q
      exact ⟨h1,h2,e',List.mem_append_left _ he',hs⟩
    · obtain ⟨h1,h2,hs⟩:=kf w q
      exact ⟨h1,h2,e,List.mem_append_right _ (List.mem_singleton.mpr rfl),hs⟩
  · rw [made_append,h.sum,List.map_append,isum_append]
    congr 1
    have:=R.sum z
    have v0:val ([]:D Str) z=0:=rfl
    rw [v0,Int.zero_add] at this
    show _=val e.2 z + (0:Int)
    omega
  · have e1:dk g++dk f=dk (g++f):=by unfold dk;rw [List.map_append]
    rw [e1]
    have e2:(dk (g++f)).map (·.1)=(keys (g++f)).map (Sum.inr:Str→Key):=by
      unfold dk keys
      rw [List.map_map,List.map_map]
      rfl
    rw [e2]
    exact List.Pairwise.map _ (fun a b n e=>n (Sum.inr.inj e)) nd
theorem okW_len {g:D Str} (hn:(keys g).Nodup) (h:∀ w∈keys g,okW w):g.length≤9841:=by
  have h1:((keys g).map Ls).Nodup:=List.Pairwise.map _ (fun a b n e=>n (str_ext e)) hn
  have h2:=nodup_le h1 (m:=(List.range 9).flatMap MD.words) fun y hy=>by
    obtain ⟨z,hz,rfl⟩:=List.mem_map.mp hy
    have o:=h z hz
    exact List.mem_flatMap.mpr ⟨(Ls z).length,List.mem_range.mpr (by rw [len_Ls];have:=o.2;omega),MD.mem_words _ (okW_abc o)⟩
  rw [List.length_flatMap] at h2
  have e:((List.range 9).map fun n=>(MD.words n).length)=(List.range 9).map fun n=>3 ^ n:=List.map_congr_left fun n _=>len_words n
  rw [e,List.length_map] at h2
  have e2:((List.range 9).map fun n=>3 ^ n).sum=9841:=by decide
  have h3:(keys g).length=g.length:=List.length_map _
  omega
section
variable {P:Program} {w:World} {K:PySem.W.Frag} {mg:Str→Option Value} {base:Heap} {f fa fn ft fp fr fs fc fb fi fl:Addr} {fd ad nd td pd rd sd cd bd id' ld:FuncData}
theorem scPso:FnScope ["counts","found","part"] ["counts"] (defScope (top 44)):=⟨rfl,rfl,rfl,by decide +kernel,rfl,by decide +kernel,by decide +kernel⟩
end
end K01
end
section
namespace K01
open PySem PySem.Spec PyProof.Rows Tim L2 Wm
section
variable {P:Program} {w:World} {K:PySem.W.Frag} {mg:Str→Option Value} {base:Heap} {f fo fw fi fp fs:Addr} {fd od wd id' pd sd:FuncData}
end
end K01
end
section
namespace K01
open PySem PySem.Spec PyProof.Rows Tim L2 Wm
theorem tot_nil {K:PySem.W.Frag} {H:Hp} {t:Addr} (h:H t=some (.lst [])):TotV K H t [] []:=⟨.inl (.inl h),rfl,fun i x e=>by cases e⟩
section
variable {P:Program} {w:World} {K:PySem.W.Frag} {mg:Str→Option Value} {base:Heap} {f fs:Addr} {fd sd:FuncData}
end
end K01
end
section
namespace K01
open PySem PySem.Spec PyProof.Rows Tim L2 Wm
noncomputable def la:Str:=Str.ofString "a"
noncomputable def lb:Str:=Str.ofString "b"
noncomputable def lc:Str:=Str.ofString "c"
noncomputable def L3 (x:Str):Prop:=x=la∨x=lb∨x=lc
theorem leaf3 {x:Str} (h1:x.length=1) (h2:Abc x):L3 x:=by
  have hl:(Ls x).length=1:=by rw [len_Ls];exact h1
  obtain ⟨c,hc⟩:=List.length_eq_one_iff.mp hl
  have hx:x=mk [c]:=by rw [← mk_Ls x,hc]
  have:=h2 c (by show c∈Ls x;rw [hc];exact List.mem_singleton.mpr rfl)
  rcases this with rfl | rfl | rfl
  · exact .inl (by rw [hx];decide)
  · exact .inr (.inl (by rw [hx];decide))
  · exact .inr (.inr (by rw [hx];decide))
noncomputable def kv3 (f:Str→V):List (Key×V):=[(Sum.inr la,f la),(Sum.inr lb,f lb),(Sum.inr lc,f lc)]
theorem kv3_get (f:Str→V) {x:Str} (h:L3 x):valV (kv3 f) (Sum.inr x:Key)=some (f x):=by
  have e1:(Sum.inr la:Key)≠Sum.inr lb:=by decide
  have e2:(Sum.inr la:Key)≠Sum.inr lc:=by decide
  have e3:(Sum.inr lb:Key)≠Sum.inr lc:=by decide
  unfold valV kv3
  rcases h with rfl | rfl | rfl
  · simp
  · simp [e1]
  · simp [e2,e3]
theorem dget3 {H:Hp} {d:Addr} {f:Str→V} {x:Str} (rd:Rd H d (.dK (kv3 f))) (h:L3 x):DGet H d (.str x) (some (f x)):=.inl ⟨kv3 f,Sum.inr x,rd,rfl,(kv3_get f h).symm⟩
noncomputable def wpi (gw:Str→Nat):Br Str→Nat
  | .leaf x=>gw x
  | .node a b=>if wpi gw a=0∨wpi gw b=0 then 0 else wpi gw a + wpi gw b
theorem mx_some (ns:List Int):∀ m,∃ k,ns.foldl mxStep (some m)=some k∧m≤k∧(∀ n∈ns,n≤k)∧(k=m∨k∈ns):=by
  induction ns with
  | nil=>intro m;exact ⟨m,rfl,Int.le_refl _,fun n h=>(by cases h),.inl rfl⟩
  | cons x ns ih =>
    intro m
    rw [List.foldl_cons]
    by_cases e:m < x
    · have:mxStep (some m) x=some x:=if_pos e
      rw [this]
      obtain ⟨k,h1,h2,h3,h4⟩:=ih x
      refine ⟨k,h1,by omega,fun n hn=>?_,?_⟩
      · rcases List.mem_cons.mp hn with q | q
        · rw [q];exact h2
        · exact h3 n q
      · rcases h4 with q | q
        · exact .inr (by rw [q];exact List.mem_cons_self ..)
        · exact .inr (List.mem_cons_of_mem _ q)
    · have:mxStep (some m) x=some m:=if_neg e
      rw [this]
      obtain ⟨k,h1,h2,h3,h4⟩:=ih m
      refine ⟨k,h1,h2,fun n hn=>?_,?_⟩
      · rcases List.mem_cons.mp hn with q | q
        · rw [q];omega
        · exact h3 n q
      · rcases h4 with q | q
        · exact .inl q
        · exact .inr (List.mem_cons_of_mem _ q)
theorem mx_all {ns:List Int} (hn:ns≠[]):mxOf ns∈ns∧∀ n∈ns,n≤mxOf ns:=by
  cases ns with
  | nil=>exact absurd rfl hn
  | cons x ns =>
    obtain ⟨k,h1,h2,h3,h4⟩:=mx_some ns x
    have e:mxOf (x :: ns)=k:=by
      unfold mxOf
      rw [List.foldl_cons]
      show ((ns.foldl mxStep (some x)).getD 0)=k
      rw [h1];rfl
    rw [e]
    refine ⟨?_,fun n hn=>?_⟩
    · rcases h4 with q | q
      · rw [q];exact List.mem_cons_self ..
      · exact List.mem_cons_of_mem _ q
    · rcases List.mem_cons.mp hn with q | q
      · rw [q];exact h2
      · exact h3 n q
noncomputable def gwt (T:List (Int×Br Str)):Nat:=(mxOf (T.map fun x=>(x.2.wt:Int))).toNat
theorem gwt_eq (T:List (Int×Br Str)):((gwt T:Nat):Int)=mxOf (T.map fun x=>(x.2.wt:Int)):=by
  unfold gwt
  by_cases e:T=[]
  · subst e;rfl
  · obtain ⟨h1,_⟩:=mx_all (ns:=T.map fun x=>(x.2.wt:Int)) (fun z=>e (List.map_eq_nil_iff.mp z))
    obtain ⟨x,_,hx⟩:=List.mem_map.mp h1
    rw [← hx]
    omega
theorem gwt_pos {T:List (Int×Br Str)} (h:T≠[]):∃ x∈T,gwt T=x.2.wt:=by
  obtain ⟨h1,_⟩:=mx_all (ns:=T.map fun x=>(x.2.wt:Int)) (fun z=>h (List.map_eq_nil_iff.mp z))
  obtain ⟨x,hx,e⟩:=List.mem_map.mp h1
  rw [← gwt_eq] at e
  exact ⟨x,hx,by omega⟩
section
variable {P:Program} {w:World} {K:PySem.W.Frag} {mg:Str→Option Value} {base:Heap} {f fs fr fb fm fd' fc fw ft fa fn fo fp:Addr} {fd sd rd bd md dd cd wd td ad nd od pd:FuncData}
noncomputable def spGw (K:PySem.W.Frag):Sp:=fun vs H Q _=>∃ (t:Addr) (ps:List V) (T:List (Int×Br Str)),vs=[.ref t]∧TotV K H t ps T∧T.length≤4000∧(∀ x∈T,x.2.wt≤12)∧∀ H',Same H H'→Q (.int (gwt T)) H'
theorem scGw:FnScope ["total"] ["total"] (defScope (top 40)):=⟨rfl,rfl,rfl,by decide +kernel,rfl,by decide +kernel,by decide +kernel⟩
noncomputable def cGw:Scope:={ kind:=.function,names:=[(Str.ofString ".0",.local),(Str.ofString "count",.local),(Str.ofString "bracket",.local),(Str.ofString "weight",.globalImplicit)],isGenerator:=false,isCoroutine:=false,more:=[] }
theorem ok_gw (T:Blt mg) (F:At K mg "greatest_weight" (top 40) ["total"] f fd) (FW:At K mg "weight" (top 3) ["bracket"] fw wd):FnOk P w K mg base CX0 13 f fd ["total"] (spGw K):=by
  have GW:FnOk P w K mg base CX0 12 fw wd ["bracket"] (spWt 12):=ok_wtP T FW 12
  refine F.fn.ok scGw (fun vs H Q E h=>?_) (fun cdv A outer s H vs Q E hr h=>?_)
  · obtain ⟨t,ps,TT,rfl,_⟩:=h
    rfl
  obtain ⟨t,ps,TT,rfl,hT,hl,h12,q⟩:=h
  have O:CompOk (cxOf CX0 P w K mg base ["total"] "greatest_weight" (defScope (top 40)) f cdv A outer s H E).nox ["count","bracket"] cGw []:={
    clos:=rfl
    nocell:=by decide +kernel
    kind:=rfl
    names:=by decide +kernel
    sub:=fun x c e=>by cases e
    has:=fun x h=>by
      have e:=lk_has (l:=[(Str.ofString ".0",.local),(Str.ofString "count",.local),(Str.ofString "bracket",.local),(Str.ofString "weight",.globalImplicit)]) (ys:=[]) h (by decide +kernel)
      cases e }
  have nd2:List.Nodup [Str.ofString "count",Str.ofString "bracket"]:=by decide +kernel
  refine ⟨_,pss_one (ps_ret (pe_maxD rfl rfl T.max (pe_compG (N':=["count","bracket"]) (g:=gTup K 2 (gCons (gName 0) (gCons (gName 1) gNil))) rfl O (pi_list (pv 0)) (fun C s₀ H₀ ex pn xe=>pg_tup rfl (pgs_cons (pg_name (i:=0) nd2 rfl (.inl rfl) (.inr rfl)) (pgs_cons (pg_name (i:=1) nd2 rfl (.inl rfl) (.inr rfl)) pgs_nil)))
      (fun _ _ _ _ _ _=>pifs_nil) (fun C s₀ H₀ ex pn xe=>pe_call GW hr rfl FW.m FW.k FW.b .nil pass0 (pa_cons (pv 1) pa_nil))))),?_⟩
  have hz:=sizeLine_eq
  have lp:ps.length=TT.length:=hT.2.1
  refine ⟨_,rfl,t,rfl,⟨ps,hT.1⟩,[none,none],⟨rfl,?_⟩,fun D nD=>?_⟩
  · intro i x v e1 e2
    rcases i with _ | _ | i
    · cases e2
    · cases e2
    · cases e1
  refine ⟨fun i m σx Hx=>m=ps.length - i∧i≤ps.length∧(∃ y0 y1,σx=[y0,y1])∧Same H Hx∧Hx D=some (.lst (((TT.take i).map fun x=>(x.2.wt:Int)).map V.int)),⟨_,rfl,Nat.zero_le _,⟨none,none,rfl⟩,new_same nD _,upd_same⟩,?_⟩
  rintro i m σx Hx ⟨rfl,hi,⟨y0,y1,rfl⟩,sx,xD⟩
  by_cases hlt:i < ps.length
  · have hTi:TT[i]? = some TT[i]:=List.getElem?_eq_getElem (by omega)
    obtain ⟨p,bv,e1,e2,e3⟩:=hT.2.2 i _ hTi
    have hSx:=sx.seq hT.1
    refine .inr ⟨⟨_,_,hSx,e1⟩,fun v H' hy=>?_⟩
    obtain ⟨rfl,hy⟩:=hy
    have e:=hy _ hSx
    rw [e1] at e
    cases e
    refine ⟨p,_,rfl,.inl (.inl (sx _ _ e2)),rfl,_,_,rfl,_,_,rfl,rfl,?_⟩
    dsimp only [tYes]
    rw [if_pos rfl]
    refine ⟨_,rfl,TT[i].2,bv,rfl,e3.same sx,h12 _ (List.getElem_mem _),?_⟩
    refine ⟨_,xD,by rw [List.length_map,List.length_map,List.length_take];omega,ps.length - (i + 1),by omega,rfl,by omega,⟨_,_,rfl⟩,upd_same2 sx nD,?_⟩
    rw [upd_same,List.take_add_one,hTi,List.map_append,List.map_append]
    rfl
  · have e:i=ps.length:=by omega
    subst e
    refine .inl ⟨⟨_,sx.seq hT.1,Nat.le_refl _⟩,?_⟩
    rw [lp,List.take_length] at xD
    refine ⟨D,_,rfl,.inl (.inl xD),?_⟩
    rw [← gwt_eq]
    exact q _ sx
noncomputable def spWpi (gw:Str→Nat) (n:Nat):Sp:=fun vs H Q _=>∃ (b:Br Str) (v:V) (d:Addr),vs=[v,.ref d]∧BrV H b v∧b.wt≤n∧Rd H d (.dK (kv3 fun x=>.int (gw x)))∧Q (.int (wpi gw b)) H
theorem scWpi:FnScope ["bracket","greatest","first","second"] ["bracket","greatest"] (defScope (top 41)):=⟨rfl,rfl,rfl,by decide +kernel,rfl,by decide +kernel,by decide +kernel⟩
theorem ok_wpi (T:Blt mg) (F:At K mg "weight_put_in" (top 41) ["bracket","greatest"] f fd) (gw:Str→Nat):∀ n:Nat,FnOk P w K mg base CX0 n f fd ["bracket","greatest"] (spWpi gw n)
  | 0=>fn_zero fun vs H Q E h=>by
    obtain ⟨b,v,d,_,_,h,_⟩:=h
    have:=br_wt_pos b
    omega
  | n + 1=>by
    have G:=ok_wpi T F gw n
    refine F.fn.ok scWpi (fun vs H Q E h=>?_) (fun cdv A outer s H vs Q E hr h=>?_)
    · obtain ⟨b,v,d,rfl,_⟩:=h
      rfl
    obtain ⟨b,v,d,rfl,hb,hn,hd,q⟩:=h
    refine ⟨_,@PSsW.out _ _ _ (w_cons ⟨ps_if (pt_val (pe_callB call_isi rfl T.isi boot_isi (pa_cons (pv 0) (pa_cons (pe_ty rfl T.str bt_str) pa_nil)))) (pss_one (ps_ret (pe_dget (hu_of hr) (pv 1) (pv 0) (fun _ _=>rfl)))) pss_nil⟩
      (w_cons ⟨ps_set (i:=2) scWpi.nd rfl (Or.inl rfl) (pe_call G hr rfl F.m F.k F.b .nil pass0 (pa_cons (pe_ix ix_tup (pv 0) pe_int (fun _ _=>rfl)) (pa_cons (pv 1) pa_nil)))⟩
      (w_cons ⟨ps_set (i:=3) scWpi.nd rfl (Or.inl rfl) (pe_call G hr rfl F.m F.k F.b .nil pass0 (pa_cons (pe_ix ix_tup (pv 0) pe_int (fun _ _=>rfl)) (pa_cons (pv 1) pa_nil)))⟩
      (w_cons ⟨ps_if (PW.pt (pw_or (pt_cmpR op_eq (pv 2) pe_int (nomark _)) (pw_or1 (pt_cmpR op_eq (pv 3) pe_int (nomark _))))) (pss_one (ps_ret pe_int)) pss_nil⟩
      (w_one ⟨ps_ret (pe_op op_add (pv 2) (pv 3))⟩))))),?_⟩
    cases b with
    | leaf x =>
      obtain ⟨rfl,hx⟩:=hb
      refine ⟨_,rfl,_,_,_,rfl,.ss x,_,rfl,iteT ?_⟩
      exact ⟨_,rfl,_,rfl,d,_,rfl,dget3 hd (leaf3 hx.1 hx.2),q⟩
    | node a b =>
      obtain ⟨p,u,w,rfl,hp,h1,h2⟩:=hb
      have hn:a.wt + b.wt≤n + 1:=hn
      have:=br_wt_pos a
      have:=br_wt_pos b
      refine ⟨_,rfl,_,_,_,rfl,.ts hp,_,rfl,iteF ?_⟩
      refine ⟨_,rfl,p,_,_,_,rfl,rfl,.inl (.inl hp),rfl,_,rfl,a,u,d,rfl,h1,by omega,hd,?_⟩
      refine ⟨_,rfl,p,_,_,_,rfl,rfl,.inl (.inl hp),rfl,_,rfl,b,w,d,rfl,h2,by omega,hd,?_⟩
      have wn:wpi gw (.node a b)=if wpi gw a=0∨wpi gw b=0 then 0 else wpi gw a + wpi gw b:=rfl
      rw [wn] at q
      refine ⟨_,rfl,rfl,_,rfl,?_⟩
      by_cases e1:wpi gw a=0
      · rw [if_pos (.inl e1)] at q
        rw [decide_eq_true (show V.int (wpi gw a)=V.int 0 by rw [e1];rfl)]
        exact iteT q
      · rw [decide_eq_false (show ¬ V.int (wpi gw a)=V.int 0 from fun z=>e1 (by have:=V.int.inj z;omega))]
        refine iteF ?_
        refine ⟨_,rfl,rfl,_,rfl,?_⟩
        by_cases e2:wpi gw b=0
        · rw [if_pos (.inr e2)] at q
          rw [decide_eq_true (show V.int (wpi gw b)=V.int 0 by rw [e2];rfl)]
          exact iteT q
        · rw [if_neg (fun z=>z.elim e1 e2)] at q
          rw [decide_eq_false (show ¬ V.int (wpi gw b)=V.int 0 from fun z=>e2 (by have:=V.int.inj z;omega))]
          refine iteF ?_
          exact ⟨_,rfl,_,rfl,_,_,rfl,rfl,q⟩
end
end K01
end
section
namespace K01
open PySem PySem.Spec PyProof.Rows Tim L2 Wm
noncomputable def cpi (g:Str→D Str):Br Str→D Str
  | .leaf x=>g x
  | .node a b=>twP cat (cpi g a) (cpi g b)
noncomputable def lv3:Br Str→Prop
  | .leaf x=>L3 x
  | .node a b=>lv3 a∧lv3 b
theorem brv_lv3 {H:Hp}:∀ {b:Br Str} {v:V},BrV H b v→lv3 b
  | .leaf x,v,h=>leaf3 h.2.1 h.2.2
  | .node a b,v,⟨_,_,_,_,_,h1,h2⟩=>⟨brv_lv3 h1,brv_lv3 h2⟩
structure KpS (S:List Addr) (H H':Hp):Prop where
  keep:∀ b o,b ∉ S→H b=some o→H' b=some o
  rd:∀ d∈S,∀ kvs,Rd H d (.dK kvs)→Rd H' d (.dK kvs)
theorem KpS.trans {S:List Addr} {H H1 H2:Hp} (a:KpS S H H1) (b:KpS S H1 H2):KpS S H H2:=⟨fun x o n e=>b.keep x o n (a.keep x o n e),fun d m k h=>b.rd d m k (a.rd d m k h)⟩
section
variable {P:Program} {w:World} {K:PySem.W.Frag} {mg:Str→Option Value} {base:Heap} {f fs fr fb fm fd' fc fw ft fa fn fo fp:Addr} {fd sd rd bd md dd cd wd td ad nd od pd:FuncData}
end
end K01
end
section
namespace K01
open PySem PySem.Spec PyProof.Rows Tim L2 Wm
noncomputable def pick3 {α:Type} (a b c:α) (x:Str):α:=if x=la then a else if x=lb then b else c
theorem pick_a {α:Type} (a b c:α):pick3 a b c la=a:=if_pos rfl
theorem pick_b {α:Type} (a b c:α):pick3 a b c lb=b:=by unfold pick3;rw [if_neg (by decide),if_pos rfl]
theorem pick_c {α:Type} (a b c:α):pick3 a b c lc=c:=by unfold pick3;rw [if_neg (by decide),if_neg (by decide)]
theorem pick_all {α:Type} {p:α→Prop} {a b c:α} {x:Str} (h:L3 x) (ha:p a) (hb:p b) (hc:p c):p (pick3 a b c x):=by
  rcases h with rfl | rfl | rfl
  · rw [pick_a];exact ha
  · rw [pick_b];exact hb
  · rw [pick_c];exact hc
theorem mergeK3 (f:Str→V):mergeK [] (kv3 f)=kv3 f:=by
  have e1:(Sum.inr la:Key)≠Sum.inr lb:=by decide
  have e2:(Sum.inr la:Key)≠Sum.inr lc:=by decide
  have e3:(Sum.inr lb:Key)≠Sum.inr lc:=by decide
  unfold mergeK kv3
  simp [putK,e1,e2,e3]
noncomputable def pin (g:Str→D Str) (gw:Str→Nat) (T:List (Int×Br Str)) (z:Str):Int:=isum (T.map fun x=>if wpi gw x.2=0 then 0 else x.1 * val (cpi g x.2) z)
theorem wpi_le {gw:Str→Nat} (h:∀ x,L3 x→gw x≤12):∀ {b:Br Str},lv3 b→wpi gw b≤12 * b.wt
  | .leaf x,l=>by show gw x≤12 * 1;have:=h x l;omega
  | .node a b,l=>by
    have h1:=wpi_le h l.1
    have h2:=wpi_le h l.2
    show (if wpi gw a=0∨wpi gw b=0 then 0 else wpi gw a + wpi gw b)≤12 * (a.wt + b.wt)
    split <;> omega
theorem gwt12 {T:List (Int×Br Str)} {n:Nat} (h:∀ x∈T,x.2.wt≤n):gwt T≤n:=by
  by_cases e:T=[]
  · subst e;exact Nat.zero_le _
  · obtain ⟨x,hx,e⟩:=gwt_pos e
    rw [e];exact h x hx
theorem fmt_len:∀ n:Fin 200,(toString (n.val:Int):Str).length≤20:=by decide +kernel
theorem fmt_log:∀ n:Fin 200,(n.val:Int).natAbs.log2 < 1920:=by decide +kernel
section
variable {P:Program} {w:World} {K:PySem.W.Frag} {mg:Str→Option Value} {base:Heap} {f fs fr fb fm fd' fc fw ft fa fn fo fp fg fx fq:Addr} {fd sd rd bd md dd cd wd td ad nd od pd gd xd qd:FuncData} {tC:Tok}
noncomputable def gws (Ta Tb Tc:List (Int×Br Str)):Str→Nat:=pick3 (gwt Ta) (gwt Tb) (gwt Tc)
theorem scPi:FnScope ["total","a","b","c","greatest","letter_counts","counts","times","bracket","reached"] ["total","a","b","c"] (defScope (top 39)):=⟨rfl,rfl,rfl,by decide +kernel,rfl,by decide +kernel,by decide +kernel⟩
end
end K01
end
section
namespace K01
open PySem PySem.Spec PyProof.Rows Tim L2 Wm
section
variable {P:Program} {w:World} {K:PySem.W.Frag} {mg:Str→Option Value} {base:Heap} {f fs fr fb fm fd' fc fw ft fa fn fo fp fg fx fq:Addr} {fd sd rd bd md dd cd wd td ad nd od pd gd xd qd:FuncData}
theorem scBo:FnScope ["one","other"] ["one","other"] (defScope (top 38)):=⟨rfl,rfl,rfl,by decide +kernel,rfl,by decide +kernel,by decide +kernel⟩
theorem abc_la : Abc la := fun c hc => .inl (by have e : la.cps.toList = [97] := by decide
                                                rw [e] at hc;exact List.mem_singleton.mp hc)
theorem abc_lb : Abc lb := fun c hc => .inr (.inl (by have e : lb.cps.toList = [98] := by decide
                                                      rw [e] at hc;exact List.mem_singleton.mp hc))
theorem abc_lc : Abc lc := fun c hc => .inr (.inr (by have e : lc.cps.toList = [99] := by decide
                                                      rw [e] at hc;exact List.mem_singleton.mp hc))
end
end K01
end
section
namespace K01
open PySem PySem.Spec PyProof.Rows Tim L2 Wm
end K01
end
section
namespace K01
open PySem PySem.Spec PyProof.Rows Tim L2 Wm
noncomputable def bt:Br Str→List Nat
  | .leaf x=>Ls x
  | .node a b=>91 :: (bt a++44 :: (bt b++[93]))
noncomputable def nt (m:Nat):List Nat:=(Nat.toDigits 10 m).map Char.toNat
noncomputable def ct (c:Int):List Nat:=(if c < 0 then 45 else 43) :: nt c.natAbs
noncomputable def tt (x:Int×Br Str):List Nat:=ct x.1++bt x.2
noncomputable def sxt (T:List (Int×Br Str)):List Nat:=T.flatMap tt
theorem nt_len {m:Nat} (h:m < 10 ^ 30):(nt m).length≤30:=by
  unfold nt;rw [List.length_map];exact toDigits_len_pow (by decide) (by decide) h
theorem nt_pos (m:Nat):1≤(nt m).length:=by
  unfold nt;rw [List.length_map];exact toDigits_len_ge 10 m
theorem nt_dig {m:Nat}:PySem.NumText.AllDigits (nt m):=fun c hc=>by
  obtain ⟨ch,hch,e⟩:=List.mem_map.mp hc
  have r:=PyProof.Rows.digit_range (Nat.isDigit_of_mem_toDigits (by decide) (by decide) hch)
  rw [← e];exact r
theorem nt_reads {m:Nat} (h:m < 10 ^ 30):intText? (mk (nt m))=some (m:Int):=by
  have e:=PySem.intText_digits (x:=mk (nt m)) (by rw [show (mk (nt m)).cps.toList=nt m from Ls_mk _];exact nt_dig) (by
    rw [show (mk (nt m)).cps.toList=nt m from Ls_mk _]
    intro z
    have:=nt_pos m
    rw [z] at this
    exact absurd this (by decide)) (by rw [len_mk];have:=nt_len h;omega)
  rw [show (mk (nt m)).cps.toList=nt m from Ls_mk _] at e
  rw [e,show PySem.NumText.digitsVal (nt m)=m from PySem.W.KIN.val_back m]
theorem nt_zero {m:Nat} {r:List Nat} (h:nt m=48 :: r):r=[]:=by
  have:∀ k:Nat,∀ m,m≤k→∀ r,nt m=48 :: r→r=[]:=by
    intro k
    induction k with
    | zero =>
      intro m hm r h
      have:m=0:=by omega
      subst this
      have e:nt 0=[48]:=by decide
      rw [e] at h
      exact (List.cons.inj h).2.symm
    | succ k ih =>
      intro m hm r h
      by_cases q:m < 10
      · unfold nt at h
        rw [Nat.toDigits_of_lt_base q] at h
        exact (List.cons.inj h).2.symm
      · have t:Nat.toDigits 10 (m / 10)++Nat.toDigits 10 (m % 10)=Nat.toDigits 10 (10 * (m / 10) + m % 10):=Nat.toDigits_append_toDigits (by decide) (by omega) (Nat.mod_lt m (by decide))
        rw [Nat.div_add_mod] at t
        unfold nt at h
        rw [← t,List.map_append] at h
        have p:=nt_pos (m / 10)
        cases e:nt (m / 10) with
        | nil=>rw [e] at p;exact absurd p (by decide)
        | cons c l =>
          have e':(Nat.toDigits 10 (m / 10)).map Char.toNat=c :: l:=e
          rw [e',List.cons_append] at h
          have hc:=(List.cons.inj h).1
          subst hc
          have hl:=ih (m / 10) (by omega) l e
          subst hl
          have v:PySem.NumText.digitsVal (nt (m / 10))=m / 10:=PySem.W.KIN.val_back (m / 10)
          rw [e] at v
          have:PySem.NumText.digitsVal [48]=0:=by decide
          omega
  exact this m m (Nat.le_refl _) r h
theorem L_lb:Str.ofString "[" = mk [91]:=str_ext (by decide +kernel)
theorem L_rb:Str.ofString "]" = mk [93]:=str_ext (by decide +kernel)
theorem L_cm:Str.ofString "," = mk [44]:=str_ext (by decide +kernel)
theorem L_pl:Str.ofString "+" = mk [43]:=str_ext (by decide +kernel)
theorem L_mi:Str.ofString "-" = mk [45]:=str_ext (by decide +kernel)
theorem L_no:Str.ofString "0" = mk [48]:=str_ext (by decide +kernel)
theorem L_em:Str.ofString "" = mk []:=str_ext (by decide +kernel)
section
variable {P:Program} {w:World} {K:PySem.W.Frag} {mg:Str→Option Value} {base:Heap} {f fc fb:Addr} {fd cd bd:FuncData}
end
end K01
end
section
namespace K01
open PySem PySem.Spec PyProof.Rows Tim L2 Wm
section
variable {P:Program} {w:World} {K:PySem.W.Frag} {mg:Str→Option Value} {base:Heap} {f fc fb:Addr} {fd cd bd:FuncData}
end
end K01
end
section
namespace K01
open PySem PySem.Spec PyProof.Rows Tim L2 Wm
theorem pss_no {X:Cx} {st:List Stmt}:PSs X st (fun _ _ _=>False):=fun _ _ _ _ _ _ h=>h.elim
noncomputable def rIntT:List V→Hp→VK→Prop:=fun xs H Q=>∃ (x:Str) (n:Int),xs=[.str x]∧intText? x=some n∧x.length≤640∧Q (.int n) H
theorem call_intT {X:Cx}:CallR X (.type "int") rIntT:=by
  intro pins s σ H xs us Q I r h
  obtain ⟨x,n,rfl,h1,h2,q⟩:=h
  obtain ⟨u,rfl,rx⟩:=vals1 r
  obtain ⟨t,rfl⟩:=rx
  exact PySem.W.KIN.call_text h1 h2 ⟨.int n,H,I.tok _,⟨_,rfl⟩,q⟩
noncomputable def rStarts:V→List V→Hp→VK→Prop:=fun x vs H Q=>∃ (z y:Str),x = .str z∧vs=[.str y]∧Q (.bl (Txt.startswith z y)) H
theorem mt_starts {X:Cx}:MtR X "str.startswith" rStarts:=by
  intro pins s σ H x vs v us Q I rx rv h
  obtain ⟨z,y,rfl,rfl,q⟩:=h
  obtain ⟨t,rfl⟩:=rx
  obtain ⟨u,rfl,ru⟩:=vals1 rv
  obtain ⟨t',rfl⟩:=ru
  exact PySem.SC.startswith ⟨.bl _,H,I,rfl,q⟩
noncomputable def fl (z:Str) (p:Nat):List (Str×V):=[("text",.str z),("place",.int p)]
theorem tp_ne:¬ (("text":Str) = "place"):=by decide +kernel
theorem fl_put0 (z:Str) (n:Nat):putF "place" (.int n) (putF "text" (.str z) [])=fl z n:=by
  show (if ("text":Str) = "place" then _ else _)=_
  rw [if_neg tp_ne]
  rfl
theorem fl_text (z:Str) (p:Nat):(fl z p).lookup ("text":Str)=some (.str z):=by
  rw [← fl_put0,lookup_putF,if_neg tp_ne,lookup_putF,if_pos rfl]
theorem fl_place (z:Str) (p:Nat):(fl z p).lookup ("place":Str)=some (.int p):=by
  rw [← fl_put0,lookup_putF,if_pos rfl]
theorem fl_no (z:Str) (p:Nat) {m:Str} (h1:¬ m = "place") (h2:¬ m = "text"):(fl z p).lookup m=none:=by
  rw [← fl_put0,lookup_putF,if_neg h1,lookup_putF,if_neg h2]
  all_goals rfl
theorem fl_put (z:Str) (p n:Nat):putF "place" (.int n) (fl z p)=fl z n:=by
  show (if ("text":Str) = "place" then _ else (("text":Str),V.str z) :: (if ("place":Str) = "place" then [(("place":Str),V.int n)] else _))=_
  rw [if_neg tp_ne,if_pos rfl]
  rfl
theorem fl_len (z:Str) (p:Nat):(fl z p).length < 1000:=by show 2 < 1000;decide
theorem drop_at {z:Str} {p c:Nat} {r:List Nat} (h:(Ls z).drop p=c :: r):z.cps[p]? = some c∧p < z.length∧(Ls z).drop (p + 1)=r:=by
  have hp:p < (Ls z).length:=by
    rcases Nat.lt_or_ge p (Ls z).length with q | q
    · exact q
    · rw [List.drop_eq_nil_of_le q] at h;cases h
  rw [List.drop_eq_getElem_cons hp] at h
  have e1:=(List.cons.inj h).1
  have e2:=(List.cons.inj h).2
  refine ⟨?_,by rw [← len_Ls];exact hp,e2⟩
  have:(Ls z)[p]? = some c:=by rw [List.getElem?_eq_getElem hp,e1]
  rw [Array.getElem?_toList] at this
  exact this
theorem drop_on {z:Str} {p:Nat} {l r:List Nat} (h:(Ls z).drop p=l++r):(Ls z).drop (p + l.length)=r:=by
  rw [← List.drop_drop,h,List.drop_left]
structure MAt (K:PySem.W.Frag) (C:Addr) (m q:Str) (st:Stmt) (ps:List Str) (f:Addr) (fd:FuncData):Prop where
  fn:Fun K m q st f fd
  b:Binds K fd ps []
  m:Meth K C m f
structure Rdr (K:PySem.W.Frag) (C:Addr):Prop where
  cl:Cls K C
  nT:NoAttr K C "text"
  nP:NoAttr K C "place"
noncomputable abbrev rm (j:Nat):Stmt:=inClass (top 23) j
section
variable {P:Program} {w:World} {K:PySem.W.Frag} {mg:Str→Option Value} {base:Heap} {f fe fh ft fw fg fc fb fq C:Addr} {fd ed hd td wd gd cd bd qd:FuncData}
noncomputable def spIn (C:Addr):Sp:=fun vs H Q _=>∃ (x dx:Addr) (z:Str),vs=[.ref x,.str z]∧H x=some (.ins C dx [])∧∀ H',SX x H H'→H' x=some (.ins C dx (fl z 0))→Q .non H'
theorem scIn:FnScope ["self","text"] ["self","text"] (defScope (rm 0)):=⟨rfl,rfl,rfl,by decide +kernel,rfl,by decide +kernel,by decide +kernel⟩
theorem ok_in (R:Rdr K C) (F:Fun K "__init__" "Reader.__init__" (rm 0) f fd):FnOk P w K mg base CX0 1 f fd ["self","text"] (spIn C):=by
  refine F.ok scIn (fun vs H Q E h=>?_) (fun cdv A outer s H vs Q E hr h=>?_)
  · obtain ⟨x,dx,z,rfl,_⟩:=h
    rfl
  obtain ⟨x,dx,z,rfl,hx,q⟩:=h
  refine ⟨_,pss_cons (ps_fld (pv 0) (pv 1) rfl) (pss_one (ps_fld (pv 0) pe_int rfl)),?_⟩
  refine ⟨_,rfl,_,rfl,x,C,dx,[],rfl,hx,R.cl,R.nT,(by show 0 < 1000;decide),_,rfl,x,C,dx,_,rfl,upd_same,R.cl,R.nP,(by show 1 < 1000;decide),?_⟩
  exact q _ (upd_sx sx_upd) (Eq.trans upd_same (congrArg (fun l=>some (HO.ins C dx l)) (fl_put0 z 0)))
noncomputable def spEn (C:Addr):Sp:=fun vs H Q _=>∃ (x dx:Addr) (z:Str) (p:Nat),vs=[.ref x]∧H x=some (.ins C dx (fl z p))∧z.length≤100000∧Q (.bl (decide (p=z.length))) H
theorem scEn:FnScope ["self"] ["self"] (defScope (rm 1)):=⟨rfl,rfl,rfl,by decide +kernel,rfl,by decide +kernel,by decide +kernel⟩
theorem ok_en (T:Blt mg) (R:Rdr K C) (F:MAt K C "at_end" "Reader.at_end" (rm 1) ["self"] f fd):FnOk P w K mg base CX0 1 f fd ["self"] (spEn C):=by
  refine F.fn.ok scEn (fun vs H Q E h=>?_) (fun cdv A outer s H vs Q E hr h=>?_)
  · obtain ⟨x,dx,z,p,rfl,_⟩:=h
    rfl
  obtain ⟨x,dx,z,p,rfl,hx,hl,q⟩:=h
  refine ⟨_,pss_one (ps_ret (pe_cmpR op_eq (pe_fld (pv 0) rfl) (pe_callB call_len_str rfl T.len PySem.boot_len (pa_cons (pe_fld (pv 0) rfl) pa_nil)) (nomark _))),?_⟩
  have hz:=sizeLine_eq
  refine ⟨_,rfl,x,C,dx,_,_,rfl,hx,R.cl,R.nP,fl_place z p,_,rfl,x,C,dx,_,_,rfl,hx,R.cl,R.nT,fl_text z p,z,rfl,by omega,rfl,?_⟩
  have e:decide (V.int (p:Int)=V.int (z.length:Int))=decide (p=z.length):=by
    by_cases h:p=z.length
    · rw [decide_eq_true h,decide_eq_true (by rw [h])]
    · rw [decide_eq_false h,decide_eq_false (fun g=>h (by have:=V.int.inj g;omega))]
  rw [e]
  exact q
theorem scHe:FnScope ["self"] ["self"] (defScope (rm 2)):=⟨rfl,rfl,rfl,by decide +kernel,rfl,by decide +kernel,by decide +kernel⟩
theorem scTk:FnScope ["self","sign"] ["self"] (defScope (rm 3)):=⟨rfl,rfl,rfl,by decide +kernel,rfl,by decide +kernel,by decide +kernel⟩
theorem scWa:FnScope ["self","wanted","sign"] ["self","wanted"] (defScope (rm 4)):=⟨rfl,rfl,rfl,by decide +kernel,rfl,by decide +kernel,by decide +kernel⟩
end
end K01
end
section
namespace K01
open PySem PySem.Spec PyProof.Rows Tim L2 Wm
noncomputable def FIG:Str:=Str.ofString "0123456789"
noncomputable def Beg (c:Nat):Prop:=c=91∨c=97∨c=98∨c=99
theorem fig_in {c:Nat} (h:48≤c∧c≤57):(!(Builtin.Str.occurrences FIG (mk [c]) 0 FIG.length 1).isEmpty)=true:=by
  have key:∀ k:Nat,k < 10→(!(Builtin.Str.occurrences FIG (mk [48 + k]) 0 FIG.length 1).isEmpty)=true:=by decide +kernel
  have:=key (c - 48) (by omega)
  rwa [show 48 + (c - 48)=c by omega] at this
theorem starts0 {l:List Nat} (h:Txt.startswith (mk l) (Str.ofString "0")=true):∃ r,l=48 :: r:=by
  unfold Txt.startswith at h
  rw [Bool.and_eq_true] at h
  have h2:=h.2
  rw [L_no,StrLaws.subAt_eq] at h2
  have h2:=eq_of_beq h2
  rw [show (mk [48]).cps.toList=[48] from Ls_mk _,show (mk l).cps.toList=l from Ls_mk _,show (mk [48]).length=1 from len_mk _,List.drop_zero] at h2
  cases l with
  | nil=>cases h2
  | cons c r=>exact ⟨r,by rw [List.take_succ_cons,List.take_zero] at h2;rw [(List.cons.inj h2).1]⟩
theorem mk_inj {a b:List Nat} (h:mk a=mk b):a=b:=by rw [← Ls_mk a,← Ls_mk b,h]
section
variable {P:Program} {w:World} {K:PySem.W.Frag} {mg:Str→Option Value} {base:Heap} {f fe fh ft fw fg fc fb fq C:Addr} {fd ed hd td wd gd cd bd qd:FuncData}
theorem scFg:FnScope ["self","start","figures"] ["self"] (defScope (rm 7)):=⟨rfl,rfl,rfl,by decide +kernel,rfl,by decide +kernel,by decide +kernel⟩
theorem scCo:FnScope ["self","sign","figures","count"] ["self"] (defScope (rm 6)):=⟨rfl,rfl,rfl,by decide +kernel,rfl,by decide +kernel,by decide +kernel⟩
end
end K01
end
section
namespace K01
open PySem PySem.Spec PyProof.Rows Tim L2 Wm
theorem BrV.sx {H H':Hp} {x:Addr} (hn:∀ l,H x≠some (.tup l)) (s:SX x H H'):∀ {b:Br Str} {v:V},BrV H b v→BrV H' b v:=by
  intro b
  induction b with
  | leaf y=>intro v h;exact h
  | node a b i1 i2 =>
    rintro v ⟨p,u,w,e,h,h1,h2⟩
    exact ⟨p,u,w,e,s p _ (fun z=>hn _ (by rw [← z];exact h)) h,i1 h1,i2 h2⟩
theorem ins_nt {H:Hp} {x C dx:Addr} {fs:List (Str×V)} (h:H x=some (.ins C dx fs)):∀ l,H x≠some (.tup l):=fun l z=>by rw [h] at z;cases z
theorem lst_nt {H:Hp} {x:Addr} {ys:List V} (h:H x=some (.lst ys)):∀ l,H x≠some (.tup l):=fun l z=>by rw [h] at z;cases z
noncomputable def LET:List Str:=[Str.ofString "a",Str.ofString "b",Str.ofString "c"]
theorem one_abc {x:Str} (h1:x.length=1) (h2:Abc x):∃ c,(c=97∨c=98∨c=99)∧Ls x=[c]∧x=mk [c]:=by
  have hl:=len_Ls x
  rw [h1] at hl
  cases e:Ls x with
  | nil=>rw [e] at hl;cases hl
  | cons c r =>
    rw [e] at hl
    have hr:r=[]:=List.eq_nil_of_length_eq_zero (by rw [List.length_cons] at hl;omega)
    subst hr
    exact ⟨c,h2 c (by rw [show x.cps.toList=Ls x from rfl,e];exact List.mem_cons_self),rfl,str_ext (by rw [e,Ls_mk])⟩
theorem let_in {c:Nat} (h:c=97∨c=98∨c=99):inV (V.str (mk [c])) (LET.map V.str)=true:=by rcases h with rfl | rfl | rfl <;> decide +kernel
theorem let_flat:(LET.map V.str).all flatV=true:=by decide +kernel
noncomputable def Brok (b:Br Str):Prop:=b.ok (fun y=>y.length=1)∧b.ok Abc
theorem Brok.l {a b:Br Str} (h:Brok (.node a b)):Brok a:=⟨h.1.1,h.2.1⟩
theorem Brok.r {a b:Br Str} (h:Brok (.node a b)):Brok b:=⟨h.1.2,h.2.2⟩
theorem bt_beg {b:Br Str} (h:Brok b):∃ c r,bt b=c :: r∧Beg c:=by
  cases b with
  | leaf x =>
    obtain ⟨c,hc,e,_⟩:=one_abc h.1 h.2
    exact ⟨c,[],e,.inr hc⟩
  | node a b=>exact ⟨91,_,rfl,.inl rfl⟩
section
variable {P:Program} {w:World} {K:PySem.W.Frag} {mg:Str→Option Value} {base:Heap} {f fe fi fh ft fw fg fc fb fq aL C:Addr} {fd ed id' hd td wd gd cd bd qd:FuncData}
theorem scTb:FnScope ["self","depth","sign","first","second"] ["self","depth"] (defScope (rm 8)):=⟨rfl,rfl,rfl,by decide +kernel,rfl,by decide +kernel,by decide +kernel⟩
theorem scTt:FnScope ["self","count","bracket"] ["self"] (defScope (rm 5)):=⟨rfl,rfl,rfl,by decide +kernel,rfl,by decide +kernel,by decide +kernel⟩
end
end K01
end
section
namespace K01
open PySem PySem.Spec PyProof.Rows Tim L2 Wm
theorem sxt_cons (y:Int×Br Str) (T:List (Int×Br Str)):sxt (y :: T)=tt y++sxt T:=by unfold sxt;rw [List.flatMap_cons]
theorem tt_head (y:Int×Br Str):∃ c r,tt y=c :: r∧(c=45∨c=43):=by
  refine ⟨_,_,rfl,?_⟩
  by_cases h:y.1 < 0
  · exact .inl (if_pos h)
  · exact .inr (if_neg h)
section
variable {P:Program} {w:World} {K:PySem.W.Frag} {mg:Str→Option Value} {base:Heap} {f fe fi ft C:Addr} {fd ed id' td:FuncData}
theorem scRe:FnScope ["text","reader","total"] ["text"] (defScope (top 22)):=⟨rfl,rfl,rfl,by decide +kernel,rfl,by decide +kernel,by decide +kernel⟩
end
end K01
end
section
namespace K01
open PySem PySem.Spec PyProof.Rows Tim L2 Wm
theorem bt_uni:∀ {a b:Br Str} {r r':List Nat},Brok a→Brok b→bt a++r=bt b++r'→a=b∧r=r':=by
  intro a
  induction a with
  | leaf x =>
    intro b r r' ha hb h
    obtain ⟨c,hc,e1,e2⟩:=one_abc ha.1 ha.2
    rw [show bt (.leaf x)=[c] from e1] at h
    cases b with
    | leaf y =>
      obtain ⟨c',hc',e1',e2'⟩:=one_abc hb.1 hb.2
      rw [show bt (.leaf y)=[c'] from e1'] at h
      have:=List.cons.inj h
      rw [e2,e2',this.1]
      exact ⟨rfl,this.2⟩
    | node a b =>
      have:=(List.cons.inj (show c :: r=91 :: _ from h)).1
      omega
  | node a1 a2 i1 i2 =>
    intro b r r' ha hb h
    cases b with
    | leaf y =>
      obtain ⟨c',hc',e1',e2'⟩:=one_abc hb.1 hb.2
      rw [show bt (.leaf y)=[c'] from e1'] at h
      have:=(List.cons.inj (show 91 :: _=c' :: r' from h)).1
      omega
    | node b1 b2 =>
      have e:∀ (x y:Br Str) (t:List Nat),bt (.node x y)++t=91 :: (bt x++(44 :: (bt y++(93 :: t)))):=fun x y t=>by simp [bt]
      rw [e,e] at h
      obtain ⟨h1,h2⟩:=i1 ha.l hb.l (List.cons.inj h).2
      obtain ⟨h3,h4⟩:=i2 ha.r hb.r (List.cons.inj h2).2
      rw [h1,h3]
      exact ⟨rfl,(List.cons.inj h4).2⟩
noncomputable def Dig (c:Nat):Prop:=48≤c∧c≤57
theorem beg_nd {c:Nat} (h:Beg c):¬ Dig c:=by unfold Beg at h;unfold Dig;omega
theorem dig_uni:∀ {d e:List Nat} {c c':Nat} {r r':List Nat},PySem.NumText.AllDigits d→PySem.NumText.AllDigits e→¬ Dig c→¬ Dig c'→d++c :: r=e++c' :: r'→d=e∧c=c'∧r=r':=by
  intro d
  induction d with
  | nil =>
    intro e c c' r r' hd he hc hc' h
    cases e with
    | nil=>have:=List.cons.inj h;exact ⟨rfl,this.1,this.2⟩
    | cons x e=>have:=(List.cons.inj h).1;rw [this] at hc;exact absurd he.head hc
  | cons x d ih =>
    intro e c c' r r' hd he hc hc' h
    cases e with
    | nil=>have:=(List.cons.inj h).1;rw [← this] at hc';exact absurd hd.head hc'
    | cons y e =>
      have:=List.cons.inj h
      obtain ⟨h1,h2,h3⟩:=ih hd.tail he.tail hc hc' this.2
      rw [this.1,h1]
      exact ⟨rfl,h2,h3⟩
theorem nt_inj {m n:Nat} (h:nt m=nt n):m=n:=by
  rw [← PySem.W.KIN.val_back m,← PySem.W.KIN.val_back n]
  exact congrArg PySem.NumText.digitsVal h
theorem ct_inj {m n:Int} (h1:(if m < 0 then 45 else 43:Nat)=if n < 0 then 45 else 43) (h2:nt m.natAbs=nt n.natAbs):m=n:=by
  have:=nt_inj h2
  split at h1 <;> split at h1 <;> omega
theorem ct_uni {m n:Int} {c c':Nat} {r r':List Nat} (hc:¬ Dig c) (hc':¬ Dig c') (h:ct m++c :: r=ct n++c' :: r'):m=n∧c=c'∧r=r':=by
  have:=List.cons.inj (show (if m < 0 then 45 else 43:Nat) :: (nt m.natAbs++c :: r)=(if n < 0 then 45 else 43) :: (nt n.natAbs++c' :: r') from h)
  obtain ⟨h1,h2,h3⟩:=dig_uni nt_dig nt_dig hc hc' this.2
  exact ⟨ct_inj this.1 h1,h2,h3⟩
noncomputable def Tok (y:Int×Br Str):Prop:=Brok y.2∧y.2.wt≤8∧y.1.natAbs < 10 ^ 30
theorem tt_uni {y y':Int×Br Str} {r r':List Nat} (hy:Brok y.2) (hy':Brok y'.2) (h:tt y++r=tt y'++r'):y=y'∧r=r':=by
  obtain ⟨c,t,e,hb⟩:=bt_beg hy
  obtain ⟨c',t',e',hb'⟩:=bt_beg hy'
  have h2:ct y.1++(bt y.2++r)=ct y'.1++(bt y'.2++r'):=by unfold tt at h;rw [← List.append_assoc,← List.append_assoc];exact h
  have h3:=h2
  rw [e,e',List.cons_append,List.cons_append] at h3
  obtain ⟨e1,e2,e3⟩:=ct_uni (beg_nd hb) (beg_nd hb') h3
  rw [e1] at h2
  have h4:=List.append_cancel_left h2
  obtain ⟨e4,e5⟩:=bt_uni hy hy' h4
  exact ⟨Prod.ext e1 e4,e5⟩
theorem sxt_pre:∀ {A T:List (Int×Br Str)} {r:List Nat},(∀ y∈A,Brok y.2)→(∀ y∈T,Brok y.2)→sxt A++r=sxt T→∃ B,T=A++B∧r=sxt B:=by
  intro A
  induction A with
  | nil=>intro T r _ _ h;exact ⟨T,rfl,h⟩
  | cons y A ih =>
    intro T r hA hT h
    rw [sxt_cons,List.append_assoc] at h
    cases T with
    | nil =>
      obtain ⟨c,t,e,_⟩:=tt_head y
      rw [e] at h
      cases h
    | cons u T =>
      rw [sxt_cons] at h
      obtain ⟨e1,e2⟩:=tt_uni (hA y List.mem_cons_self) (hT u List.mem_cons_self) h
      obtain ⟨B,h1,h2⟩:=ih (fun x hx=>hA x (List.mem_cons_of_mem _ hx)) (fun x hx=>hT x (List.mem_cons_of_mem _ hx)) e2
      exact ⟨B,by rw [e1,h1];rfl,h2⟩
noncomputable def Wr (l:List Nat) (T:List (Int×Br Str)):Prop:=(T=[]∧l=[48])∨(T≠[]∧T.length≤12∧(∀ y∈T,Tok y)∧l=sxt T)
theorem dv_lt:∀ {n:Nat} {ds:List Nat},ds.length=n→PySem.NumText.AllDigits ds→PySem.NumText.digitsVal ds < 10 ^ n:=by
  intro n
  induction n with
  | zero=>intro ds h _;rw [List.eq_nil_of_length_eq_zero h];decide
  | succ n ih =>
    intro ds h hd
    have hne:ds≠[]:=by intro e;rw [e] at h;cases h
    have e:=List.dropLast_concat_getLast hne
    have hl:ds.dropLast.length=n:=by rw [List.length_dropLast,h];rfl
    have hA:PySem.NumText.AllDigits ds.dropLast:=fun c hc=>hd c ((List.dropLast_sublist ds).mem hc)
    have hc:=hd _ (List.getLast_mem hne)
    have:=ih hl hA
    rw [← e,PySem.NumText.digitsVal_snoc,Nat.pow_succ]
    omega
theorem nt_of {ds:List Nat} (hA:PySem.NumText.AllDigits ds) (hne:ds≠[]) (h30:ds.length≤30) (h0:∀ r,ds=48 :: r→r=[]):∃ m,m < 10 ^ 30∧ds=nt m:=by
  refine ⟨PySem.NumText.digitsVal ds,Nat.lt_of_lt_of_le (dv_lt rfl hA) (Nat.pow_le_pow_right (by decide) h30),?_⟩
  cases ds with
  | nil=>exact absurd rfl hne
  | cons c r =>
    have e:=PySem.NumText.toDigits_digitsVal r.length (c :: r) rfl hA (by
      by_cases hc:c=48
      · left;rw [h0 r (by rw [hc])];rfl
      · right;have:=hA.head;exact ⟨c,r,rfl,by omega⟩)
    unfold nt
    rw [e,List.map_map]
    have:∀ x∈c :: r,(Char.toNat ∘ Char.ofNat) x=x:=fun x hx=>by
      have:=hA x hx
      show (Char.ofNat x).toNat=x
      have key:∀ k:Nat,k < 10→(Char.ofNat (48 + k)).toNat=48 + k:=by decide
      have:=key (x - 48) (by omega)
      rwa [show 48 + (x - 48)=x by omega] at this
    rw [List.map_congr_left this,List.map_id']
theorem dig_run (l:List Nat):∃ ds r,l=ds++r∧PySem.NumText.AllDigits ds∧(r=[]∨∃ c r',r=c :: r'∧¬ Dig c):=by
  induction l with
  | nil=>exact ⟨[],[],rfl,fun c h=>(by cases h),.inl rfl⟩
  | cons c l ih =>
    by_cases h:Dig c
    · obtain ⟨ds,r,e,hA,hr⟩:=ih
      exact ⟨c :: ds,r,by rw [e];rfl,fun x hx=>by rcases List.mem_cons.mp hx with rfl | z;exact h;exact hA x z,hr⟩
    · exact ⟨[],c :: l,rfl,fun c h=>(by cases h),.inr ⟨c,l,rfl,h⟩⟩
noncomputable def ht:Br Str→Nat
  | .leaf _=>0
  | .node a b=>1 + max (ht a) (ht b)
theorem ht_wt (b:Br Str):ht b + 1≤b.wt:=by
  induction b with
  | leaf x=>exact Nat.le_refl _
  | node a b i1 i2 =>
    have:=br_wt_pos a
    have:=br_wt_pos b
    show 1 + max (ht a) (ht b) + 1≤a.wt + b.wt
    omega
end K01
end
section
namespace K01
open PySem PySem.Spec PyProof.Rows Tim L2 Wm
noncomputable def RA (C x dx:Addr) (z:Str) (p:Nat) (H:Hp):Prop:=H x=some (.ins C dx (fl z p))∧z.length≤100000∧p≤z.length∧∀ c∈Ls z,c < 128
theorem RA.on {C x dx:Addr} {z:Str} {p n:Nat} {H H':Hp} (h:RA C x dx z p H) (e:H' x=some (.ins C dx (fl z n))) (hn:n≤z.length):RA C x dx z n H':=⟨e,h.2.1,hn,h.2.2.2⟩
theorem RA.lt {C x dx:Addr} {z:Str} {p:Nat} {H:Hp} (h:RA C x dx z p H) {c:Nat} {l r:List Nat} (e:(Ls z).drop p=l++c :: r):c < 128:=h.2.2.2 c (List.mem_of_mem_drop (i:=p) (by rw [e];simp))
theorem drop_le {z:Str} {p:Nat} {l r:List Nat} (hp:p≤z.length) (h:(Ls z).drop p=l++r):p + l.length≤z.length:=by
  have:=congrArg List.length h
  rw [List.length_drop,len_Ls,List.length_append] at this
  omega
theorem mk_small {c:Nat} (h:c < 128):∀ k∈(mk [c]).cps.toList,k < 16 ^ 8:=fun k hk=>by
  have hk:k∈Ls (mk [c]):=hk
  rw [Ls_mk] at hk
  have:k=c:=by simpa using hk
  rw [this]
  exact Nat.lt_trans h (by decide)
theorem mk1_len (c:Nat):(mk [c]).length≤1000:=by rw [len_mk];show 1≤1000;decide
theorem ap_len {a b:Str} {m n:Nat} (h1:a.length≤m) (h2:b.length≤n):(a++b).length≤m + n:=by
  have:(a++b).length=a.length + b.length:=PySem.Str.length_append a b
  omega
theorem em_len:Str.empty.length≤0:=by decide +kernel
theorem sz_of {a:Str} {m:Nat} (h:a.length≤m) (hm:m≤100000):a.length≤sizeLine:=by
  have hz:=sizeLine_eq
  omega
section
variable {P:Program} {w:World} {K:PySem.W.Frag} {mg:Str→Option Value} {base:Heap} {f fe fh ft fw fg fc fb fq aL C N:Addr} {fd ed hd td wd gd cd bd qd:FuncData}
noncomputable def spHeE (C N:Addr):Sp:=fun vs H Q E=>∃ (x dx:Addr) (z:Str) (p:Nat),vs=[.ref x]∧RA C x dx z p H∧(∀ c r,(Ls z).drop p=c :: r→Q (.str (mk [c])) H)∧((Ls z).drop p=[]→E (.ref N) none H)
theorem ok_heE (T:Blt mg) (R:Rdr K C) (XN:ExcAt K mg "NotRead" N) (F:MAt K C "sign_here" "Reader.sign_here" (rm 2) ["self"] f fd) (FE:MAt K C "at_end" "Reader.at_end" (rm 1) ["self"] fe ed):FnOk P w K mg base (CXE P w) 2 f fd ["self"] (spHeE C N):=by
  have GE:FnOk P w K mg base CX0 1 fe ed ["self"] (spEn C):=ok_en T R FE
  refine F.fn.okE scHe (fun vs H Q E h=>?_) (fun cdv A outer s H vs Q E hr h=>?_)
  · obtain ⟨x,dx,z,p,rfl,_⟩:=h
    rfl
  obtain ⟨x,dx,z,p,rfl,⟨hx,hl,hp,ha⟩,q1,q2⟩:=h
  refine ⟨_,pss_cons (ps_if (pt_val (pe_meth0 (pv 0) R.cl FE.m GE hr FE.b .nil pass0)) (pss_one (ps_raise hr.hd XN rfl (pa_cons pe_str pa_nil))) pss_nil)
    (pss_one (ps_ret (pe_item_str (pe_fld (pv 0) rfl) (pe_fld (pv 0) rfl) (fun _ _=>rfl)))),?_⟩
  refine ⟨_,rfl,x,dx,_,rfl,hx,fl_no z p (by decide +kernel) (by decide +kernel),x,dx,z,p,rfl,hx,hl,_,rfl,?_⟩
  by_cases h:p=z.length
  · rw [decide_eq_true h]
    refine iteT ⟨(by show 1≤sizeLine;decide),q2 (List.drop_eq_nil_of_le (by rw [len_Ls];omega))⟩
  · rw [decide_eq_false h]
    refine iteF ?_
    obtain ⟨c,hc⟩:∃ c,(Ls z).drop p=c :: (Ls z).drop (p + 1):=⟨_,List.drop_eq_getElem_cons (by rw [len_Ls];omega)⟩
    obtain ⟨d1,d2,d3⟩:=drop_at hc
    exact ⟨_,rfl,x,C,dx,_,_,rfl,hx,R.cl,R.nT,fl_text z p,_,rfl,x,C,dx,_,_,rfl,hx,R.cl,R.nP,fl_place z p,z,_,c,rfl,rfl,by omega,by omega,by omega,d1,q1 c _ hc⟩
noncomputable def spTkE (C N:Addr):Sp:=fun vs H Q E=>∃ (x dx:Addr) (z:Str) (p:Nat),vs=[.ref x]∧RA C x dx z p H∧(∀ c r,(Ls z).drop p=c :: r→∀ H',SX x H H'→H' x=some (.ins C dx (fl z (p + 1)))→Q (.str (mk [c])) H')∧((Ls z).drop p=[]→E (.ref N) none H)
theorem ok_tkE (R:Rdr K C) (F:MAt K C "take" "Reader.take" (rm 3) ["self"] f fd) (FH:MAt K C "sign_here" "Reader.sign_here" (rm 2) ["self"] fh hd) (GH:FnOk P w K mg base (CXE P w) 2 fh hd ["self"] (spHeE C N)):FnOk P w K mg base (CXE P w) 3 f fd ["self"] (spTkE C N):=by
  refine F.fn.okE scTk (fun vs H Q E h=>?_) (fun cdv A outer s H vs Q E hr h=>?_)
  · obtain ⟨x,dx,z,p,rfl,_⟩:=h
    rfl
  obtain ⟨x,dx,z,p,rfl,hA,q1,q2⟩:=h
  have hx:=hA.1
  refine ⟨_,pss_cons (ps_set (i:=1) scTk.nd rfl (Or.inl rfl) (pe_meth0 (pv 0) R.cl FH.m GH hr FH.b .nil passE))
    (pss_cons (ps_fld (pv 0) (pe_op op_add (pe_fld (pv 0) rfl) pe_int) rfl)
    (pss_one (ps_ret (pv 1)))),?_⟩
  refine ⟨_,rfl,x,dx,_,rfl,hx,fl_no z p (by decide +kernel) (by decide +kernel),x,dx,z,p,rfl,hA,fun c r hd=>?_,q2⟩
  refine ⟨_,rfl,x,C,dx,_,_,rfl,hx,R.cl,R.nP,fl_place z p,_,_,rfl,rfl,_,rfl,x,C,dx,_,rfl,hx,R.cl,R.nP,fl_len z p,?_⟩
  exact ⟨_,rfl,q1 c r hd _ sx_upd (Eq.trans upd_same (congrArg (fun l=>some (HO.ins C dx l)) (fl_put z p (p + 1))))⟩
noncomputable def spWaE (C N:Addr):Sp:=fun vs H Q E=>∃ (x dx:Addr) (z:Str) (p c:Nat),vs=[.ref x,.str (mk [c])]∧c < 128∧RA C x dx z p H∧(∀ r,(Ls z).drop p=c :: r→∀ H',SX x H H'→H' x=some (.ins C dx (fl z (p + 1)))→Q .non H') ∧
  ((¬ ∃ r,(Ls z).drop p=c :: r)→∀ H',SX x H H'→E (.ref N) none H')
theorem ok_waE (R:Rdr K C) (XN:ExcAt K mg "NotRead" N) (F:MAt K C "take_wanted" "Reader.take_wanted" (rm 4) ["self","wanted"] f fd) (FT:MAt K C "take" "Reader.take" (rm 3) ["self"] ft td) (GT:FnOk P w K mg base (CXE P w) 3 ft td ["self"] (spTkE C N)):FnOk P w K mg base (CXE P w) 4 f fd ["self","wanted"] (spWaE C N):=by
  refine F.fn.okE scWa (fun vs H Q E h=>?_) (fun cdv A outer s H vs Q E hr h=>?_)
  · obtain ⟨x,dx,z,p,c,rfl,_⟩:=h
    rfl
  obtain ⟨x,dx,z,p,c,rfl,hc,hA,q1,q2⟩:=h
  refine ⟨_,pss_cons (ps_set (i:=2) scWa.nd rfl (Or.inl rfl) (pe_meth0 (pv 0) R.cl FT.m GT hr FT.b .nil passE))
    (pss_one (ps_if (pt_cmpR op_ne (pv 2) (pv 1) (nomark _)) (pss_one (ps_raise hr.hd XN rfl (pa_cons (pe_join (pj_cons (pe_fmtR (pv 2)) (pj_cons pe_str (pj_cons (pe_fmtR (pv 1)) (pj_cons pe_str pj_nil))))) pa_nil))) pss_nil)),?_⟩
  refine ⟨_,rfl,x,dx,_,rfl,hA.1,fl_no z p (by decide +kernel) (by decide +kernel),x,dx,z,p,rfl,hA,fun c' r hd H1 s1 h1=>?_,fun hn=>q2 (fun ⟨r,e⟩=>by rw [hn] at e;cases e) H (fun _ _ _ e=>e)⟩
  refine ⟨_,rfl,_,rfl,rfl,_,rfl,?_⟩
  by_cases e:c'=c
  · subst e
    rw [decide_eq_true rfl]
    exact iteF (q1 r hd _ s1 h1)
  · rw [decide_eq_false (fun g=>e (List.cons.inj (mk_inj (V.str.inj g))).1)]
    refine iteT ?_
    have hE:=q2 (fun ⟨r',e'⟩=>e (by rw [hd] at e';exact (List.cons.inj e').1)) H1 s1
    have l1:(Str.ofString " stands where ").length≤20:=by decide +kernel
    have l2:(Str.ofString " should").length≤20:=by decide +kernel
    refine ⟨_,rfl,_,rfl,mk1_len _,mk_small (hA.lt (l:=[]) hd),fun y1 hy1=>⟨y1,rfl,sz_of (ap_len em_len hy1) (by decide),_,rfl,sz_of (ap_len (ap_len em_len hy1) l1) (by decide),?_⟩⟩
    refine ⟨_,rfl,_,rfl,mk1_len _,mk_small hc,fun y2 hy2=>⟨y2,rfl,sz_of (ap_len (ap_len (ap_len em_len hy1) l1) hy2) (by decide),_,rfl,sz_of (ap_len (ap_len (ap_len (ap_len em_len hy1) l1) hy2) l2) (by decide),sz_of (ap_len (ap_len (ap_len (ap_len em_len hy1) l1) hy2) l2) (by decide),?_⟩⟩
    exact ⟨(by show 1≤sizeLine;decide),hE⟩
noncomputable def GoodF (ds:List Nat):Prop:=ds≠[]∧ds.length≤30∧∀ r,ds=48 :: r→r=[]
noncomputable def FigAt (l:List Nat) (ds:List Nat) (c:Nat) (r:List Nat):Prop:=l=ds++c :: r∧PySem.NumText.AllDigits ds∧¬ Dig c
theorem fig_is {c:Nat} (h:c < 128):(!(Builtin.Str.occurrences FIG (mk [c]) 0 FIG.length 1).isEmpty)=decide (48≤c∧c≤57):=by
  have key:∀ c:Nat,c < 128→(!(Builtin.Str.occurrences FIG (mk [c]) 0 FIG.length 1).isEmpty)=decide (48≤c∧c≤57):=by decide +kernel
  exact key c h
noncomputable def spFgE (C N:Addr):Sp:=fun vs H Q E=>∃ (x dx:Addr) (z:Str) (p:Nat),vs=[.ref x]∧RA C x dx z p H∧(∀ ds c r,FigAt ((Ls z).drop p) ds c r→GoodF ds→∀ H',SX x H H'→H' x=some (.ins C dx (fl z (p + ds.length)))→Q (.str (mk ds)) H') ∧
  ((¬ ∃ ds c r,FigAt ((Ls z).drop p) ds c r∧GoodF ds)→∀ H',SX x H H'→E (.ref N) none H')
theorem ok_fgE (T:Blt mg) (R:Rdr K C) (XN:ExcAt K mg "NotRead" N) (F:MAt K C "take_figures" "Reader.take_figures" (rm 7) ["self"] f fd) (FH:MAt K C "sign_here" "Reader.sign_here" (rm 2) ["self"] fh hd) (FT:MAt K C "take" "Reader.take" (rm 3) ["self"] ft td)
    (GH:FnOk P w K mg base (CXE P w) 2 fh hd ["self"] (spHeE C N)) (GT:FnOk P w K mg base (CXE P w) 3 ft td ["self"] (spTkE C N)) {tF tM:PySem.Tok} (hF:mg "FIGURES" = some (.str (Str.ofString "0123456789") tF)) (hM:mg "MOST_FIGURES" = some (.int 30 tM)) :
    FnOk P w K mg base (CXE P w) 4 f fd ["self"] (spFgE C N):=by
  refine F.fn.okE scFg (fun vs H Q E h=>?_) (fun cdv A outer s H vs Q E hr h=>?_)
  · obtain ⟨x,dx,z,p,rfl,_⟩:=h
    rfl
  obtain ⟨x,dx,z,p,rfl,hA,q1,q2⟩:=h
  have hx:=hA.1
  have hl:=hA.2.1
  have hp:=hA.2.2.1
  have hr2:Room 2 _:=hr.mono (by omega)
  refine ⟨_,pss_cons (ps_set (i:=1) scFg.nd rfl (Or.inl rfl) (pe_fld (pv 0) rfl))
    (pss_cons (ps_while PassesOwn.leaving (pt_cmpR op_in_str (pe_meth0 (pv 0) R.cl FH.m GH hr2 FH.b .nil passE) (pe_glob (v:=.str FIG) rfl hF ⟨tF,rfl⟩) (by with_unfolding_all rfl))
      (pss_one (ps_expr (pe_meth0 (pv 0) R.cl FT.m GT hr FT.b .nil passE))))
    (pss_cons (ps_set (i:=2) scFg.nd rfl (Or.inl rfl) (pe_slice sl_str (pe_fld (pv 0) rfl) (po_some (pv 1)) (po_some (pe_fld (pv 0) rfl))))
    (pss_cons (ps_if (pt_cmpR op_eq (pv 2) pe_str (nomark _)) (pss_one (ps_raise hr.hd XN rfl (pa_cons pe_str pa_nil))) pss_nil)
    (pss_cons (ps_if (PW.pt (pw_and (pt_val (pe_bm PySem.F.plainAttrs_str PySem.F.slot_str_startswith PySem.F.type_str_startswith mt_starts (pv 2) (pa_cons pe_str pa_nil))) (pw_and1 (pt_cmpR op_ne (pv 2) pe_str (nomark _))))) (pss_one (ps_raise hr.hd XN rfl (pa_cons pe_str pa_nil))) pss_nil)
    (pss_cons (ps_if (pt_cmpR op_gt (pe_callB call_len_str rfl T.len PySem.boot_len (pa_cons (pv 2) pa_nil)) (pe_glob (v:=.int 30) rfl hM ⟨tM,rfl⟩) (nomark _)) (pss_one (ps_raise hr.hd XN rfl (pa_cons (pe_join (pj_cons pe_str (pj_cons (pe_fmt (pe_glob (v:=.int 30) rfl hM ⟨tM,rfl⟩)) (pj_cons pe_str pj_nil)))) pa_nil))) pss_nil)
    (pss_one (ps_ret (pv 2)))))))),?_⟩
  have hz:=sizeLine_eq
  obtain ⟨l,rest,hd,hAd,hrest⟩:=dig_run ((Ls z).drop p)
  have hlen:=drop_le hp hd
  refine ⟨_,rfl,x,C,dx,_,_,rfl,hx,R.cl,R.nP,fl_place z p,?_⟩
  refine ⟨fun m σ Hx=>∃ k,m=l.length - k∧k≤l.length∧σ=[some (.ref x),some (.int p),none]∧SX x H Hx∧Hx x=some (.ins C dx (fl z (p + k))),⟨_,0,rfl,Nat.zero_le _,rfl,fun b o _ e=>e,hx⟩,?_⟩
  rintro m σ Hx ⟨k,rfl,hk,rfl,sx,xx⟩
  have dk:(Ls z).drop (p + k)=l.drop k++rest:=by
    rw [← List.drop_drop,hd,List.drop_append_of_le_length hk]
  have hAk:=hA.on xx (by omega)
  by_cases hlt:k < l.length
  · obtain ⟨d,hdk⟩:∃ d,l.drop k=d :: l.drop (k + 1):=⟨_,List.drop_eq_getElem_cons hlt⟩
    have hdm:d∈l:=List.mem_of_mem_drop (i:=k) (by rw [hdk];exact List.mem_cons_self)
    have dk':=dk
    rw [hdk,List.cons_append] at dk'
    refine ⟨_,rfl,x,dx,_,rfl,xx,fl_no _ _ (by decide +kernel) (by decide +kernel),x,dx,z,p + k,rfl,hAk,fun c r e=>?_,fun e=>by rw [dk'] at e;cases e⟩
    rw [dk'] at e
    obtain ⟨rfl,rfl⟩:=List.cons.inj e
    refine ⟨_,_,rfl,rfl,_,rfl,?_⟩
    rw [fig_in (hAd d hdm)]
    refine iteT ⟨fun σ' H'=>∃ k',k < k'∧k'≤l.length∧σ'=[some (.ref x),some (.int p),none]∧SX x H H'∧H' x=some (.ins C dx (fl z (p + k'))),fun σ' H' ⟨k',h1,h2,h3,h4,h5⟩=>⟨l.length - k',by omega,k',rfl,h2,h3,h4,h5⟩,?_⟩
    refine ⟨_,rfl,x,dx,_,rfl,xx,fl_no _ _ (by decide +kernel) (by decide +kernel),x,dx,z,p + k,rfl,hAk,fun c r e H1 s1 h1=>?_,fun e=>by rw [dk'] at e;cases e⟩
    exact ⟨k + 1,Nat.lt_succ_self _,hlt,rfl,sx.trans s1,h1⟩
  · have e:k=l.length:=by omega
    subst e
    rw [List.drop_length,List.nil_append] at dk
    have bad:(∀ c r,rest=c :: r→¬ GoodF l)→∀ H',SX x H H'→E (.ref N) none H':=fun hb=>q2 (fun ⟨ds,c,r,⟨g1,g2,g3⟩,g4⟩=>by
      rw [hd] at g1
      rcases hrest with hr0 | ⟨c',r',hr1,hr2⟩
      · rw [hr0,List.append_nil] at g1
        exact g3 (hAd c (by rw [g1];simp))
      · rw [hr1] at g1
        obtain ⟨e1,e2,e3⟩:=dig_uni hAd g2 hr2 g3 g1
        exact hb _ _ hr1 (by rw [e1];exact g4))
    refine ⟨_,rfl,x,dx,_,rfl,xx,fl_no _ _ (by decide +kernel) (by decide +kernel),x,dx,z,_,rfl,hAk,fun c r e=>?_,fun e=>bad (fun c r h=>by rw [dk] at e;rw [e] at h;cases h) _ sx⟩
    rw [dk] at e
    have hcn:¬ Dig c:=by
      rcases hrest with hr0 | ⟨c',r',hr1,hr2⟩
      · rw [hr0] at e;cases e
      · rw [hr1] at e;rw [← (List.cons.inj e).1];exact hr2
    have c128:c < 128:=hA.lt (l:=l) (by rw [hd,e])
    refine ⟨_,_,rfl,rfl,_,rfl,?_⟩
    rw [fig_is c128,decide_eq_false (show ¬ (48≤c∧c≤57) from hcn)]
    refine iteF ?_
    have es:Txt.slice z (some (p:Int)) (some ((p + l.length:Nat):Int))=mk l:=by
      apply str_ext
      rw [Ls_mk]
      have:=sl_mid (x:=z) (i:=(p:Int)) (j:=((p + l.length:Nat):Int)) ⟨by omega,by omega,by omega⟩
      rw [show Ls (Txt.slice z (some (p:Int)) (some ((p + l.length:Nat):Int)))=_ from this]
      rw [show ((p:Int)).toNat=p by omega,show (((p + l.length:Nat):Int) - (p:Int)).toNat=l.length by omega]
      rw [show z.cps.toList=Ls z from rfl,hd,List.take_left]
    refine ⟨_,rfl,x,C,dx,_,_,rfl,xx,R.cl,R.nT,fl_text _ _,_,rfl,_,rfl,_,rfl,x,C,dx,_,_,rfl,xx,R.cl,R.nP,fl_place _ _,_,rfl,z,rfl,by omega,?_⟩
    rw [es]
    refine ⟨_,rfl,rfl,_,rfl,?_⟩
    by_cases hne:l=[]
    · rw [L_em,hne,decide_eq_true rfl]
      refine iteT ⟨(by show 1≤sizeLine;decide),bad (fun _ _ _ g=>g.1 hne) _ sx⟩
    rw [L_em,decide_eq_false (fun g=>hne (mk_inj (V.str.inj g)))]
    refine iteF ?_
    refine ⟨_,rfl,rfl,_,_,rfl,rfl,_,rfl,?_⟩
    have fin:(∀ r,l=48 :: r→r=[])→tTest (tOp (rI0 fun i j=>V.bl (decide (j < i))) (tCB (fun xs H Q=>∃ z,xs=[V.str z]∧z.length≤sizeLine∧Q (.int z.length) H) (tCons (tVar 2) tNil)) (tC (.int 30))) [some (.ref x),some (.int p),some (.str (mk l))] Hx
        (fun c H1=>if c=true then tRaise N E (tCons ((jCons (tC (.str (Str.ofString "a count of more than "))) (jCons (tFmt (tC (.int 30))) (jCons (tC (.str (Str.ofString " figures"))) jNil))) Str.empty) tNil) { nx:=fun _ H'=>Q .non H',rt:=Q } [some (.ref x),some (.int p),some (.str (mk l))] H1 else ∃ v,[some (V.ref x),some (.int p),some (.str (mk l))][2]? = some (some v)∧Q v H1):=by
      intro h0
      refine ⟨_,rfl,_,rfl,by rw [len_mk];omega,_,_,rfl,rfl,_,rfl,?_⟩
      rw [len_mk]
      refine ite2 (fun g=>?_) (fun g=>?_)
      · have g:(30:Int) < (l.length:Int):=of_decide_eq_true g
        have l1:(Str.ofString "a count of more than ").length≤30:=by decide +kernel
        have l2:(Str.ofString " figures").length≤20:=by decide +kernel
        have l3:(Str.ofString (toString (30:Int))).length≤20:=by decide +kernel
        refine ⟨_,rfl,sz_of (ap_len em_len l1) (by decide),.inr ⟨30,rfl,by decide,_,rfl,sz_of (ap_len (ap_len em_len l1) l3) (by decide),_,rfl,sz_of (ap_len (ap_len (ap_len em_len l1) l3) l2) (by decide),sz_of (ap_len (ap_len (ap_len em_len l1) l3) l2) (by decide),?_⟩⟩
        exact ⟨(by show 1≤sizeLine;decide),bad (fun _ _ _ g'=>by have:=g'.2.1;omega) _ sx⟩
      · have g:¬ (30:Int) < (l.length:Int):=of_decide_eq_false (Bool.eq_false_iff.mpr g)
        exact ⟨_,rfl,q1 l c r ⟨by rw [hd,e],hAd,hcn⟩ ⟨hne,by omega,h0⟩ _ sx xx⟩
    cases hb:Txt.startswith (mk l) (Str.ofString "0") with
    | false =>
      refine iteF (iteF (fin fun r' er=>?_))
      exfalso
      rw [er] at hb
      have:Txt.startswith (mk (48 :: r')) (Str.ofString "0")=true:=by
        unfold Txt.startswith
        rw [L_no,StrLaws.subAt_eq,len_mk,len_mk,show (mk [48]).cps.toList=[48] from Ls_mk _,show (mk (48 :: r')).cps.toList=48 :: r' from Ls_mk _]
        simp
      rw [this] at hb
      cases hb
    | true =>
      obtain ⟨r',er⟩:=starts0 hb
      refine iteT ⟨_,rfl,rfl,_,rfl,?_⟩
      by_cases r0:r'=[]
      · rw [decide_eq_true (show V.str (mk l)=V.str (Str.ofString "0") by rw [er,r0,L_no])]
        exact iteF (fin fun r'' er'=>by rw [er,r0] at er';exact (List.cons.inj er').2.symm)
      · rw [decide_eq_false (fun g=>r0 (by rw [L_no] at g;have g:=mk_inj (V.str.inj g);rw [er] at g;exact (List.cons.inj g).2))]
        refine iteT ⟨(by show 1≤sizeLine;decide),bad (fun _ _ _ g=>r0 (g.2.2 r' er)) _ sx⟩
end
end K01
end
section
namespace K01
open PySem PySem.Spec PyProof.Rows Tim L2 Wm
noncomputable def CtAt (l:List Nat) (n:Int) (c:Nat) (r:List Nat):Prop:=l=ct n++c :: r∧¬ Dig c∧n.natAbs < 10 ^ 30
theorem pm_in {c:Nat} (h:c=43∨c=45):inV (V.str (mk [c])) [V.str (Str.ofString "+"),V.str (Str.ofString "-")]=true:=by rcases h with rfl | rfl <;> decide +kernel
theorem inV_str {c:Nat} {l:List Str}:inV (V.str (mk [c])) (l.map V.str)=true→mk [c]∈l:=by
  intro h
  unfold inV at h
  rw [List.any_map,List.any_eq_true] at h
  obtain ⟨y,hy,e⟩:=h
  have e:(y == mk [c])=true:=e
  rw [← eq_of_beq e]
  exact hy
theorem pm_out {c:Nat} (h:¬ (c=43∨c=45)):inV (V.str (mk [c])) [V.str (Str.ofString "+"),V.str (Str.ofString "-")]=false:=by
  refine Bool.eq_false_iff.mpr fun g=>h ?_
  have:=inV_str (l:=[Str.ofString "+",Str.ofString "-"]) g
  rw [L_pl,L_mi] at this
  simp only [List.mem_cons,List.not_mem_nil,or_false] at this
  rcases this with e | e
  · exact .inl (List.cons.inj (mk_inj e)).1
  · exact .inr (List.cons.inj (mk_inj e)).1
theorem let_no {c:Nat} (h:¬ (c=97∨c=98∨c=99)):inV (V.str (mk [c])) (LET.map V.str)=false:=by
  refine Bool.eq_false_iff.mpr fun g=>h ?_
  have:=inV_str g
  have ea:Str.ofString "a" = mk [97]:=str_ext (by decide +kernel)
  have eb:Str.ofString "b" = mk [98]:=str_ext (by decide +kernel)
  have ec:Str.ofString "c" = mk [99]:=str_ext (by decide +kernel)
  unfold LET at this
  rw [ea,eb,ec] at this
  simp only [List.mem_cons,List.not_mem_nil,or_false] at this
  rcases this with e | e | e
  · exact .inl (List.cons.inj (mk_inj e)).1
  · exact .inr (.inl (List.cons.inj (mk_inj e)).1)
  · exact .inr (.inr (List.cons.inj (mk_inj e)).1)
section
variable {P:Program} {w:World} {K:PySem.W.Frag} {mg:Str→Option Value} {base:Heap} {f fe fh ft fw fg fc fb fq aL C N:Addr} {fd ed hd td wd gd cd bd qd:FuncData}
noncomputable def spCoE (C N:Addr):Sp:=fun vs H Q E=>∃ (x dx:Addr) (z:Str) (p:Nat),vs=[.ref x]∧RA C x dx z p H∧(∀ n c r,CtAt ((Ls z).drop p) n c r→∀ H',SX x H H'→H' x=some (.ins C dx (fl z (p + (ct n).length)))→Q (.int n) H') ∧
  ((¬ ∃ n c r,CtAt ((Ls z).drop p) n c r)→∀ H',SX x H H'→E (.ref N) none H')
theorem ok_coE (T:Blt mg) (R:Rdr K C) (XN:ExcAt K mg "NotRead" N) (F:MAt K C "take_count" "Reader.take_count" (rm 6) ["self"] f fd) (FT:MAt K C "take" "Reader.take" (rm 3) ["self"] ft td) (FG:MAt K C "take_figures" "Reader.take_figures" (rm 7) ["self"] fg gd)
    (GT:FnOk P w K mg base (CXE P w) 3 ft td ["self"] (spTkE C N)) (GG:FnOk P w K mg base (CXE P w) 4 fg gd ["self"] (spFgE C N)):FnOk P w K mg base (CXE P w) 5 f fd ["self"] (spCoE C N):=by
  refine F.fn.okE scCo (fun vs H Q E h=>?_) (fun cdv A outer s H vs Q E hr h=>?_)
  · obtain ⟨x,dx,z,p,rfl,_⟩:=h
    rfl
  obtain ⟨x,dx,z,p,rfl,hA,q1,q2⟩:=h
  have hr3:Room 3 _:=hr.mono (by omega)
  refine ⟨_,pss_cons (ps_set (i:=1) scCo.nd rfl (Or.inl rfl) (pe_meth0 (pv 0) R.cl FT.m GT hr3 FT.b .nil passE))
    (pss_cons (ps_if (pt_cmpR op_notIn_seq (pv 1) (pe_tup (pa_cons pe_str (pa_cons pe_str pa_nil))) (by with_unfolding_all rfl)) (pss_one (ps_raise hr.hd XN rfl (pa_cons (pe_join (pj_cons (pe_fmtR (pv 1)) (pj_cons pe_str pj_nil))) pa_nil))) pss_nil)
    (pss_cons (ps_set (i:=2) scCo.nd rfl (Or.inl rfl) (pe_meth0 (pv 0) R.cl FG.m GG hr FG.b .nil passE))
    (pss_cons (ps_if (PW.pt (pw_and (pt_cmpR op_eq (pv 2) pe_str (nomark _)) (pw_and1 (pt_cmpR op_eq (pv 1) pe_str (nomark _))))) (pss_one (ps_raise hr.hd XN rfl (pa_cons pe_str pa_nil))) pss_nil)
    (pss_cons (ps_set (i:=3) scCo.nd rfl (Or.inl rfl) (pe_callTy call_intT rfl T.int bt_int (pa_cons (pv 2) pa_nil)))
    (pss_one (ps_ret (pe_ifExp (pt_cmpR op_eq (pv 1) pe_str (nomark _)) (pe_un un_neg (pv 3)) (pv 3)))))))),?_⟩
  refine ⟨_,rfl,x,dx,_,rfl,hA.1,fl_no _ _ (by decide +kernel) (by decide +kernel),x,dx,z,p,rfl,hA,fun sg r hd H1 s1 h1=>?_,fun hn=>q2 (fun ⟨n,c,r,e,_⟩=>by rw [hn] at e;cases e) H (fun _ _ _ e=>e)⟩
  have d1:=(drop_at hd).2.2
  have hA1:=hA.on h1 (drop_at hd).2.1
  refine ⟨_,rfl,(by show 2≤sizeLine;decide),fun a na=>⟨a,_,rfl,.inr (.inl (.inl upd_same)),rfl,rfl,_,rfl,?_⟩⟩
  have nxa:x≠a:=ne_of_none h1 na
  have s2:=s1.trans (new_same na (.tup [V.str (Str.ofString "+"),V.str (Str.ofString "-")])).sx
  have h2:upd H1 a (.tup [V.str (Str.ofString "+"),V.str (Str.ofString "-")]) x=some (.ins C dx (fl z (p + 1))):=by rw [upd_ne nxa];exact h1
  have hA2:=hA.on h2 (drop_at hd).2.1
  by_cases hsg:sg=43∨sg=45
  · rw [pm_in hsg]
    refine iteF ?_
    refine ⟨_,rfl,x,dx,_,rfl,h2,fl_no _ _ (by decide +kernel) (by decide +kernel),x,dx,z,p + 1,rfl,hA2,fun ds c r' hF hG H3 s3 h3=>?_,fun hn H3 s3=>q2 (fun ⟨n,c,r',e1,e2,e3⟩=>hn ?_) H3 (s2.trans s3)⟩
    · obtain ⟨m,hm,em⟩:=nt_of hF.2.1 hG.1 hG.2.1 hG.2.2
      obtain ⟨hF1,hF2,hF3⟩:=hF
      have hall:(Ls z).drop p=sg :: (ds++c :: r'):=by rw [hd];rw [d1] at hF1;rw [hF1]
      have l30:=hG.2.1
      have hl:(mk ds).length≤640:=by rw [len_mk];omega
      have hi:intText? (mk ds)=some (m:Int):=by rw [em];exact nt_reads hm
      by_cases neg:sg=45
      · have e45:decide (V.str (mk [sg])=V.str (Str.ofString "-"))=true:=decide_eq_true (by rw [neg,L_mi])
        refine ⟨_,rfl,rfl,_,rfl,?_⟩
        by_cases z0:m=0
        · have:mk ds=Str.ofString "0":=by rw [em,z0,L_no];rfl
          rw [decide_eq_true (show V.str (mk ds)=V.str (Str.ofString "0") by rw [this])]
          refine iteT ⟨_,rfl,rfl,_,rfl,?_⟩
          rw [e45]
          refine iteT ⟨(by show 1≤sizeLine;decide),q2 (fun ⟨n,c2,r2,e1,e2,e3⟩=>?_) H3 (s2.trans s3)⟩
          rw [hall] at e1
          have e1:sg :: (ds++c :: r')=(if n < 0 then 45 else 43) :: (nt n.natAbs++c2 :: r2):=e1
          obtain ⟨i1,i2⟩:=List.cons.inj e1
          obtain ⟨i3,_,_⟩:=dig_uni hF2 nt_dig hF3 e2 i2
          rw [em] at i3
          have:=nt_inj i3
          rw [neg] at i1
          split at i1
          · omega
          · omega
        · have nz:decide (V.str (mk ds)=V.str (Str.ofString "0"))=false:=decide_eq_false fun g=>by
            rw [L_no] at g
            have g:=mk_inj (V.str.inj g)
            rw [em] at g
            exact z0 (nt_inj (g.trans (by decide:[48]=nt 0)))
          rw [nz]
          refine iteF (iteF ?_)
          refine ⟨_,rfl,mk ds,(m:Int),rfl,hi,hl,?_⟩
          refine ⟨_,rfl,rfl,_,rfl,?_⟩
          rw [e45]
          refine iteT ⟨_,rfl,_,rfl,?_⟩
          have ec:ct (-(m:Int))=sg :: ds:=by
            unfold ct
            rw [if_pos (by omega),neg,em]
            congr 2
            omega
          refine q1 (-(m:Int)) c r' ⟨by rw [ec,hall];rfl,hF3,by omega⟩ H3 (s2.trans s3) ?_
          rw [h3,ec]
          congr 3
          show p + 1 + ds.length=p + (ds.length + 1)
          omega
      · have e43:sg=43:=by omega
        have nm:decide (V.str (mk [sg])=V.str (Str.ofString "-"))=false:=decide_eq_false fun g=>by
          rw [L_mi] at g
          exact neg (List.cons.inj (mk_inj (V.str.inj g))).1
        have ec:ct (m:Int)=sg :: ds:=by
          unfold ct
          rw [if_neg (by omega),e43,em]
          rfl
        have fin:=q1 (m:Int) c r' ⟨by rw [ec,hall];rfl,hF3,by omega⟩ H3 (s2.trans s3) (by
          rw [h3,ec]
          congr 3
          show p + 1 + ds.length=p + (ds.length + 1)
          omega)
        refine ⟨_,rfl,rfl,_,rfl,?_⟩
        cases hb:decide (V.str (mk ds)=V.str (Str.ofString "0")) with
        | true =>
          refine iteT ⟨_,rfl,rfl,_,rfl,?_⟩
          rw [nm]
          refine iteF ?_
          refine ⟨_,rfl,mk ds,(m:Int),rfl,hi,hl,?_⟩
          refine ⟨_,rfl,rfl,_,rfl,?_⟩
          rw [nm]
          exact iteF ⟨_,rfl,fin⟩
        | false =>
          refine iteF (iteF ?_)
          refine ⟨_,rfl,mk ds,(m:Int),rfl,hi,hl,?_⟩
          refine ⟨_,rfl,rfl,_,rfl,?_⟩
          rw [nm]
          exact iteF ⟨_,rfl,fin⟩
    · rw [hd] at e1
      have e1:sg :: r=(if n < 0 then 45 else 43) :: (nt n.natAbs++c :: r'):=e1
      refine ⟨nt n.natAbs,c,r',⟨by rw [d1];exact (List.cons.inj e1).2,nt_dig,e2⟩,fun g=>by have:=nt_pos n.natAbs;rw [g] at this;exact absurd this (by decide),nt_len e3,fun r e=>nt_zero e⟩
  · rw [pm_out hsg]
    refine iteT ?_
    have hE:=q2 (fun ⟨n,c,r',e1,e2,e3⟩=>hsg (by
      rw [hd] at e1
      have e1:sg :: r=(if n < 0 then 45 else 43) :: (nt n.natAbs++c :: r'):=e1
      have:=(List.cons.inj e1).1
      split at this
      · exact .inr this
      · exact .inl this)) _ s2
    have l1:(Str.ofString " stands where a sign + or - should").length≤50:=by decide +kernel
    refine ⟨_,rfl,_,rfl,mk1_len _,mk_small (hA.lt (l:=[]) hd),fun y1 hy1=>⟨y1,rfl,sz_of (ap_len em_len hy1) (by decide),_,rfl,sz_of (ap_len (ap_len em_len hy1) l1) (by decide),sz_of (ap_len (ap_len em_len hy1) l1) (by decide),?_⟩⟩
    exact ⟨(by show 1≤sizeLine;decide),hE⟩
noncomputable def BrAt (n:Nat) (l:List Nat) (b:Br Str) (r:List Nat):Prop:=l=bt b++r∧Brok b∧ht b < n
noncomputable def spTbE (C N:Addr) (n:Nat):Sp:=fun vs H Q E=>∃ (x dx:Addr) (z:Str) (p d:Nat),vs=[.ref x,.int d]∧d + n=8∧1≤n∧RA C x dx z p H∧(∀ b r,BrAt n ((Ls z).drop p) b r→∀ v H',SX x H H'→H' x=some (.ins C dx (fl z (p + (bt b).length)))→BrV H' b v→Q v H') ∧
  ((¬ ∃ b r,BrAt n ((Ls z).drop p) b r)→∀ H',SX x H H'→E (.ref N) none H')
theorem ok_tbE (R:Rdr K C) (XN:ExcAt K mg "NotRead" N) (F:MAt K C "take_bracket" "Reader.take_bracket" (rm 8) ["self","depth"] f fd) (FT:MAt K C "take" "Reader.take" (rm 3) ["self"] ft td) (FW:MAt K C "take_wanted" "Reader.take_wanted" (rm 4) ["self","wanted"] fw wd)
    (GT:FnOk P w K mg base (CXE P w) 3 ft td ["self"] (spTkE C N)) (GW:FnOk P w K mg base (CXE P w) 4 fw wd ["self","wanted"] (spWaE C N)) {tG:PySem.Tok} (hL:mg "LETTERS" = some (.ref aL)) (uL:TupK K aL LET) (hG:mg "GREATEST_WEIGHT" = some (.int 8 tG)) :
    ∀ n:Nat,FnOk P w K mg base (CXE P w) (n + 4) f fd ["self","depth"] (spTbE C N n)
  | 0=>⟨fun vs H Q E h=>by obtain ⟨x,dx,z,p,d,_,_,h,_⟩:=h;omega,fun A outer s H args us vs Q E _ _ _ _ h=>by obtain ⟨x,dx,z,p,d,_,_,h,_⟩:=h;omega⟩
  | n + 1=>by
    have G:=ok_tbE R XN F FT FW GT GW hL uL hG n
    refine F.fn.okE scTb (fun vs H Q E h=>?_) (fun cdv A outer s H vs Q E hr h=>?_)
    · obtain ⟨x,dx,z,p,d,rfl,_⟩:=h
      rfl
    obtain ⟨x,dx,z,p,d,rfl,hdn,hn1,hA,q1,q2⟩:=h
    have hr3:Room 3 _:=hr.mono (by omega)
    have hr4:Room 4 _:=hr.mono (by omega)
    refine ⟨_,pss_cons (ps_set (i:=2) scTb.nd rfl (Or.inl rfl) (pe_meth0 (pv 0) R.cl FT.m GT hr3 FT.b .nil passE))
      (pss_cons (ps_if (pt_cmpR op_in_seq (pv 2) (pe_glob (v:=.ref aL) rfl hL rfl) (by with_unfolding_all rfl)) (pss_one (ps_ret (pv 2))) pss_nil)
      (pss_cons (ps_if (pt_cmpR op_ne (pv 2) pe_str (nomark _)) (pss_one (ps_raise hr.hd XN rfl (pa_cons (pe_join (pj_cons (pe_fmtR (pv 2)) (pj_cons pe_str pj_nil))) pa_nil))) pss_nil)
      (pss_cons (ps_if (pt_cmpR op_ge (pe_op op_add (pv 1) pe_int) (pe_glob (v:=.int 8) rfl hG ⟨tG,rfl⟩) (nomark _)) (pss_one (ps_raise hr.hd XN rfl (pa_cons (pe_join (pj_cons pe_str (pj_cons (pe_fmt (pe_glob (v:=.int 8) rfl hG ⟨tG,rfl⟩)) pj_nil))) pa_nil))) pss_nil)
      (pss_cons (ps_set (i:=3) scTb.nd rfl (Or.inl rfl) (pe_meth (pv 0) R.cl F.m G hr F.b .nil passE (pa_cons (pe_op op_add (pv 1) pe_int) pa_nil)))
      (pss_cons (ps_expr (pe_meth (pv 0) R.cl FW.m GW hr4 FW.b .nil passE (pa_cons pe_str pa_nil)))
      (pss_cons (ps_set (i:=4) scTb.nd rfl (Or.inl rfl) (pe_meth (pv 0) R.cl F.m G hr F.b .nil passE (pa_cons (pe_op op_add (pv 1) pe_int) pa_nil)))
      (pss_cons (ps_expr (pe_meth (pv 0) R.cl FW.m GW hr4 FW.b .nil passE (pa_cons pe_str pa_nil)))
      (pss_one (ps_ret (pe_tup (pa_cons (pv 3) (pa_cons (pv 4) pa_nil)))))))))))),?_⟩
    refine ⟨_,rfl,x,dx,_,rfl,hA.1,fl_no _ _ (by decide +kernel) (by decide +kernel),x,dx,z,p,rfl,hA,fun c r hd H1 s1 h1=>?_,fun hn=>q2 (fun ⟨b,r,e,hk,_⟩=>by
      obtain ⟨c,r',e',_⟩:=bt_beg hk
      rw [hn,e'] at e
      cases e) H (fun _ _ _ e=>e)⟩
    have d1:=(drop_at hd).2.2
    have hA1:=hA.on h1 (drop_at hd).2.1
    refine ⟨_,rfl,aL,_,rfl,.inr (uL.sq _),rfl,let_flat,_,rfl,?_⟩
    by_cases hc:c=97∨c=98∨c=99
    · rw [if_neg Bool.false_ne_true,let_in hc]
      refine iteT ⟨_,rfl,?_⟩
      have hab:Brok (.leaf (mk [c])):=⟨len_mk _,fun k hk=>by
        have hk:k∈Ls (mk [c]):=hk
        rw [Ls_mk] at hk
        have:k=c:=by simpa using hk
        rw [this];exact hc⟩
      have eb:bt (.leaf (mk [c]))=[c]:=Ls_mk _
      exact q1 (.leaf (mk [c])) r ⟨by rw [eb,hd];rfl,hab,hn1⟩ _ _ s1 (by rw [eb];exact h1) ⟨rfl,hab.1,hab.2⟩
    rw [if_neg Bool.false_ne_true,let_no hc]
    refine iteF ⟨_,rfl,rfl,_,rfl,?_⟩
    have shape:∀ b r',BrAt (n + 1) ((Ls z).drop p) b r'→∃ a1 a2,b = .node a1 a2∧c=91∧r=bt a1++(44 :: (bt a2++(93 :: r')))∧Brok a1∧Brok a2∧ht a1 < n∧ht a2 < n:=by
      rintro b r' ⟨e,hk,hh⟩
      rw [hd] at e
      cases b with
      | leaf y =>
        obtain ⟨c',hc',e1,e2⟩:=one_abc hk.1 hk.2
        rw [show bt (.leaf y)=[c'] from e1] at e
        exact absurd (by rw [(List.cons.inj e).1];exact hc') hc
      | node a1 a2 =>
        have e:c :: r=91 :: ((bt a1++44 :: (bt a2++[93]))++r'):=e
        have hh:1 + max (ht a1) (ht a2) < n + 1:=hh
        exact ⟨a1,a2,rfl,(List.cons.inj e).1,by rw [(List.cons.inj e).2];simp,hk.l,hk.r,by omega,by omega⟩
    by_cases c91:c=91
    · rw [decide_eq_true (show V.str (mk [c])=V.str (Str.ofString "[") by rw [c91,L_lb])]
      refine iteF ?_
      refine ⟨_,rfl,_,_,rfl,rfl,_,_,rfl,rfl,_,rfl,?_⟩
      refine ite2 (fun g=>?_) (fun g=>?_)
      · have g:(8:Int)≤(d:Int) + 1:=of_decide_eq_true g
        have hE:=q2 (fun ⟨b,r',hb⟩=>by
          obtain ⟨a1,a2,_,_,_,_,_,g1,g2⟩:=shape b r' hb
          omega) _ s1
        have l1:(Str.ofString "a bracket of a weight above ").length≤50:=by decide +kernel
        have l3:(Str.ofString (toString (8:Int))).length≤20:=by decide +kernel
        refine ⟨_,rfl,sz_of (ap_len em_len l1) (by decide),.inr ⟨8,rfl,by decide,_,rfl,sz_of (ap_len (ap_len em_len l1) l3) (by decide),sz_of (ap_len (ap_len em_len l1) l3) (by decide),?_⟩⟩
        exact ⟨(by show 1≤sizeLine;decide),hE⟩
      · have g:¬ (8:Int)≤(d:Int) + 1:=of_decide_eq_false (Bool.eq_false_iff.mpr g)
        refine ⟨_,rfl,x,dx,_,rfl,h1,fl_no _ _ (by decide +kernel) (by decide +kernel),_,rfl,_,_,rfl,rfl,x,dx,z,p + 1,d + 1,rfl,by omega,by omega,hA1,fun a r1 hB1 v1 H2 s2 h2 b1=>?_,fun hn H2 s2=>q2 (fun ⟨b,r',hb⟩=>by
          obtain ⟨a1,a2,_,_,e1,k1,_,g1,_⟩:=shape b r' hb
          exact hn ⟨a1,_,by rw [d1,e1],k1,g1⟩) H2 (s1.trans s2)⟩
        obtain ⟨hB1,hka,hha⟩:=hB1
        have d2:=drop_on hB1
        have hA2:=hA.on h2 (drop_le hA1.2.2.1 hB1)
        rw [d1] at hB1
        refine ⟨_,rfl,x,dx,_,rfl,h2,fl_no _ _ (by decide +kernel) (by decide +kernel),x,dx,z,_,44,(by rw [L_cm];rfl),by decide,hA2,fun r2 hd2 H3 s3 h3=>?_,fun hn H3 s3=>q2 (fun ⟨b,r',hb⟩=>by
          obtain ⟨a1,a2,_,_,e1,k1,_,g1,_⟩:=shape b r' hb
          rw [hB1] at e1
          obtain ⟨_,e2⟩:=bt_uni hka k1 e1
          exact hn ⟨_,by rw [d2,e2]⟩) H3 (s1.trans (s2.trans s3))⟩
        have d3:=(drop_at hd2).2.2
        have hA3:=hA.on h3 (drop_at hd2).2.1
        rw [d2] at hd2
        refine ⟨_,rfl,x,dx,_,rfl,h3,fl_no _ _ (by decide +kernel) (by decide +kernel),_,rfl,_,_,rfl,rfl,x,dx,z,_,d + 1,rfl,by omega,by omega,hA3,fun b r3 hB3 v2 H4 s4 h4 b2=>?_,fun hn H4 s4=>q2 (fun ⟨b,r',hb⟩=>by
          obtain ⟨a1,a2,_,_,e1,k1,k2,g1,g2⟩:=shape b r' hb
          rw [hB1] at e1
          obtain ⟨_,e2⟩:=bt_uni hka k1 e1
          rw [hd2] at e2
          exact hn ⟨a2,_,by rw [d3,(List.cons.inj e2).2],k2,g2⟩) H4 (s1.trans (s2.trans (s3.trans s4)))⟩
        obtain ⟨hB3,hkb,hhb⟩:=hB3
        have d4:=drop_on hB3
        have hA4:=hA.on h4 (drop_le hA3.2.2.1 hB3)
        rw [d3] at hB3
        refine ⟨_,rfl,x,dx,_,rfl,h4,fl_no _ _ (by decide +kernel) (by decide +kernel),x,dx,z,_,93,(by rw [L_rb];rfl),by decide,hA4,fun r4 hd4 H5 s5 h5=>?_,fun hn H5 s5=>q2 (fun ⟨b',r',hb⟩=>by
          obtain ⟨a1,a2,_,_,e1,k1,k2,g1,g2⟩:=shape b' r' hb
          rw [hB1] at e1
          obtain ⟨_,e2⟩:=bt_uni hka k1 e1
          rw [hd2] at e2
          have e3:=(List.cons.inj e2).2
          rw [hB3] at e3
          obtain ⟨_,e4⟩:=bt_uni hkb k2 e3
          exact hn ⟨_,by rw [d4,e4]⟩) H5 (s1.trans (s2.trans (s3.trans (s4.trans s5))))⟩
        rw [d4] at hd4
        refine ⟨_,rfl,_,rfl,(by show 2≤sizeLine;decide),fun t nt=>?_⟩
        have s6:=new_same nt (.tup [v1,v2])
        have nxt:x≠t:=ne_of_none h5 nt
        have c1:=(((b1.sx (ins_nt h2) s3).sx (ins_nt h3) s4).sx (ins_nt h4) s5).same s6
        have c2:=(b2.sx (ins_nt h4) s5).same s6
        refine q1 (.node a b) r4 ⟨?_,⟨⟨hka.1,hkb.1⟩,⟨hka.2,hkb.2⟩⟩,by show 1 + max (ht a) (ht b) < n + 1;omega⟩ (.ref t) _ (s1.trans (s2.trans (s3.trans (s4.trans (s5.trans s6.sx))))) ?_ ⟨t,v1,v2,rfl,upd_same,c1,c2⟩
        · rw [hd,c91,hB1,hd2,hB3,hd4]
          simp [bt]
        · rw [upd_ne nxt,h5]
          congr 3
          show _=p + (91 :: (bt a++44 :: (bt b++[93]))).length
          simp only [List.length_cons,List.length_append,List.length_nil]
          omega
    · rw [decide_eq_false (fun g=>c91 (by rw [L_lb] at g;exact (List.cons.inj (mk_inj (V.str.inj g))).1))]
      refine iteT ?_
      have hE:=q2 (fun ⟨b,r',hb⟩=>by
        obtain ⟨a1,a2,_,g,_⟩:=shape b r' hb
        exact c91 g) _ s1
      have l1:(Str.ofString " stands where a bracket should").length≤50:=by decide +kernel
      refine ⟨_,rfl,_,rfl,mk1_len _,mk_small (hA.lt (l:=[]) hd),fun y1 hy1=>⟨y1,rfl,sz_of (ap_len em_len hy1) (by decide),_,rfl,sz_of (ap_len (ap_len em_len hy1) l1) (by decide),sz_of (ap_len (ap_len em_len hy1) l1) (by decide),?_⟩⟩
      exact ⟨(by show 1≤sizeLine;decide),hE⟩
end
end K01
end
section
namespace K01
open PySem PySem.Spec PyProof.Rows Tim L2 Wm
section
variable {P:Program} {w:World} {K:PySem.W.Frag} {mg:Str→Option Value} {base:Heap} {f fe fi fh ft fw fg fc fb fq aL C N:Addr} {fd ed id' hd td wd gd cd bd qd:FuncData}
noncomputable def spWtH (n:Nat):Sp:=fun vs H Q _=>∃ (b:Br Str) (v:V),vs=[v]∧BrV H b v∧ht b < n∧Q (.int b.wt) H
theorem ok_wtH (T:Blt mg) (F:At K mg "weight" (top 3) ["bracket"] f fd):∀ n:Nat,FnOk P w K mg base CX0 n f fd ["bracket"] (spWtH n)
  | 0=>fn_zero fun vs H Q E h=>by
    obtain ⟨b,v,_,_,h,_⟩:=h
    omega
  | n + 1=>by
    have G:=ok_wtH T F n
    refine F.fn.ok scWtP (fun vs H Q E h=>?_) (fun cdv A outer s H vs Q E hr h=>?_)
    · obtain ⟨b,v,rfl,_⟩:=h
      rfl
    obtain ⟨b,v,rfl,hb,hn,q⟩:=h
    refine ⟨_,pss_cons (ps_if (pt_val (pe_callB call_isi rfl T.isi boot_isi (pa_cons (pv 0) (pa_cons (pe_ty rfl T.str bt_str) pa_nil)))) (pss_one (ps_ret pe_int)) pss_nil)
      (pss_one (ps_ret (pe_op op_add (pe_call G hr rfl F.m F.k F.b .nil pass0 (pa_cons (pe_ix ix_tup (pv 0) pe_int (fun _ _=>rfl)) pa_nil)) (pe_call G hr rfl F.m F.k F.b .nil pass0 (pa_cons (pe_ix ix_tup (pv 0) pe_int (fun _ _=>rfl)) pa_nil))))),?_⟩
    cases b with
    | leaf x =>
      obtain ⟨rfl,hx⟩:=hb
      refine ⟨_,rfl,_,_,_,rfl,.ss x,_,rfl,?_⟩
      exact iteT q
    | node a b =>
      obtain ⟨p,u,w,rfl,hp,h1,h2⟩:=hb
      have hn:1 + max (ht a) (ht b) < n + 1:=hn
      refine ⟨_,rfl,_,_,_,rfl,.ts hp,_,rfl,?_⟩
      refine iteF ?_
      refine ⟨_,rfl,p,_,_,_,rfl,rfl,.inl (.inl hp),rfl,a,u,rfl,h1,by omega,?_⟩
      exact ⟨_,rfl,p,_,_,_,rfl,rfl,.inl (.inl hp),rfl,b,w,rfl,h2,by omega,_,_,rfl,rfl,q⟩
noncomputable def TtAt (l:List Nat) (y:Int×Br Str) (r:List Nat):Prop:=l=tt y++r∧Tok y
noncomputable def spTtE (C N:Addr):Sp:=fun vs H Q E=>∃ (x dx:Addr) (z:Str) (p:Nat),vs=[.ref x]∧RA C x dx z p H∧(∀ y r,TtAt ((Ls z).drop p) y r→∀ t v H',SX x H H'→H' x=some (.ins C dx (fl z (p + (tt y).length)))→H' t=some (.tup [.int y.1,v])→BrV H' y.2 v→Q (.ref t) H') ∧
  ((¬ ∃ y r,TtAt ((Ls z).drop p) y r)→∀ H',SX x H H'→E (.ref N) none H')
theorem ok_ttE (T:Blt mg) (R:Rdr K C) (XN:ExcAt K mg "NotRead" N) (F:MAt K C "take_tuple" "Reader.take_tuple" (rm 5) ["self"] f fd) (FC:MAt K C "take_count" "Reader.take_count" (rm 6) ["self"] fc cd) (FB:MAt K C "take_bracket" "Reader.take_bracket" (rm 8) ["self","depth"] fb bd) (FQ:At K mg "weight" (top 3) ["bracket"] fq qd)
    (GC:FnOk P w K mg base (CXE P w) 5 fc cd ["self"] (spCoE C N)) (GB:FnOk P w K mg base (CXE P w) 12 fb bd ["self","depth"] (spTbE C N 8)) {tG:PySem.Tok} (hG:mg "GREATEST_WEIGHT" = some (.int 8 tG)):FnOk P w K mg base (CXE P w) 13 f fd ["self"] (spTtE C N):=by
  have GQ:FnOk P w K mg base CX0 8 fq qd ["bracket"] (spWtH 8):=ok_wtH T FQ 8
  refine F.fn.okE scTt (fun vs H Q E h=>?_) (fun cdv A outer s H vs Q E hr h=>?_)
  · obtain ⟨x,dx,z,p,rfl,_⟩:=h
    rfl
  obtain ⟨x,dx,z,p,rfl,hA,q1,q2⟩:=h
  have hr5:Room 5 _:=hr.mono (by omega)
  have hr8:Room 8 _:=hr.mono (by omega)
  refine ⟨_,pss_cons (ps_set (i:=1) scTt.nd rfl (Or.inl rfl) (pe_meth0 (pv 0) R.cl FC.m GC hr5 FC.b .nil passE))
    (pss_cons (ps_set (i:=2) scTt.nd rfl (Or.inl rfl) (pe_meth (pv 0) R.cl FB.m GB hr FB.b .nil passE (pa_cons pe_int pa_nil)))
    (pss_cons (ps_if (pt_cmpR op_gt (pe_call GQ hr8 rfl FQ.m FQ.k FQ.b .nil pass0 (pa_cons (pv 2) pa_nil)) (pe_glob (v:=.int 8) rfl hG ⟨tG,rfl⟩) (nomark _)) (pss_one (ps_raise hr.hd XN rfl (pa_cons (pe_join (pj_cons pe_str (pj_cons (pe_fmt (pe_glob (v:=.int 8) rfl hG ⟨tG,rfl⟩)) pj_nil))) pa_nil))) pss_nil)
    (pss_one (ps_ret (pe_tup (pa_cons (pv 1) (pa_cons (pv 2) pa_nil))))))),?_⟩
  refine ⟨_,rfl,x,dx,_,rfl,hA.1,fl_no _ _ (by decide +kernel) (by decide +kernel),x,dx,z,p,rfl,hA,fun n c r hC H1 s1 h1=>?_,fun hn H1 s1=>q2 (fun ⟨y,r,e,⟨k1,k2,k3⟩⟩=>hn (by
    obtain ⟨c,r',eb,hb⟩:=bt_beg k1
    exact ⟨y.1,c,r'++r,by rw [e];unfold tt;rw [eb];simp,beg_nd hb,k3⟩)) H1 s1⟩
  obtain ⟨c1,c2,c3⟩:=hC
  have d1:=drop_on c1
  have hA1:=hA.on h1 (drop_le hA.2.2.1 c1)
  refine ⟨_,rfl,x,dx,_,rfl,h1,fl_no _ _ (by decide +kernel) (by decide +kernel),x,dx,z,_,0,rfl,rfl,by decide,hA1,fun b r' hB v H2 s2 h2 b2=>?_,fun hn H2 s2=>q2 (fun ⟨y,r2,e,⟨k1,k2,k3⟩⟩=>hn (by
    obtain ⟨c',r',eb,hb⟩:=bt_beg k1
    have e':(Ls z).drop p=ct y.1++c' :: (r'++r2):=by rw [e];unfold tt;rw [eb];simp
    rw [c1] at e'
    obtain ⟨g1,g2,g3⟩:=ct_uni c2 (beg_nd hb) e'
    have:=ht_wt y.2
    exact ⟨y.2,r2,by rw [d1,g2,g3,eb];rfl,k1,by omega⟩)) H2 (s1.trans s2)⟩
  obtain ⟨hB,hk,hh⟩:=hB
  rw [d1] at hB
  have eall:(Ls z).drop p=tt (n,b)++r':=by rw [c1,hB];unfold tt;simp
  refine ⟨_,rfl,b,v,rfl,b2,hh,_,_,rfl,rfl,_,rfl,?_⟩
  refine ite2 (fun g=>?_) (fun g=>?_)
  · have g:(8:Int) < (b.wt:Int):=of_decide_eq_true g
    have hE:=q2 (fun ⟨y,r2,e,⟨k1,k2,k3⟩⟩=>by
      rw [eall] at e
      obtain ⟨e1,e2⟩:=tt_uni hk k1 e
      rw [← e1] at k2
      have k2:b.wt≤8:=k2
      omega) _ (s1.trans s2)
    have l1:(Str.ofString "a bracket of a weight above ").length≤50:=by decide +kernel
    have l3:(Str.ofString (toString (8:Int))).length≤20:=by decide +kernel
    refine ⟨_,rfl,sz_of (ap_len em_len l1) (by decide),.inr ⟨8,rfl,by decide,_,rfl,sz_of (ap_len (ap_len em_len l1) l3) (by decide),sz_of (ap_len (ap_len em_len l1) l3) (by decide),?_⟩⟩
    exact ⟨(by show 1≤sizeLine;decide),hE⟩
  · have g:¬ (8:Int) < (b.wt:Int):=of_decide_eq_false (Bool.eq_false_iff.mpr g)
    refine ⟨_,rfl,_,rfl,(by show 2≤sizeLine;decide),fun t nt=>?_⟩
    have s6:=new_same nt (.tup [.int n,v])
    have nxt:x≠t:=ne_of_none h2 nt
    refine q1 (n,b) r' ⟨eall,hk,by show b.wt≤8;omega,c3⟩ t v _ (s1.trans (s2.trans s6.sx)) ?_ upd_same (b2.same s6)
    have hl2:(tt (n,b)).length=(ct n).length + (bt b).length:=by unfold tt;rw [List.length_append]
    rw [upd_ne nxt,h2,hl2,Nat.add_assoc]
noncomputable def spReE (K:PySem.W.Frag) (N:Addr):Sp:=fun vs H Q E=>∃ z:Str,vs=[.str z]∧z.length≤100000∧(∀ c∈Ls z,c < 128) ∧
  (∀ T,Wr (Ls z) T→∀ t ps H',H t=none→Same H H'→H' t=some (.lst ps)→TotV K H' t ps T→Q (.ref t) H')∧((¬ ∃ T,Wr (Ls z) T)→∀ H',Same H H'→E (.ref N) none H')
theorem ok_reE (T:Blt mg) (R:Rdr K C) (XN:ExcAt K mg "NotRead" N) (hC:mg "Reader" = some (.ref C)) (F:At K mg "read" (top 22) ["text"] f fd) (M:Mk K C fi) (bI:Binds K id' ["self","text"] []) (GI:FnOk P w K mg base CX0 1 fi id' ["self","text"] (spIn C))
    (FE:MAt K C "at_end" "Reader.at_end" (rm 1) ["self"] fe ed) (GE:FnOk P w K mg base CX0 1 fe ed ["self"] (spEn C)) (FT:MAt K C "take_tuple" "Reader.take_tuple" (rm 5) ["self"] ft td) (GT:FnOk P w K mg base (CXE P w) 13 ft td ["self"] (spTtE C N))
    {tM:PySem.Tok} (hM:mg "MOST_TUPLES" = some (.int 12 tM)):FnOk P w K mg base (CXE P w) 14 f fd ["text"] (spReE K N):=by
  refine F.fn.okE scRe (fun vs H Q E h=>?_) (fun cdv A outer s H vs Q E hr h=>?_)
  · obtain ⟨z,rfl,_⟩:=h
    rfl
  obtain ⟨z,rfl,hz,hasc,q1,q2⟩:=h
  have hr1:Room 1 _:=hr.mono (by omega)
  have hr2:Room 2 _:=hr.mono (by omega)
  refine ⟨_,pss_cons (ps_if (pt_cmpR op_eq (pv 0) pe_str (nomark _)) (pss_one (ps_ret (pe_lst pa_nil))) pss_nil)
    (pss_cons (ps_set (i:=1) scRe.nd rfl (Or.inl rfl) (pe_make M GI hr2 rfl hC bI .nil pass0 (pa_cons (pv 0) pa_nil)))
    (pss_cons (ps_set (i:=2) scRe.nd rfl (Or.inl rfl) (pe_lst (pa_cons (pe_meth0 (pv 1) R.cl FT.m GT hr FT.b .nil passE) pa_nil)))
    (pss_cons (ps_while PassesOwn.leaving (pt_not (pt_val (pe_meth0 (pv 1) R.cl FE.m GE hr1 FE.b .nil pass0)))
      (pss_one (ps_expr (pe_bm PySem.F.plainAttrs_list PySem.F.slot_list_append PySem.F.type_list_append mt_append (pv 2) (pa_cons (pe_meth0 (pv 1) R.cl FT.m GT hr FT.b .nil passE) pa_nil)))))
    (pss_cons (ps_if (pt_cmpR op_gt (pe_callB call_len_seq rfl T.len PySem.boot_len (pa_cons (pv 2) pa_nil)) (pe_glob (v:=.int 12) rfl hM ⟨tM,rfl⟩) (nomark _)) (pss_one (ps_raise hr.hd XN rfl (pa_cons (pe_join (pj_cons pe_str (pj_cons (pe_fmt (pe_glob (v:=.int 12) rfl hM ⟨tM,rfl⟩)) (pj_cons pe_str pj_nil)))) pa_nil))) pss_nil)
    (pss_one (ps_ret (pv 2))))))),?_⟩
  have hsz:=sizeLine_eq
  refine ⟨_,rfl,rfl,_,rfl,?_⟩
  by_cases z0:Ls z=[48]
  · have e:z=Str.ofString "0":=str_ext (by rw [z0,L_no,Ls_mk])
    rw [e,decide_eq_true rfl]
    refine iteT ⟨by show 0≤sizeLine;decide,fun t nt=>?_⟩
    exact q1 [] (.inl ⟨rfl,z0⟩) t [] _ nt (new_same nt _) upd_same ⟨.inl (.inl upd_same),rfl,fun i x e=>by cases e⟩
  · have nz:decide (V.str z=V.str (Str.ofString "0"))=false:=decide_eq_false fun g=>z0 (by rw [V.str.inj g,L_no,Ls_mk])
    rw [nz]
    refine iteF ?_
    refine ⟨_,rfl,?_⟩
    intro x dx nx ndx nex
    have s0:Same H (upd (upd H dx (.own x)) x (.ins C dx [])):=fun b o e=>by
      rw [upd_ne (ne_of_none e nx),upd_ne (ne_of_none e ndx)]
      exact e
    refine ⟨x,dx,z,rfl,upd_same,fun H1 s1 h1=>⟨rfl,?_⟩⟩
    have s1:Same H H1:=SX.same s0 nx s1
    have hA1:RA C x dx z 0 H1:=⟨h1,hz,Nat.zero_le _,hasc⟩
    have only:∀ (A:List (Int×Br Str)) (r:List Nat),(∀ y∈A,Tok y)→Ls z=sxt A++r→∀ U,Wr (Ls z) U→∃ B,U=A++B∧r=sxt B∧(∀ y∈B,Tok y)∧U≠[]:=by
      intro A r hA e U hU
      rcases hU with ⟨_,g⟩ | ⟨g1,g2,g3,g4⟩
      · exact absurd g z0
      · rw [e] at g4
        obtain ⟨B,b1,b2⟩:=sxt_pre (fun y hy=>(hA y hy).1) (fun y hy=>(g3 y hy).1) g4
        exact ⟨B,b1,b2,fun y hy=>g3 y (by rw [b1];exact List.mem_append_right _ hy),g1⟩
    refine ⟨_,rfl,x,dx,_,rfl,h1,fl_no _ _ (by decide +kernel) (by decide +kernel),x,dx,z,0,rfl,hA1,fun y r0 hy a v H2 s2 h2 ea bv=>?_,fun hn H2 s2=>q2 (fun ⟨U,hU⟩=>hn (by
      obtain ⟨B,b1,b2,b3,b4⟩:=only [] (Ls z) (fun y hy=>by cases hy) rfl U hU
      cases B with
      | nil=>exact absurd b1 b4
      | cons y B=>exact ⟨y,sxt B,by rw [List.drop_zero,b2,sxt_cons],b3 y List.mem_cons_self⟩)) H2 (SX.same s1 nx s2)⟩
    obtain ⟨hy1,hy2⟩:=hy
    rw [List.drop_zero] at hy1
    have s2:Same H H2:=SX.same s1 nx s2
    refine ⟨by show 1≤sizeLine;decide,fun t nt=>?_⟩
    have nxt:x≠t:=ne_of_none h2 nt
    have s3':=new_same nt (.lst [.ref a])
    have s3:=s2.trans s3'
    have ntH:H t=none:=s2.free nt
    have hk1:∀ y'∈[y],Tok y':=fun y' hy'=>by
      have:y'=y:=by simpa using hy'
      rw [this];exact hy2
    refine ⟨fun m σ Hx=>∃ (A:List (Int×Br Str)) (r:List Nat) (ps:List V),m=r.length∧A≠[]∧(∀ y∈A,Tok y)∧Ls z=sxt A++r∧σ=[some (.str z),some (.ref x),some (.ref t)]∧Same H Hx∧Hx x=some (.ins C dx (fl z (sxt A).length))∧Hx t=some (.lst ps)∧TotV K Hx t ps A,⟨_,[y],r0,[.ref a],rfl,by simp,hk1,by rw [hy1,sxt_cons];simp [sxt],rfl,s3,?_,upd_same,?_⟩,?_⟩
    · rw [upd_ne nxt,h2]
      have:(sxt [y]).length=0 + (tt y).length:=by rw [sxt_cons,List.length_append];simp [sxt]
      rw [this]
    · refine ⟨.inl (.inl upd_same),rfl,fun i u e=>?_⟩
      cases i with
      | zero=>cases e;exact ⟨a,v,rfl,s3' _ _ ea,bv.same s3'⟩
      | succ i=>cases e
    rintro m σ Hx ⟨A,r,ps,rfl,hAne,hAk,hAs,rfl,sx,xx,xt,tv⟩
    have lz:(Ls z).length=(sxt A).length + r.length:=by rw [hAs,List.length_append]
    rw [len_Ls] at lz
    have hAx:RA C x dx z (sxt A).length Hx:=⟨xx,hz,by omega,hasc⟩
    have hdrop:(Ls z).drop (sxt A).length=r:=by rw [hAs,List.drop_left]
    have lA:A.length≤(sxt A).length:=by
      have key:∀ B:List (Int×Br Str),B.length≤(sxt B).length:=by
        intro B
        induction B with
        | nil=>exact Nat.le_refl _
        | cons u B ih =>
          obtain ⟨c,t,e,_⟩:=tt_head u
          rw [sxt_cons,e,List.length_append,List.length_cons,List.length_cons]
          omega
      exact key A
    have lps:ps.length=A.length:=tv.2.1
    refine ⟨_,rfl,x,dx,_,rfl,xx,fl_no _ _ (by decide +kernel) (by decide +kernel),x,dx,z,_,rfl,xx,hz,_,rfl,?_⟩
    by_cases hlt:r=[]
    · rw [hlt] at lz hAs
      rw [List.append_nil] at hAs
      rw [decide_eq_true (by rw [lz];rfl:(sxt A).length=z.length)]
      refine iteF ?_
      refine ⟨_,rfl,t,ps,rfl,.inl (.inl (.inl xt)),_,_,rfl,rfl,_,rfl,?_⟩
      rw [lps]
      refine ite2 (fun g=>?_) (fun g=>?_)
      · have g:(12:Int) < (A.length:Int):=of_decide_eq_true g
        have hE:=q2 (fun ⟨U,hU⟩=>by
          obtain ⟨B,b1,b2,b3,b4⟩:=only A [] hAk (by rw [hAs,List.append_nil]) U hU
          rcases hU with ⟨g1,_⟩ | ⟨_,g2,_,_⟩
          · exact b4 g1
          · rw [b1,List.length_append] at g2;omega) Hx sx
        have l1:(Str.ofString "more than ").length≤50:=by decide +kernel
        have l2:(Str.ofString " tuples").length≤50:=by decide +kernel
        have l3:(Str.ofString (toString (12:Int))).length≤20:=by decide +kernel
        refine ⟨_,rfl,sz_of (ap_len em_len l1) (by decide),.inr ⟨12,rfl,by decide,_,rfl,sz_of (ap_len (ap_len em_len l1) l3) (by decide),_,rfl,sz_of (ap_len (ap_len (ap_len em_len l1) l3) l2) (by decide),sz_of (ap_len (ap_len (ap_len em_len l1) l3) l2) (by decide),?_⟩⟩
        exact ⟨(by show 1≤sizeLine;decide),hE⟩
      · have g:¬ (12:Int) < (A.length:Int):=of_decide_eq_false (Bool.eq_false_iff.mpr g)
        exact ⟨_,rfl,q1 A (.inr ⟨hAne,by omega,hAk,hAs⟩) t ps Hx ntH sx xt tv⟩
    · have lr:r.length≠0:=fun g=>hlt (List.eq_nil_of_length_eq_zero g)
      rw [decide_eq_false (by omega:¬ (sxt A).length=z.length)]
      refine iteT ⟨fun σ' H'=>∃ (A':List (Int×Br Str)) (r':List Nat) (ps':List V),r'.length < r.length∧A'≠[]∧(∀ y∈A',Tok y)∧Ls z=sxt A'++r'∧σ'=[some (.str z),some (.ref x),some (.ref t)]∧Same H H'∧H' x=some (.ins C dx (fl z (sxt A').length))∧H' t=some (.lst ps')∧TotV K H' t ps' A',fun σ' H' ⟨A',r',ps',g0,g1,g2,g3,g4,g5,g6,g7,g8⟩=>⟨r'.length,g0,A',r',ps',rfl,g1,g2,g3,g4,g5,g6,g7,g8⟩,?_⟩
      refine ⟨_,rfl,.inl ⟨rfl,_,.inl (.inl xt)⟩,_,rfl,x,dx,_,rfl,xx,fl_no _ _ (by decide +kernel) (by decide +kernel),x,dx,z,_,rfl,hAx,fun u r' hu a' v' H4 s4 h4 ea' bv'=>?_,fun hn H4 s4=>q2 (fun ⟨U,hU⟩=>hn (by
        obtain ⟨B,b1,b2,b3,b4⟩:=only A r hAk hAs U hU
        cases B with
        | nil=>exact absurd b2 hlt
        | cons y B=>exact ⟨y,sxt B,by rw [hdrop,b2,sxt_cons],b3 y List.mem_cons_self⟩)) H4 (SX.same sx nx s4)⟩
      obtain ⟨hu1,hu2⟩:=hu
      rw [hdrop] at hu1
      have nxt:t≠x:=fun g=>by rw [g,xx] at xt;cases xt
      have xt4:=s4 t _ nxt xt
      refine ⟨t,ps,_,rfl,rfl,xt4,by omega,?_⟩
      have sAll:Same H (upd H4 t (.lst (ps++[.ref a']))):=upd_same2 (SX.same sx nx s4) ntH
      have sT:SX t H4 (upd H4 t (.lst (ps++[.ref a']))):=sx_upd
      have esx:sxt (A++[u])=sxt A++tt u:=by unfold sxt;rw [List.flatMap_append];simp
      obtain ⟨c1,t1,et1,_⟩:=tt_head u
      refine ⟨A++[u],r',ps++[.ref a'],?_,by simp,fun y' hy'=>?_,?_,rfl,sAll,?_,upd_same,.inl (.inl upd_same),?_,fun j w e=>?_⟩
      · rw [hu1,et1,List.length_append,List.length_cons];omega
      · rcases List.mem_append.mp hy' with g | g
        · exact hAk y' g
        · have:y'=u:=by simpa using g
          rw [this];exact hu2
      · rw [hAs,esx,hu1,List.append_assoc]
      · rw [upd_ne nxt.symm,h4,esx,List.length_append]
      · rw [List.length_append,lps,List.length_append];rfl
      · by_cases hj:j < A.length
        · rw [List.getElem?_append_left hj] at e
          obtain ⟨p,bw,f1,f2,f3⟩:=tv.2.2 j w e
          have npx:p≠x:=fun g=>by rw [g,xx] at f2;cases f2
          have f2':=s4 p _ npx f2
          have npt:p≠t:=fun g=>by rw [g,xt4] at f2';cases f2'
          refine ⟨p,bw,by rw [List.getElem?_append_left (by rw [lps];exact hj)];exact f1,sT p _ npt f2',(f3.sx (ins_nt xx) s4).sx (lst_nt xt4) sT⟩
        · have hjl:=(List.getElem?_eq_some_iff.mp e).1
          rw [List.length_append,List.length_singleton] at hjl
          have hj2:j=A.length:=by omega
          rw [hj2,List.getElem?_append_right (Nat.le_refl _),Nat.sub_self] at e
          cases e
          have npt:a'≠t:=fun g=>by rw [g,xt4] at ea';cases ea'
          refine ⟨a',v',by rw [List.getElem?_append_right (by rw [lps,hj2];exact Nat.le_refl _),lps,hj2,Nat.sub_self];rfl,sT a' _ npt ea',bv'.sx (lst_nt xt4) sT⟩
end
end K01
end
section
namespace K01
open PySem PySem.Spec PyProof.Rows Tim L2 Wm
theorem notLie {x:D Str} {p q:Nat} (h:val x (mk [p,q]) + val x (mk [q,p])≠0):¬ ML.Lie (MD.fn mk x):=fun L=>h (by
  have:=L.2 [p] [q] (by simp) (by simp)
  rw [ML.S_c,ML.S_l,ML.S_r] at this
  exact this)
theorem fi_lie {x:D Str} (hx:(keys x).Nodup) {g:D Str} (gi:MD.GI skS (grp x x.length) x) (fi:FI (grp x x.length) g):ML.Lie (MD.fn mk x) :=
  (MD.lie_isum (f:=fun (p:Str×Int) y=>p.2 * val (cL cat (pbr p.1)) (mk y)) (l:=g) fun p hp=>(pbk.lie p.1 (fi.pl _ (key_mem hp)).1).mul p.2).congr fun y=>by
    have h1:=fi.sum (mk y)
    rw [gi.sum hx] at h1
    exact h1
noncomputable def gat (W:D Str):D Str:=W.foldl (fun d p=>add d p.1 p.2) []
theorem gat_snoc (W:D Str) (p:Str×Int):gat (W++[p])=add (gat W) p.1 p.2:=by unfold gat;rw [List.foldl_append];rfl
theorem gat_nd (W:D Str):(keys (gat W)).Nodup:=keep_fold (P:=fun d=>(keys d).Nodup) (fun d p hd=>nd_add hd _ _) W [] List.nodup_nil
theorem gat_key:∀ (W d:D Str) {w:Str},w∈keys (W.foldl (fun d p=>add d p.1 p.2) d)→w∈keys d∨w∈keys W
  | [],d,w,h=>.inl h
  | p :: W,d,w,h=>by
    rw [List.foldl_cons] at h
    rcases gat_key W _ h with q | q
    · unfold add at q
      rw [keys_put] at q
      split at q
      · exact .inl q
      · rcases List.mem_append.mp q with z | z
        · exact .inl z
        · exact .inr (by rw [List.mem_singleton.mp z];exact List.mem_cons_self ..)
    · exact .inr (List.mem_cons_of_mem _ q)
theorem gat_len:∀ (W d:D Str),(W.foldl (fun d p=>add d p.1 p.2) d).length≤d.length + W.length
  | [],d=>Nat.le_refl _
  | p :: W,d=>by
    rw [List.foldl_cons,List.length_cons]
    have h1:=gat_len W (add d p.1 p.2)
    have h2:=len_add d p.1 p.2
    omega
noncomputable def WdsV (H:Hp) (l:Addr) (ps:List V) (W:D Str):Prop:=H l=some (.lst ps)∧ps.length=W.length∧∀ (i:Nat) p,W[i]? = some p→∃ a,ps[i]? = some (.ref a)∧H a=some (.tup [.str p.1,.int p.2])
section
variable {P:Program} {w:World} {K:PySem.W.Frag} {mg:Str→Option Value} {base:Heap} {f fs fr fb fm fd' fc fw ft fa fn fo fp fg fx fq:Addr} {fd sd rd bd md dd cd wd td ad nd od pd gd xd qd:FuncData}
noncomputable def spNoN (C:Addr) (n:Int):Sp:=fun vs H Q E=>∃ k m:Int,vs=[.int k,.int m]∧¬ In k m n∧E (.ref C) none H
theorem ok_plwN {C aL:Addr} {tC:PySem.Tok} (T:Blt mg) (F:At K mg "plain_words" (top 31) ["letters","length"] f fd) (FW:At K mg "refuse_unless_within" (top 34) ["letters","length","longest"] fw wd) (XC:ExcAt K mg "NoNumber" C) (hL:mg "LETTERS" = some (.ref aL)) (tL:TupK K aL Abc3) (hC:mg "LONGEST_LISTED" = some (.int 8 tC)) :
    FnOk P w K mg base (CXE P w) 2 f fd ["letters","length"] (spNoN C 8):=by
  have GW:FnOk P w K mg base (CXE P w) 1 fw wd ["letters","length","longest"] (spWi C):=ok_wi T FW XC hL tL
  refine F.fn.okE scPlw (fun vs H Q E h=>?_) (fun cdv A outer s H vs Q E hr h=>?_)
  · obtain ⟨k,n,rfl,_⟩:=h
    rfl
  obtain ⟨k,n,rfl,hn,q⟩:=h
  refine ⟨_,pss_cons (ps_expr (pe_call GW hr rfl FW.m FW.k FW.b .nil passE (pa_cons (pv 0) (pa_cons (pv 1) (pa_cons (pe_glob (v:=.int 8) rfl hC ⟨tC,rfl⟩) pa_nil))))) pss_no,?_⟩
  exact ⟨_,rfl,_,rfl,k,n,8,rfl,.inl rfl,fun hin=>hn hin,fun _=>q⟩
theorem ok_hmN {C aL:Addr} {tC:PySem.Tok} (T:Blt mg) (F:At K mg "how_many" (top 33) ["letters","length"] f fd) (FW:At K mg "refuse_unless_within" (top 34) ["letters","length","longest"] fw wd) (XC:ExcAt K mg "NoNumber" C) (hL:mg "LETTERS" = some (.ref aL)) (tL:TupK K aL Abc3) (hC:mg "LONGEST_COUNTED" = some (.int 60 tC)) :
    FnOk P w K mg base (CXE P w) 2 f fd ["letters","length"] (spNoN C 60):=by
  have GW:FnOk P w K mg base (CXE P w) 1 fw wd ["letters","length","longest"] (spWi C):=ok_wi T FW XC hL tL
  refine F.fn.okE scHm (fun vs H Q E h=>?_) (fun cdv A outer s H vs Q E hr h=>?_)
  · obtain ⟨k,n,rfl,_⟩:=h
    rfl
  obtain ⟨k,n,rfl,hn,q⟩:=h
  refine ⟨_,pss_cons (ps_expr (pe_call GW hr rfl FW.m FW.k FW.b .nil passE (pa_cons (pv 0) (pa_cons (pv 1) (pa_cons (pe_glob (v:=.int 60) rfl hC ⟨tC,rfl⟩) pa_nil))))) pss_no,?_⟩
  exact ⟨_,rfl,_,rfl,k,n,60,rfl,.inr rfl,fun hin=>hn hin,fun _=>q⟩
noncomputable def spPsoN (C:Addr):Sp:=fun vs H Q E=>∃ (d:Addr) (x:D Str),vs=[.ref d]∧Rd H d (.dK (dk x))∧(keys x).Nodup∧NZ x∧(∀ w∈keys x,okW w)∧¬ ML.Lie (MD.fn mk x)∧∀ H',SX d H H'→E (.ref C) none H'
theorem ok_psoN {C:Addr} (T:Blt mg) (F:At K mg "plain_sum_of" (top 44) ["counts"] f fd) (FT:At K mg "parts_by_letters" (top 45) ["counts"] ft td) (FC:At K mg "plain_counts_of" (top 46) ["part"] fc cd)
    (GC:FnOk P w K mg base (CXE P w) 15 fc cd ["part"] (spPc C)):FnOk P w K mg base (CXE P w) 16 f fd ["counts"] (spPsoN C):=by
  have GT:FnOk P w K mg base CX0 1 ft td ["counts"] spPt:=ok_pt T FT
  refine F.fn.okE scPso (fun vs H Q E h=>?_) (fun cdv A outer s H vs Q E hr h=>?_)
  · obtain ⟨d,x,rfl,_⟩:=h
    rfl
  obtain ⟨d,x,rfl,hd,ndx,nzx,okx,nl,q2⟩:=h
  have hr1:Room 1 _:=hr.mono (by omega)
  refine ⟨_,pss_cons (ps_set (i:=1) scPso.nd rfl (Or.inr rfl) pe_dnewK)
    (pss_cons (ps_for PassesOwn.leaving rfl (pi_list (pe_call GT hr1 rfl FT.m FT.k FT.b .nil pass0 (pa_cons (pv 0) pa_nil))) (pg_name (i:=2) scPso.nd rfl (Or.inl rfl))
      (pss_one (ps_expr (pe_bm PySem.F.plainAttrs_dict PySem.F.slot_dict_update PySem.F.type_dict_update mt_update (pv 1) (pa_cons (pe_call GC hr rfl FC.m FC.k FC.b .nil passE (pa_cons (pv 2) pa_nil)) pa_nil)))))
    pss_no),?_⟩
  have hz:=sizeLine_eq
  intro q nq
  have s1:=new_same nq (.dK [])
  have dq:d≠q:=by
    rcases hd with h | ⟨o,h⟩
    · exact ne_of_none h nq
    · exact ne_of_none h nq
  have lenx:x.length≤9841:=okW_len ndx okx
  refine ⟨_,rfl,d,x,rfl,rd_same s1 hd,ndx,fun w hw=>by have:=(okx w hw).2;omega,by omega,fun l as H1 al an af fl sx1 rd1 el ea=>?_⟩
  have gi:=grp_ok ndx x.length (Nat.le_refl _)
  rw [List.take_length] at gi
  have sxH:SX d H H1:=fun b o nb e=>sx1 b o nb (s1 _ _ e)
  refine ⟨l,rfl,⟨_,.inl (.inl el)⟩,for_list (K:=K) (a:=l) (xs:=as.map V.ref) (fun i σ Hx=>∃ (y2:Option V) (g:D Str),σ=[some (.ref d),some (.ref q),y2]∧SX q H1 Hx∧Hx q=some (.dK (dk g))∧FI ((grp x x.length).take i) g) ?_ ?_ ?_ ?_⟩
  · exact ⟨none,[],rfl,fun b o _ e=>e,sx1 q _ dq.symm upd_same,by rw [List.take_zero];exact FI.nil⟩
  · rintro i σ Hx hi ⟨y2,g,rfl,sx,hg,fi⟩
    have lq:l≠q:=fun z=>by rw [z,upd_same] at fl;cases fl
    exact .inl (.inl (sx l _ lq el))
  · rintro i y σ Hx hy ⟨y2,g,rfl,sx,hg,fi⟩
    rw [List.getElem?_map] at hy
    cases ha:as[i]? with
    | none=>rw [ha] at hy;cases hy
    | some a =>
      rw [ha] at hy
      cases hy
      have il:i < (grp x x.length).length:=by rw [← al];exact (List.getElem?_eq_some_iff.mp ha).1
      obtain ⟨e,he⟩:∃ e,(grp x x.length)[i]? = some e:=⟨_,List.getElem?_eq_getElem il⟩
      have em:=List.mem_of_getElem? he
      obtain ⟨p,hp,ez⟩:=grp_key x.length e em
      have oz:=okx p.1 (List.mem_map.mpr ⟨p,hp,rfl⟩)
      have epart:=gi.part e em
      have aq:a≠q:=fun z=>by have:=af a (List.mem_of_getElem? ha);rw [z,upd_same] at this;cases this
      have hae:=sx a _ aq (ea i e a he ha)
      have oe:okW e.1:=okW_perm oz (by rw [ez];exact skS_perm p.1)
      have perE:∀ y∈keys e.2,(Ls y).Perm (Ls e.1):=fun y hy=>by
        rw [epart] at hy
        obtain ⟨r,hr',er⟩:=List.mem_map.mp hy
        have er:r.1=y:=er
        have:=of_decide_eq_true (List.mem_filter.mp hr').2
        rw [← this,er]
        exact (skS_perm y).symm
      have eold:∀ b o,b≠d→H b=some o→Hx b=some o:=fun b o nb e=>sx b o (fun z=>by rw [z,nq] at e;cases e) (sxH b o nb e)
      refine ⟨_,rfl,.inr (.inr (.inl ⟨rfl,.inl ⟨_,hg⟩⟩)),_,rfl,a,e.2,Ls e.1,rfl,.inl hae,by rw [epart];exact nd_filter ndx _,?_,perE,okW_abc oe,by rw [len_Ls];exact oe.2,fun r f H2 nr s2 er R=>?_,fun _ H2 s2=>?_⟩
      · intro p hp
        rw [epart] at hp
        exact nzx p (List.mem_filter.mp hp).1
      · have qr:q≠r:=fun z=>by rw [← z,hg] at nr;cases nr
        obtain ⟨fi',nd'⟩:=fi.step ⟨p.1,oz,ez⟩ (fun e' he' z=>by
          obtain ⟨j,hj,ej⟩:=List.getElem_of_mem he'
          rw [List.length_take] at hj
          rw [List.getElem_take] at ej
          have h1:((grp x x.length).map (·.1))[j]'(by rw [List.length_map];omega)=((grp x x.length).map (·.1))[i]'(by rw [List.length_map];exact il):=by
            rw [List.getElem_map,List.getElem_map,ej,(List.getElem?_eq_some_iff.mp he).2]
            exact z
          have:=(List.getElem_inj gi.nd).mp h1
          omega) R
        have lg:(g++f).length≤9841:=okW_len fi'.nd fun w hw=>(fi'.pl w hw).2.1
        rw [List.length_append] at lg
        refine ⟨q,r,dk g,dk f,rfl,rfl,qr,s2 _ _ hg,.inl er,by rw [dk_len,dk_len];omega,nd',?_⟩
        have edk:dk g++dk f=dk (g++f):=by unfold dk;rw [List.map_append]
        rw [edk]
        refine ⟨_,g++f,rfl,fun b o nb e=>?_,upd_same,?_⟩
        · rw [upd_ne nb];exact s2 _ _ (sx b o nb e)
        · rw [List.take_add_one,he];exact fi'
      · exact q2 H2 fun b o nb e=>s2 _ _ (eold b o nb e)
  · rintro σ Hx ⟨y2,g,rfl,sx,hg,fi⟩
    rw [List.length_map,al,List.take_length] at fi
    exact nl (fi_lie ndx gi fi)
noncomputable def spGaN (C:Addr):Sp:=fun vs H Q E=>∃ (l:Addr) (ps:List V) (W:D Str),vs=[.ref l]∧WdsV H l ps W∧W.length≤8∧(∀ w∈keys W,okW w)∧(∃ p q,val (gat W) (mk [p,q]) + val (gat W) (mk [q,p])≠0)∧∀ H',Same H H'→E (.ref C) none H'
theorem scGa:FnScope ["words","counts","word","count"] ["words"] (defScope (top 43)):=⟨rfl,rfl,rfl,by decide +kernel,rfl,by decide +kernel,by decide +kernel⟩
theorem ok_gaN {C:Addr} (F:At K mg "gathered" (top 43) ["words"] f fd) (FA:At K mg "add_count" (top 9) ["counts","word","count"] fa ad) (FN:At K mg "without_noughts" (top 10) ["counts"] fn nd) (FO:At K mg "plain_sum_of" (top 44) ["counts"] fo od)
    (GO:FnOk P w K mg base (CXE P w) 16 fo od ["counts"] (spPsoN C)):FnOk P w K mg base (CXE P w) 17 f fd ["words"] (spGaN C):=by
  have GA:FnOk P w K mg base CX0 1 fa ad ["counts","word","count"] (spAdd add):=ok_add FA.fn
  have GN:FnOk P w K mg base CX0 1 fn nd ["counts"] spNz:=ok_nz FN.fn
  refine F.fn.okE scGa (fun vs H Q E h=>?_) (fun cdv A outer s H vs Q E hr h=>?_)
  · obtain ⟨l,ps,W,rfl,_⟩:=h
    rfl
  obtain ⟨l,ps,W,rfl,⟨hl,hp,hW⟩,l8,okw,⟨a,b,nab⟩,q⟩:=h
  have hr1:Room 1 _:=hr.mono (by omega)
  refine ⟨_,pss_cons (ps_set (i:=1) scGa.nd rfl (Or.inl rfl) pe_dnewK)
    (pss_cons (ps_for PassesOwn.leaving rfl (pi_list (pv 0)) (pg_tup rfl (pgs_cons (pg_name (i:=2) scGa.nd rfl (Or.inl rfl)) (pgs_cons (pg_name (i:=3) scGa.nd rfl (Or.inl rfl)) pgs_nil)))
      (pss_one (ps_expr (pe_call GA hr1 rfl FA.m FA.k FA.b .nil pass0 (pa_cons (pv 1) (pa_cons (pv 2) (pa_cons (pv 3) pa_nil)))))))
    (pss_one (ps_ret (pe_call GO hr rfl FO.m FO.k FO.b .nil passE (pa_cons (pe_call GN hr1 rfl FN.m FN.k FN.b .nil pass0 (pa_cons (pv 1) pa_nil)) pa_nil))))),?_⟩
  have hz:=sizeLine_eq
  intro c nc
  have s1:=new_same nc (.dK [])
  refine ⟨_,rfl,l,rfl,⟨_,.inl (.inl (s1 _ _ hl))⟩,for_list (K:=K) (a:=l) (xs:=ps) (fun i σ Hx=>∃ x2 x3,σ=[some (.ref l),some (.ref c),x2,x3]∧Same H Hx∧Hx c=some (.dK (dk (gat (W.take i))))) ?_ ?_ ?_ ?_⟩
  · exact ⟨none,none,rfl,s1,upd_same⟩
  · rintro i σ Hx _ ⟨x2,x3,rfl,sx,f1⟩
    exact .inl (.inl (sx _ _ hl))
  · rintro i v σ Hx hi ⟨x2,x3,rfl,sx,f1⟩
    have hil:i < W.length:=by rw [← hp];exact (List.getElem?_eq_some_iff.mp hi).1
    obtain ⟨a',e1,e2⟩:=hW i _ (List.getElem?_eq_getElem hil)
    rw [e1] at hi
    cases hi
    refine ⟨a',_,rfl,.inl (.inl (sx _ _ e2)),rfl,_,_,rfl,_,_,rfl,rfl,?_⟩
    have lg:=gat_len (W.take i) []
    have lt:=List.length_take_le i W
    have lg:(gat (W.take i)).length≤0 + (W.take i).length:=lg
    refine ⟨_,rfl,_,rfl,_,rfl,c,_,_,_,rfl,f1,by omega,?_⟩
    refine ⟨_,_,rfl,upd_same2 sx nc,?_⟩
    rw [upd_same,List.take_add_one,List.getElem?_eq_getElem hil]
    show _=some (HO.dK (dk (gat (W.take i++[W[i]]))))
    rw [gat_snoc]
  · rintro σ Hx ⟨x2,x3,rfl,sx,f1⟩
    rw [hp,List.take_length] at f1
    have lg:(gat W).length≤0 + W.length:=gat_len W []
    refine ⟨_,rfl,c,_,rfl,f1,by omega,fun r7 H7 n7 sx7 e7=>?_⟩
    have nd:=gat_nd W
    refine ⟨r7,_,rfl,.inl e7,nd_nz nd,NZ_nz nd,fun w hw=>?_,notLie (p:=a) (q:=b) (by rw [val_nz nd,val_nz nd];exact nab),fun H8 sx8=>?_⟩
    · rw [nz_eq nd] at hw
      obtain ⟨p,hp',e⟩:=List.mem_map.mp hw
      rcases gat_key W [] (List.mem_map.mpr ⟨p,(List.mem_filter.mp hp').1,e⟩) with z | z
      · cases z
      · exact okw w z
    · have sx':Same H H7:=fun b o e=>sx7 b o (fun z=>by rw [z,nc] at e;cases e) (sx _ _ e)
      have n7H:H r7=none:=by
        cases e:H r7 with
        | none=>rfl
        | some o=>rw [sx _ _ e] at n7;cases n7
      exact q H8 fun b o e=>sx8 b o (fun z=>by rw [z,n7H] at e;cases e) (sx' _ _ e)
noncomputable def spPiN (K:PySem.W.Frag) (C:Addr):Sp:=fun vs H Q E=>∃ (t ta tb tc:Addr) (ps pa pb pc:List V) (x:Int×Br Str) (T Ta Tb Tc:List (Int×Br Str)),vs=[.ref t,.ref ta,.ref tb,.ref tc]∧TotV K H t ps (x :: T)∧TotV K H ta pa Ta∧TotV K H tb pb Tb∧TotV K H tc pc Tc ∧
  Ta.length≤4000∧Tb.length≤4000∧Tc.length≤4000∧x.2.wt≤12∧(∀ x∈Ta,x.2.wt≤12)∧(∀ x∈Tb,x.2.wt≤12)∧(∀ x∈Tc,x.2.wt≤12)∧8 < wpi (gws Ta Tb Tc) x.2∧∀ H',Same H H'→E (.ref C) none H'
theorem ok_piN {C:Addr} {tC:PySem.Tok} (T:Blt mg) (F:At K mg "put_in" (top 39) ["total","a","b","c"] f fd) (FG:At K mg "greatest_weight" (top 40) ["total"] fg gd) (FW:At K mg "weight" (top 3) ["bracket"] fw wd) (FS:At K mg "sum_counts" (top 5) ["total"] fs sd) (FX:At K mg "weight_put_in" (top 41) ["bracket","greatest"] fx xd)
    (XC:ExcAt K mg "TooGreat" C) (hC:mg "GREATEST_WEIGHT" = some (.int 8 tC)) (GS:FnOk P w K mg base CX0 15 fs sd ["total"] (spSum K (smP cat))):FnOk P w K mg base (CXE P w) 17 f fd ["total","a","b","c"] (spPiN K C):=by
  have GG:FnOk P w K mg base CX0 13 fg gd ["total"] (spGw K):=ok_gw T FG FW
  refine F.fn.okE scPi (fun vs H Q E h=>?_) (fun cdv A outer s H vs Q E hr h=>?_)
  · obtain ⟨t,ta,tb,tc,ps,pa,pb,pc,x,TT,Ta,Tb,Tc,rfl,_⟩:=h
    rfl
  obtain ⟨t,ta,tb,tc,ps,pa,pb,pc,x,TT,Ta,Tb,Tc,rfl,hT,ha,hb,hc,nA,nB,nC,wx,wA,wB,wC,w8,q2⟩:=h
  have GX:FnOk P w K mg base CX0 12 fx xd ["bracket","greatest"] (spWpi (gws Ta Tb Tc) 12):=ok_wpi T FX (gws Ta Tb Tc) 12
  have hr12:Room 12 _:=hr.mono (by omega)
  have hr13:Room 13 _:=hr.mono (by omega)
  have hr15:Room 15 _:=hr.mono (by omega)
  refine ⟨_,@PSsW.out _ _ _ (w_cons ⟨ps_set (i:=4) scPi.nd rfl (Or.inl rfl) (pe_disp (pps_cons pe_str (pe_call GG hr13 rfl FG.m FG.k FG.b .nil pass0 (pa_cons (pv 1) pa_nil)) (pps_cons pe_str (pe_call GG hr13 rfl FG.m FG.k FG.b .nil pass0 (pa_cons (pv 2) pa_nil)) (pps_cons pe_str (pe_call GG hr13 rfl FG.m FG.k FG.b .nil pass0 (pa_cons (pv 3) pa_nil)) pps_nil))) rfl rfl (by simp) (by decide))⟩
    (w_cons ⟨ps_set (i:=5) scPi.nd rfl (Or.inl rfl) (pe_disp (pps_cons pe_str (pe_call GS hr15 rfl FS.m FS.k FS.b .nil pass0 (pa_cons (pv 1) pa_nil)) (pps_cons pe_str (pe_call GS hr15 rfl FS.m FS.k FS.b .nil pass0 (pa_cons (pv 2) pa_nil)) (pps_cons pe_str (pe_call GS hr15 rfl FS.m FS.k FS.b .nil pass0 (pa_cons (pv 3) pa_nil)) pps_nil))) rfl rfl (by simp) (by decide))⟩
    (w_cons ⟨ps_set (i:=6) scPi.nd rfl (Or.inl rfl) pe_dnewK⟩
    (w_cons ⟨ps_for PassesOwn.leaving rfl (pi_list (pv 0)) (pg_tup rfl (pgs_cons (pg_name (i:=7) scPi.nd rfl (Or.inl rfl)) (pgs_cons (pg_name (i:=8) scPi.nd rfl (Or.inl rfl)) pgs_nil)))
      (pss_cons (ps_set (i:=9) scPi.nd rfl (Or.inl rfl) (pe_call GX hr12 rfl FX.m FX.k FX.b .nil pass0 (pa_cons (pv 8) (pa_cons (pv 4) pa_nil))))
      (pss_cons (ps_if (pt_cmpR op_gt (pv 9) (pe_glob (v:=.int 8) rfl hC ⟨tC,rfl⟩) (nomark _)) (pss_one (ps_raise hr.hd XC rfl (pa_cons (pe_join (pj_cons pe_str (pj_cons (pe_fmt (pv 9)) (pj_cons pe_str pj_nil)))) pa_nil))) pss_nil)
      pss_no))⟩
    ⟨pss_no⟩)))),?_⟩
  have hz:=sizeLine_eq
  intro gd' ng
  have s1:=new_same ng (.dK [])
  refine ⟨_,rfl,ta,pa,Ta,rfl,ha.same s1,nA,wA,fun H1 s2=>?_⟩
  refine ⟨_,rfl,tb,pb,Tb,rfl,hb.same (s1.trans s2),nB,wB,fun H2 s3=>?_⟩
  refine ⟨_,rfl,tc,pc,Tc,rfl,hc.same (s1.trans (s2.trans s3)),nC,wC,fun H3 s4=>?_⟩
  have s24:=s2.trans (s3.trans s4)
  have eg:=s24 _ _ (upd_same (H:=H) (a:=gd') (o:=.dK []))
  refine ⟨eg,kv3 fun x=>.int (gws Ta Tb Tc x),?_,(by show 3≤15;decide),?_⟩
  · unfold kv3 gws
    dsimp only
    rw [pick_a,pick_b,pick_c]
    rfl
  rw [mergeK3]
  have s5:Same H (upd H3 gd' (.dK (kv3 fun x=>.int (gws Ta Tb Tc x)))):=upd_same2 (s1.trans s24) ng
  have eg5:=upd_same (H:=H3) (a:=gd') (o:=.dK (kv3 fun x=>.int (gws Ta Tb Tc x)))
  revert s5 eg5
  generalize upd H3 gd' (.dK (kv3 fun x=>.int (gws Ta Tb Tc x)))=H5
  intro s5 eg5
  clear eg s24 s4 s3 s2 s1
  intro ld nl
  have t1:=new_same nl (.dK [])
  have sl:=s5.trans t1
  have lg:ld≠gd':=fun z=>by rw [z,eg5] at nl;cases nl
  refine ⟨_,rfl,ta,pa,Ta,rfl,ha.same sl,nA,wA,fun r1 G1 n1 u1 e1=>?_⟩
  refine ⟨_,rfl,tb,pb,Tb,rfl,hb.same (sl.trans u1),nB,wB,fun r2 G2 n2 u2 e2=>?_⟩
  refine ⟨_,rfl,tc,pc,Tc,rfl,hc.same (sl.trans (u1.trans u2)),nC,wC,fun r3 G3 n3 u3 e3=>?_⟩
  have u13:=u1.trans (u2.trans u3)
  have el:=u13 _ _ (upd_same (H:=H5) (a:=ld) (o:=.dK []))
  refine ⟨el,kv3 fun x=>.ref (pick3 r1 r2 r3 x),?_,(by show 3≤15;decide),?_⟩
  · unfold kv3
    dsimp only
    rw [pick_a,pick_b,pick_c]
    rfl
  have hl5:H ld=none:=s5.free nl
  generalize mergeK [] (kv3 fun x=>.ref (pick3 r1 r2 r3 x))=kvs
  have s6:Same H (upd G3 ld (.dK kvs)):=upd_same2 (sl.trans u13) hl5
  have g6:(upd G3 ld (.dK kvs)) gd'=some (.dK (kv3 fun x=>.int (gws Ta Tb Tc x))):=by rw [upd_ne lg.symm];exact u13 _ _ (t1 _ _ eg5)
  revert s6 g6
  generalize upd G3 ld (.dK kvs)=H6
  intro s6 g6
  intro cd' ncd
  have s7':=new_same ncd (.dK [])
  have s7:=s6.trans s7'
  have g7:=s7' _ _ g6
  have hT7:=hT.same s7
  refine ⟨_,rfl,t,rfl,⟨_,hT7.1⟩,for_list (K:=K) (a:=t) (xs:=ps) (fun i σ Hx=>i=0∧σ=[some (.ref t),some (.ref ta),some (.ref tb),some (.ref tc),some (.ref gd'),some (.ref ld),some (.ref cd'),none,none,none]∧Hx=upd H6 cd' (.dK [])) ?_ ?_ ?_ ?_⟩
  · exact ⟨rfl,rfl,rfl⟩
  · rintro i σ Hx _ ⟨_,rfl,rfl⟩
    exact hT7.1
  · rintro i v σ Hx hv ⟨rfl,rfl,rfl⟩
    obtain ⟨y,p,bv,hy,rfl,hp,hb'⟩:=hT7.at hv
    cases hy
    have w144:wpi (gws Ta Tb Tc) x.2 < 200:=by
      have:=wpi_le (gw:=gws Ta Tb Tc) (fun y hy=>pick_all (p:=fun n=>n≤12) hy (gwt12 wA) (gwt12 wB) (gwt12 wC)) (brv_lv3 hb')
      omega
    refine ⟨p,_,rfl,.inl (.inl hp),rfl,_,_,rfl,_,_,rfl,rfl,?_⟩
    refine ⟨_,rfl,_,rfl,x.2,bv,gd',rfl,hb',wx,.inl g7,?_⟩
    refine ⟨_,rfl,_,_,rfl,rfl,_,rfl,?_⟩
    rw [decide_eq_true (show (8:Int) < (wpi (gws Ta Tb Tc) x.2:Int) by omega)]
    refine iteT ?_
    have fl:(toString ((wpi (gws Ta Tb Tc) x.2:Nat):Int):Str).length≤20:=fmt_len ⟨_,w144⟩
    have fg:(((wpi (gws Ta Tb Tc) x.2:Nat):Int)).natAbs.log2 < 1920:=fmt_log ⟨_,w144⟩
    have l0:(Str.empty++Str.ofString "a weight of ").length=12:=by decide +kernel
    have l1:=len_cat (Str.empty++Str.ofString "a weight of ") (toString ((wpi (gws Ta Tb Tc) x.2:Nat):Int):Str)
    have l1:((Str.empty++Str.ofString "a weight of ")++(toString ((wpi (gws Ta Tb Tc) x.2:Nat):Int):Str)).length=_:=l1
    have l2:=len_cat ((Str.empty++Str.ofString "a weight of ")++(toString ((wpi (gws Ta Tb Tc) x.2:Nat):Int):Str)) (Str.ofString " would come of it")
    have l2:(((Str.empty++Str.ofString "a weight of ")++(toString ((wpi (gws Ta Tb Tc) x.2:Nat):Int):Str))++Str.ofString " would come of it").length=_:=l2
    have l3:(Str.ofString " would come of it").length=17:=by decide +kernel
    exact ⟨_,rfl,by decide +kernel,_,rfl,.inr ⟨_,rfl,fg,_,rfl,by omega,_,rfl,by omega,by omega,(by show 1≤sizeLine;decide),q2 _ s7⟩⟩
  · rintro σ Hx ⟨e0,rfl,rfl⟩
    have:=hT.2.1
    rw [List.length_cons] at this
    omega
end
end K01
end
section
namespace K01
open PySem PySem.Spec PyProof.Rows Tim L2 Wm
theorem wr_sign {l:List Nat} (h:∃ U,Wr l U):l=[48]∨∃ c r,l=c :: r∧(c=45∨c=43):=by
  obtain ⟨U,h | ⟨h1,_,_,h4⟩⟩:=h
  · exact .inl h.2
  · cases U with
    | nil=>exact absurd rfl h1
    | cons y U =>
      obtain ⟨c,r,e,hc⟩:=tt_head y
      exact .inr ⟨c,r++sxt U,by rw [h4,sxt_cons,e];rfl,hc⟩
theorem wr_beg {l:List Nat} (h:∃ U,Wr l U):l=[48]∨∃ c∈l,Beg c:=by
  obtain ⟨U,h | ⟨h1,_,h3,h4⟩⟩:=h
  · exact .inl h.2
  · cases U with
    | nil=>exact absurd rfl h1
    | cons y U =>
      obtain ⟨c,r,e,hc⟩:=bt_beg (h3 y (List.mem_cons_self ..)).1
      refine .inr ⟨c,?_,hc⟩
      rw [h4,sxt_cons]
      refine List.mem_append_left _ (List.mem_append_right _ ?_)
      rw [e]
      exact List.mem_cons_self ..
theorem bt_even:∀ {b:Br Str},Brok b→(bt b).count 91=(bt b).count 93
  | .leaf x,h=>by
    obtain ⟨c,hc,e,_⟩:=one_abc h.1 h.2
    rw [show bt (.leaf x)=[c] from e]
    rcases hc with rfl | rfl | rfl <;> rfl
  | .node a b,h=>by
    have h1:=bt_even h.l
    have h2:=bt_even h.r
    show (91 :: (bt a++44 :: (bt b++[93]))).count 91=(91 :: (bt a++44 :: (bt b++[93]))).count 93
    simp [List.count_cons,List.count_append]
    omega
theorem ct_none (n:Int) {c:Nat} (h:c=91∨c=93):(ct n).count c=0:=List.count_eq_zero.mpr fun m=>by
  rcases List.mem_cons.mp m with e | e
  · split at e <;> omega
  · have:48≤c∧c≤57:=nt_dig c e
    omega
theorem sxt_even:∀ {U:List (Int×Br Str)},(∀ y∈U,Tok y)→(sxt U).count 91=(sxt U).count 93
  | [],_=>rfl
  | y :: U,h=>by
    rw [sxt_cons]
    unfold tt
    rw [List.count_append,List.count_append,List.count_append,List.count_append,ct_none _ (.inl rfl),ct_none _ (.inr rfl),bt_even (h y (List.mem_cons_self ..)).1,sxt_even fun z hz=>h z (List.mem_cons_of_mem _ hz)]
theorem wr_even {l:List Nat} (h:∃ U,Wr l U):l=[48]∨l.count 91=l.count 93:=by
  obtain ⟨U,h | ⟨_,_,h3,h4⟩⟩:=h
  · exact .inl h.2
  · exact .inr (by rw [h4];exact sxt_even h3)
noncomputable def UNR:List Str:=[Str.ofString "",Str.ofString "a",Str.ofString "+1",Str.ofString "0a",Str.ofString "+1[a,b",Str.ofString "+1d"]
noncomputable def badT (l:List Nat):Bool:=decide (l≠[48]) && (!(l.head? == some 45 || l.head? == some 43) || !(l.any fun c=>c == 91 || c == 97 || c == 98 || c == 99) || decide (l.count 91≠l.count 93))
theorem bad_not {l:List Nat} (h:badT l=true):¬ ∃ U,Wr l U:=fun w=>by
  unfold badT at h
  rw [Bool.and_eq_true,Bool.or_eq_true,Bool.or_eq_true] at h
  have h0:l≠[48]:=of_decide_eq_true h.1
  rcases h.2 with (h | h) | h
  · obtain ⟨c,r,e,hc⟩:=(wr_sign w).resolve_left h0
    rw [e] at h
    rcases hc with rfl | rfl <;> exact absurd h (by simp)
  · obtain ⟨c,hm,hc⟩:=(wr_beg w).resolve_left h0
    have:(l.any fun c=>c == 91 || c == 97 || c == 98 || c == 99)=true:=List.any_eq_true.mpr ⟨c,hm,by rcases hc with rfl | rfl | rfl | rfl <;> rfl⟩
    rw [this] at h
    cases h
  · exact of_decide_eq_true h ((wr_even w).resolve_left h0)
theorem unr_ok:∀ z∈UNR,z.length≤100000∧(∀ c∈Ls z,c < 128)∧badT (Ls z)=true:=by decide +kernel
noncomputable def NWc:List Str:=[Str.ofString "",Str.ofString "a",Str.ofString "ba",Str.ofString "aa",Str.ofString "abab",Str.ofString "b",Str.ofString "aba"]
noncomputable def NWb:List Str:=[Str.ofString "",Str.ofString "ba",Str.ofString "aa",Str.ofString "abab",Str.ofString "cab"]
theorem nwc_ok:∀ z∈NWc,z.length≤8∧(∀ c∈Ls z,c=97∨c=98∨c=99)∧(MW.pl (Ls z)=false∨z.length < 2):=by decide +kernel
theorem nwb_ok:∀ z∈NWb,z.length≤8∧(∀ c∈Ls z,c=97∨c=98∨c=99)∧MW.pl (Ls z)=false:=by decide +kernel
theorem npl {l:List Nat} (h:MW.pl l=false):¬ MW.Pl l:=fun y=>by rw [MW.pl_true.mpr y] at h;cases h
theorem strs_at {L:List Str} {c n:Int} (h0:0 < n) (hn:n=L.length):∃ z∈L,atI (L.map V.str) (c % n)=some (.str z):=by
  have m1:=mod_lt (i:=c) (j:=n) h0
  obtain ⟨j,hj⟩:∃ j:Nat,(j:Int)=c % n:=⟨(c % n).toNat,by omega⟩
  have hl:j < L.length:=by omega
  exact ⟨L[j],List.getElem_mem hl,by rw [← hj];exact atI_nat (by rw [List.getElem?_map,List.getElem?_eq_getElem hl];rfl)⟩
theorem tot1 {K:PySem.W.Frag} {H:Hp} {t p:Addr} {n:Int} {v:V} {b:Br Str} (ht:H t=some (.lst [.ref p])) (hp:H p=some (.tup [.int n,v])) (hb:BrV H b v):TotV K H t [.ref p] [(n,b)]:=⟨.inl (.inl ht),rfl,fun i x e=>by
  match i,e with
  | 0,e=>cases e;exact ⟨p,v,rfl,hp,hb⟩
  | i + 1,e=>cases e⟩
theorem tot2 {K:PySem.W.Frag} {H:Hp} {t p p':Addr} {n n':Int} {v v':V} {b b':Br Str} (ht:H t=some (.lst [.ref p,.ref p'])) (hp:H p=some (.tup [.int n,v])) (hb:BrV H b v) (hp':H p'=some (.tup [.int n',v'])) (hb':BrV H b' v'):TotV K H t [.ref p,.ref p'] [(n,b),(n',b')]:=⟨.inl (.inl ht),rfl,fun i x e=>by
  match i,e with
  | 0,e=>cases e;exact ⟨p,v,rfl,hp,hb⟩
  | 1,e=>cases e;exact ⟨p',v',rfl,hp',hb'⟩
  | i + 2,e=>cases e⟩
theorem br2 {H:Hp} {p:Addr} {u v:V} {a b:Br Str} (h:H p=some (.tup [u,v])) (h1:BrV H a u) (h2:BrV H b v):BrV H (.node a b) (.ref p):=⟨p,u,v,rfl,h,h1,h2⟩
theorem br_a {H:Hp}:BrV H (.leaf la) (.str (Str.ofString "a")):=⟨rfl,by decide,abc_la⟩
theorem br_b {H:Hp}:BrV H (.leaf lb) (.str (Str.ofString "b")):=⟨rfl,by decide,abc_lb⟩
theorem br_c {H:Hp}:BrV H (.leaf lc) (.str (Str.ofString "c")):=⟨rfl,by decide,abc_lc⟩
noncomputable def b4:Br Str:=.node (.leaf la) (.node (.leaf lb) (.node (.leaf la) (.leaf lc)))
noncomputable def bab:Br Str:=.node (.leaf la) (.leaf lb)
section
variable {P:Program} {w:World} {K:PySem.W.Frag} {mg:Str→Option Value} {base:Heap} {f fs fr fb fm fd' fc fw ft fa fn fo fp fg fx fq:Addr} {fd sd rd bd md dd cd wd td ad nd od pd gd xd qd:FuncData}
noncomputable def spBoN (K:PySem.W.Frag) (C:Addr):Sp:=fun vs H Q E=>∃ (ta tb:Addr) (pa pb:List V) (Ta Tb:List (Int×Br Str)),vs=[.ref ta,.ref tb]∧TotV K H ta pa Ta∧TotV K H tb pb Tb∧Ta.length≤4000∧Tb.length≤4000∧(∀ x∈Ta,x.2.wt≤12)∧(∀ x∈Tb,x.2.wt≤12) ∧
  8 < wpi (gws Ta Tb []) bab∧∀ H',Same H H'→E (.ref C) none H'
theorem ok_boN {C:Addr} (F:At K mg "bracket_of" (top 38) ["one","other"] f fd) (FP:At K mg "put_in" (top 39) ["total","a","b","c"] fp pd) (GP:FnOk P w K mg base (CXE P w) 17 fp pd ["total","a","b","c"] (spPiN K C)):FnOk P w K mg base (CXE P w) 18 f fd ["one","other"] (spBoN K C):=by
  refine F.fn.okE scBo (fun vs H Q E h=>?_) (fun cdv A outer s H vs Q E hr h=>?_)
  · obtain ⟨ta,tb,pa,pb,Ta,Tb,rfl,_⟩:=h
    rfl
  obtain ⟨ta,tb,pa,pb,Ta,Tb,rfl,ha,hb,nA,nB,wA,wB,w8,q⟩:=h
  refine ⟨_,pss_one (ps_ret (pe_call GP hr rfl FP.m FP.k FP.b .nil passE (pa_cons (@PEW.h _ _ _ (w_lst (wa_cons (w_tup (wa_cons ⟨pe_int⟩ (wa_cons (w_tup (wa_cons ⟨pe_str⟩ (wa_cons ⟨pe_str⟩ wa_nil))) wa_nil))) wa_nil))) (pa_cons (pv 0) (pa_cons (pv 1) (pa_cons (pe_lst pa_nil) pa_nil)))))),?_⟩
  refine ⟨(by show 2≤sizeLine;decide),fun p1 n1=>?_⟩
  have s1:=new_same n1 (.tup [.str (Str.ofString "a"),.str (Str.ofString "b")])
  refine ⟨(by show 2≤sizeLine;decide),fun p2 n2=>?_⟩
  have s2:=new_same n2 (.tup [.int 1,.ref p1])
  refine ⟨(by show 1≤sizeLine;decide),fun t n3=>?_⟩
  have s3:=new_same n3 (.lst [.ref p2])
  refine ⟨_,rfl,_,rfl,(by show 0≤sizeLine;decide),fun l n4=>?_⟩
  have s4:=new_same n4 (.lst [])
  have sall:=s1.trans (s2.trans (s3.trans s4))
  exact ⟨t,ta,tb,l,_,pa,pb,[],_,[],Ta,Tb,[],rfl,tot1 (b:=bab) (s4 _ _ upd_same) ((s3.trans s4) _ _ upd_same) (br2 ((s2.trans (s3.trans s4)) _ _ upd_same) br_a br_b),ha.same sall,hb.same sall,tot_nil upd_same,nA,nB,by decide,by decide,wA,wB,fun x hx=>(by cases hx),w8,fun H' sr=>q H' (sall.trans sr)⟩
noncomputable def spNw (C:Addr):Sp:=fun vs H Q E=>∃ c:Int,vs=[.int c]∧∀ H',Same H H'→E (.ref C) none H'
theorem scNw:FnScope ["cell"] ["cell"] (defScope (top 50)):=⟨rfl,rfl,rfl,by decide +kernel,rfl,by decide +kernel,by decide +kernel⟩
theorem ok_nw {C:Addr} (F:At K mg "_law_no_word" (top 50) ["cell"] f fd) (FC:At K mg "cut" (top 28) ["word"] fc cd) (FP:At K mg "plain_bracket" (top 29) ["word"] fp pd)
    (GC:FnOk P w K mg base (CXE P w) 3 fc cd ["word"] (spCut C)) (GP:FnOk P w K mg base (CXE P w) 13 fp pd ["word"] (spPb C 8)):FnOk P w K mg base (CXE P w) 14 f fd ["cell"] (spNw C):=by
  refine F.fn.okE scNw (fun vs H Q E h=>?_) (fun cdv A outer s H vs Q E hr h=>?_)
  · obtain ⟨c,rfl,_⟩:=h
    rfl
  obtain ⟨c,rfl,q⟩:=h
  have hr3:Room 3 _:=hr.mono (by omega)
  refine ⟨_,pss_one (ps_if (pt_cmpR op_eq (pe_op op_mod (pv 0) pe_int) pe_int (nomark _))
    (pss_one (ps_expr (pe_call GC hr3 rfl FC.m FC.k FC.b .nil passE (pa_cons (pe_ix ix_list (pe_lst (pa_cons pe_str (pa_cons pe_str (pa_cons pe_str (pa_cons pe_str (pa_cons pe_str (pa_cons pe_str (pa_cons pe_str pa_nil)))))))) (pe_op op_mod (pe_op op_fdiv (pv 0) pe_int) pe_int) (fun _ _=>rfl)) pa_nil))))
    (pss_one (ps_expr (pe_call GP hr rfl FP.m FP.k FP.b .nil passE (pa_cons (pe_ix ix_list (pe_lst (pa_cons pe_str (pa_cons pe_str (pa_cons pe_str (pa_cons pe_str (pa_cons pe_str pa_nil)))))) (pe_op op_mod (pe_op op_fdiv (pv 0) pe_int) pe_int) (fun _ _=>rfl)) pa_nil))))),?_⟩
  refine ⟨_,rfl,_,_,rfl,rfl,(by show (0:Int) < 2;decide),rfl,_,rfl,?_⟩
  refine ite2 (fun _=>?_) (fun _=>?_)
  · refine ⟨(by show 7≤sizeLine;decide),fun l nl=>?_⟩
    obtain ⟨z,hz,ez⟩:=strs_at (L:=NWc) (c:=c / 2) (n:=7) (by decide) rfl
    obtain ⟨z1,z2,z3⟩:=nwc_ok z hz
    refine ⟨_,rfl,_,_,rfl,rfl,⟨by decide,by decide⟩,_,_,rfl,rfl,(by show (0:Int) < 7;decide),l,NWc.map V.str,_,_,rfl,rfl,.inl (.inl upd_same),ez,z,rfl,by omega,z2,fun h1 h2=>?_,fun _ H1 s1=>q H1 ((new_same nl _).trans s1)⟩
    rcases z3 with h | h
    · exact absurd h1 (npl h)
    · omega
  · refine ⟨(by show 5≤sizeLine;decide),fun l nl=>?_⟩
    obtain ⟨z,hz,ez⟩:=strs_at (L:=NWb) (c:=c / 2) (n:=5) (by decide) rfl
    obtain ⟨z1,z2,z3⟩:=nwb_ok z hz
    exact ⟨_,rfl,_,_,rfl,rfl,⟨by decide,by decide⟩,_,_,rfl,rfl,(by show (0:Int) < 5;decide),l,NWb.map V.str,_,_,rfl,rfl,.inl (.inl upd_same),ez,z,rfl,z1,by omega,z2,fun h1=>absurd h1 (npl z3),fun _ H1 s1=>q H1 ((new_same nl _).trans s1)⟩
theorem scTgN:FnScope ["cell","four"] ["cell"] (defScope (top 51)):=⟨rfl,rfl,rfl,by decide +kernel,rfl,by decide +kernel,by decide +kernel⟩
theorem ok_tgN {C:Addr} (F:At K mg "_law_too_great" (top 51) ["cell"] f fd) (FB:At K mg "bracket_of" (top 38) ["one","other"] fb bd) (FP:At K mg "put_in" (top 39) ["total","a","b","c"] fp pd)
    (GB:FnOk P w K mg base (CXE P w) 18 fb bd ["one","other"] (spBoN K C)) (GP:FnOk P w K mg base (CXE P w) 17 fp pd ["total","a","b","c"] (spPiN K C)):FnOk P w K mg base (CXE P w) 19 f fd ["cell"] (spNw C):=by
  refine F.fn.okE scTgN (fun vs H Q E h=>?_) (fun cdv A outer s H vs Q E hr h=>?_)
  · obtain ⟨c,rfl,_⟩:=h
    rfl
  obtain ⟨c,rfl,q⟩:=h
  have hr17:Room 17 _:=hr.mono (by omega)
  refine ⟨_,@PSsW.out _ _ _ (w_cons (w_set (i:=1) scTgN.nd rfl (Or.inl rfl) (w_tup (wa_cons ⟨pe_str⟩ (wa_cons (w_tup (wa_cons ⟨pe_str⟩ (wa_cons (w_tup (wa_cons ⟨pe_str⟩ (wa_cons ⟨pe_str⟩ wa_nil))) wa_nil))) wa_nil))))
    (w_one ⟨ps_if (pt_cmpR op_eq (pe_op op_mod (pv 0) pe_int) pe_int (nomark _))
      (pss_one (ps_expr (pe_call GB hr rfl FB.m FB.k FB.b .nil passE (@PAW.h _ _ _ (wa_cons (w_lst (wa_cons (w_tup (wa_cons ⟨pe_int⟩ (wa_cons ⟨pv 1⟩ wa_nil))) (wa_cons (w_tup (wa_cons ⟨pe_int⟩ (wa_cons ⟨pe_str⟩ wa_nil))) wa_nil))) (wa_cons (w_lst (wa_cons (w_tup (wa_cons ⟨pe_int⟩ (wa_cons ⟨pe_str⟩ wa_nil))) (wa_cons (w_tup (wa_cons ⟨pe_int⟩ (wa_cons (w_tup (wa_cons ⟨pe_str⟩ (wa_cons ⟨pv 1⟩ wa_nil))) wa_nil))) wa_nil))) wa_nil))))))
      (pss_one (ps_if (pt_cmpR op_eq (pe_op op_mod (pv 0) pe_int) pe_int (nomark _))
        (pss_one (ps_expr (pe_call GB hr rfl FB.m FB.k FB.b .nil passE (@PAW.h _ _ _ (wa_cons (w_lst (wa_cons (w_tup (wa_cons ⟨pe_int⟩ (wa_cons (w_tup (wa_cons ⟨pv 1⟩ (wa_cons ⟨pv 1⟩ wa_nil))) wa_nil))) wa_nil)) (wa_cons (w_lst (wa_cons (w_tup (wa_cons ⟨pe_int⟩ (wa_cons ⟨pe_str⟩ wa_nil))) wa_nil)) wa_nil))))))
        (pss_one (ps_expr (pe_call GP hr17 rfl FP.m FP.k FP.b .nil passE (@PAW.h _ _ _ (wa_cons (w_lst (wa_cons (w_tup (wa_cons ⟨pe_int⟩ (wa_cons (w_tup (wa_cons ⟨pe_str⟩ (wa_cons ⟨pe_str⟩ wa_nil))) wa_nil))) (wa_cons (w_tup (wa_cons ⟨pe_int⟩ (wa_cons (w_tup (wa_cons ⟨pe_str⟩ (wa_cons ⟨pe_str⟩ wa_nil))) wa_nil))) wa_nil)))
          (wa_cons (w_lst (wa_cons (w_tup (wa_cons ⟨pe_int⟩ (wa_cons ⟨pv 1⟩ wa_nil))) wa_nil)) (wa_cons (w_lst (wa_cons (w_tup (wa_cons ⟨pe_int⟩ (wa_cons (w_tup (wa_cons ⟨pv 1⟩ (wa_cons ⟨pe_str⟩ wa_nil))) wa_nil))) wa_nil)) (wa_cons (w_lst wa_nil) wa_nil))))))))))⟩)),?_⟩
  have z0:0≤sizeLine:=by decide
  have z1:1≤sizeLine:=by decide
  have z2:2≤sizeLine:=by decide
  refine ⟨z2,fun a1 n1=>⟨z2,fun a2 n2=>⟨z2,fun a n3=>?_⟩⟩⟩
  have s1:=new_same n1 (.tup [.str (Str.ofString "a"),.str (Str.ofString "c")])
  have s2:=new_same n2 (.tup [.str (Str.ofString "b"),.ref a1])
  have s3:=new_same n3 (.tup [.str (Str.ofString "a"),.ref a2])
  have h4:BrV (upd (upd (upd H a1 (.tup [.str (Str.ofString "a"),.str (Str.ofString "c")])) a2 (.tup [.str (Str.ofString "b"),.ref a1])) a (.tup [.str (Str.ofString "a"),.ref a2])) b4 (.ref a):=br2 upd_same br_a (br2 (s3 _ _ upd_same) br_b (br2 ((s2.trans s3) _ _ upd_same) br_a br_c))
  have sA:=s1.trans (s2.trans s3)
  clear s1 s2 s3 n1 n2 n3
  revert sA h4
  generalize upd (upd (upd H a1 (.tup [.str (Str.ofString "a"),.str (Str.ofString "c")])) a2 (.tup [.str (Str.ofString "b"),.ref a1])) a (.tup [.str (Str.ofString "a"),.ref a2])=H1
  intro h4 sA
  refine ⟨_,rfl,_,_,rfl,rfl,(by show (0:Int) < 3;decide),rfl,_,rfl,?_⟩
  refine ite2 (fun _=>?_) (fun _=>?_)
  · refine ⟨_,rfl,z2,fun p1 n1=>⟨z2,fun p2 n2=>⟨z2,fun l1 n3=>⟨z2,fun p4 n4=>⟨_,rfl,z2,fun p5 n5=>⟨z2,fun p6 n6=>⟨z2,fun l2 n7=>?_⟩⟩⟩⟩⟩⟩⟩
    have s1:=new_same n1 (.tup [.int 1,.ref a])
    have s2:=new_same n2 (.tup [.int 0,.str (Str.ofString "a")])
    have s3:=new_same n3 (.lst [.ref p1,.ref p2])
    have s4:=new_same n4 (.tup [.int 2,.str (Str.ofString "a")])
    have s5:=new_same n5 (.tup [.str (Str.ofString "b"),.ref a])
    have s6:=new_same n6 (.tup [.int 3,.ref p5])
    have s7:=new_same n7 (.lst [.ref p4,.ref p6])
    have s67:=s6.trans s7
    have s57:=s5.trans s67
    have s47:=s4.trans s57
    have s37:=s3.trans s47
    have s27:=s2.trans s37
    have s17:=s1.trans s27
    refine ⟨l1,l2,_,_,[(1,b4),(0,.leaf la)],[(2,.leaf la),(3,.node (.leaf lb) b4)],rfl,tot2 (s47 _ _ upd_same) (s27 _ _ upd_same) (h4.same s17) (s37 _ _ upd_same) br_a,tot2 upd_same (s57 _ _ upd_same) br_a (s7 _ _ upd_same) (br2 (s67 _ _ upd_same) br_b (h4.same s17)),by decide,by decide,by decide +kernel,by decide +kernel,by decide +kernel,fun H' s'=>q H' (sA.trans (s17.trans s'))⟩
  refine ⟨_,rfl,_,_,rfl,rfl,(by show (0:Int) < 3;decide),rfl,_,rfl,?_⟩
  refine ite2 (fun _=>?_) (fun _=>?_)
  · refine ⟨_,rfl,_,rfl,z2,fun p1 n1=>⟨z2,fun p2 n2=>⟨z1,fun l1 n3=>⟨z2,fun p4 n4=>⟨z1,fun l2 n5=>?_⟩⟩⟩⟩⟩
    have s1:=new_same n1 (.tup [.ref a,.ref a])
    have s2:=new_same n2 (.tup [.int 0,.ref p1])
    have s3:=new_same n3 (.lst [.ref p2])
    have s4:=new_same n4 (.tup [.int 1,.str (Str.ofString "c")])
    have s5:=new_same n5 (.lst [.ref p4])
    have s45:=s4.trans s5
    have s35:=s3.trans s45
    have s25:=s2.trans s35
    have s15:=s1.trans s25
    refine ⟨l1,l2,_,_,[(0,.node b4 b4)],[(1,.leaf lc)],rfl,tot1 (s45 _ _ upd_same) (s35 _ _ upd_same) (br2 (s25 _ _ upd_same) (h4.same s15) (h4.same s15)),tot1 upd_same (s5 _ _ upd_same) br_c,by decide,by decide,by decide +kernel,by decide +kernel,by decide +kernel,fun H' s'=>q H' (sA.trans (s15.trans s'))⟩
  · refine ⟨z2,fun p1 n1=>⟨z2,fun p2 n2=>⟨z2,fun p3 n3=>⟨z2,fun p4 n4=>⟨z2,fun l1 n5=>⟨_,rfl,z2,fun p6 n6=>⟨z1,fun l2 n7=>⟨_,rfl,z2,fun p8 n8=>⟨z2,fun p9 n9=>⟨z1,fun l3 n10=>⟨z0,fun l4 n11=>?_⟩⟩⟩⟩⟩⟩⟩⟩⟩⟩⟩
    have s1:=new_same n1 (.tup [.str (Str.ofString "a"),.str (Str.ofString "b")])
    have s2:=new_same n2 (.tup [.int 0,.ref p1])
    have s3:=new_same n3 (.tup [.str (Str.ofString "c"),.str (Str.ofString "c")])
    have s4:=new_same n4 (.tup [.int 1,.ref p3])
    have s5:=new_same n5 (.lst [.ref p2,.ref p4])
    have s6:=new_same n6 (.tup [.int 1,.ref a])
    have s7:=new_same n7 (.lst [.ref p6])
    have s8:=new_same n8 (.tup [.ref a,.str (Str.ofString "a")])
    have s9:=new_same n9 (.tup [.int 1,.ref p8])
    have s10:=new_same n10 (.lst [.ref p9])
    have s11:=new_same n11 (.lst [])
    have t10:=s10.trans s11
    have t9:=s9.trans t10
    have t8:=s8.trans t9
    have t7:=s7.trans t8
    have t6:=s6.trans t7
    have t5:=s5.trans t6
    have t4:=s4.trans t5
    have t3:=s3.trans t4
    have t2:=s2.trans t3
    have t1:=s1.trans t2
    refine ⟨l1,l2,l3,l4,_,_,_,[],(0,bab),[(1,.node (.leaf lc) (.leaf lc))],[(1,b4)],[(1,.node b4 (.leaf la))],[],rfl,tot2 (t6 _ _ upd_same) (t3 _ _ upd_same) (br2 (t2 _ _ upd_same) br_a br_b) (t5 _ _ upd_same) (br2 (t4 _ _ upd_same) br_c br_c),tot1 (t8 _ _ upd_same) (t7 _ _ upd_same) (h4.same t1),tot1 (s11 _ _ upd_same) (t10 _ _ upd_same) (br2 (t9 _ _ upd_same) (h4.same t1) br_a),tot_nil upd_same,by decide,by decide,by decide,by decide,by decide +kernel,by decide +kernel,fun x hx=>(by cases hx),by decide +kernel,fun H' s'=>q H' (sA.trans (t1.trans s'))⟩
end
end K01
end
section
namespace K01
open PySem PySem.Spec PyProof.Rows Tim L2 Wm
structure Defs (K:PySem.W.Frag) (mg:Str→Option Value):Prop where
  t:Blt mg
  d_weight:∃ f fd,At K mg "weight" (top 3) ["bracket"] f fd
  d_length_first:∃ f fd,At K mg "length_first" (top 4) ["word"] f fd
  d_sum_counts:∃ f fd,At K mg "sum_counts" (top 5) ["total"] f fd
  d_bracket_counts:∃ f fd,At K mg "bracket_counts" (top 6) ["bracket"] f fd
  d_twisted:∃ f fd,At K mg "twisted" (top 7) ["first","second"] f fd
  d_add_counts:∃ f fd,At K mg "add_counts" (top 8) ["counts","times","added"] f fd
  d_add_count:∃ f fd,At K mg "add_count" (top 9) ["counts","word","count"] f fd
  d_without_noughts:∃ f fd,At K mg "without_noughts" (top 10) ["counts"] f fd
  d_read:∃ f fd,At K mg "read" (top 22) ["text"] f fd
  d_is_plain:∃ f fd,At K mg "is_plain" (top 27) ["word"] f fd
  d_cut:∃ f fd,At K mg "cut" (top 28) ["word"] f fd
  d_plain_bracket:∃ f fd,At K mg "plain_bracket" (top 29) ["word"] f fd
  d_refuse_unless_plain:∃ f fd,At K mg "refuse_unless_plain" (top 30) ["word"] f fd
  d_plain_words:∃ f fd,At K mg "plain_words" (top 31) ["letters","length"] f fd
  d_all_words:∃ f fd,At K mg "all_words" (top 32) ["letters","length"] f fd
  d_how_many:∃ f fd,At K mg "how_many" (top 33) ["letters","length"] f fd
  d_refuse_unless_within:∃ f fd,At K mg "refuse_unless_within" (top 34) ["letters","length","longest"] f fd
  d_prime_sign:∃ f fd,At K mg "prime_sign" (top 35) ["number"] f fd
  d_power:∃ f fd,At K mg "power" (top 36) ["base","exponent"] f fd
  d_bracket_of:∃ f fd,At K mg "bracket_of" (top 38) ["one","other"] f fd
  d_put_in:∃ f fd,At K mg "put_in" (top 39) ["total","a","b","c"] f fd
  d_greatest_weight:∃ f fd,At K mg "greatest_weight" (top 40) ["total"] f fd
  d_weight_put_in:∃ f fd,At K mg "weight_put_in" (top 41) ["bracket","greatest"] f fd
  d_counts_put_in:∃ f fd,At K mg "counts_put_in" (top 42) ["bracket","letter_counts"] f fd
  d_gathered:∃ f fd,At K mg "gathered" (top 43) ["words"] f fd
  d_plain_sum_of:∃ f fd,At K mg "plain_sum_of" (top 44) ["counts"] f fd
  d_parts_by_letters:∃ f fd,At K mg "parts_by_letters" (top 45) ["counts"] f fd
  d_plain_counts_of:∃ f fd,At K mg "plain_counts_of" (top 46) ["part"] f fd
  d__law_stir:∃ f fd,At K mg "_law_stir" (top 48) ["cell"] f fd
  d__law_cell:∃ f fd,At K mg "_law_cell" (top 49) ["script","k"] f fd
  d__law_no_word:∃ f fd,At K mg "_law_no_word" (top 50) ["cell"] f fd
  d__law_too_great:∃ f fd,At K mg "_law_too_great" (top 51) ["cell"] f fd
  d__law_done:∃ f fd,At K mg "_law_done" (top 52) ["mode","cell","far"] f fd
  ex:∃ C_TwistError C_NoWord C_NoNumber C_NoSum C_TooGreat C_NotRead:Addr,ExcAt K mg "TwistError" C_TwistError∧ExcAt K mg "NoWord" C_NoWord∧ExcAt K mg "NoNumber" C_NoNumber∧ExcAt K mg "NoSum" C_NoSum∧ExcAt K mg "TooGreat" C_TooGreat∧ExcAt K mg "NotRead" C_NotRead∧PySem.W.mroIn K C_NoWord (.ref C_TwistError)=some true∧PySem.W.mroIn K C_NoNumber (.ref C_TwistError)=some true∧PySem.W.mroIn K C_NoSum (.ref C_TwistError)=some true∧PySem.W.mroIn K C_TooGreat (.ref C_TwistError)=some true∧PySem.W.mroIn K C_NotRead (.ref C_TwistError)=some true∧ExcIs K C_NoWord (.ref C_NoWord) true∧ExcIs K C_NoWord (.ref C_NoNumber) false∧ExcIs K C_NoWord (.ref C_NoSum) false∧ExcIs K C_NoWord (.ref C_TooGreat) false∧ExcIs K C_NoWord (.ref C_NotRead) false∧ExcIs K C_NoWord (.type "ValueError") true∧ExcIs K C_NoNumber (.ref C_NoWord) false∧ExcIs K C_NoNumber (.ref C_NoNumber) true∧ExcIs K C_NoNumber (.ref C_NoSum) false∧ExcIs K C_NoNumber (.ref C_TooGreat) false∧ExcIs K C_NoNumber (.ref C_NotRead) false∧ExcIs K C_NoNumber (.type "ValueError") true∧ExcIs K C_NoSum (.ref C_NoWord) false∧ExcIs K C_NoSum (.ref C_NoNumber) false∧ExcIs K C_NoSum (.ref C_NoSum) true∧ExcIs K C_NoSum (.ref C_TooGreat) false∧ExcIs K C_NoSum (.ref C_NotRead) false∧ExcIs K C_NoSum (.type "ValueError") true∧ExcIs K C_TooGreat (.ref C_NoWord) false∧ExcIs K C_TooGreat (.ref C_NoNumber) false∧ExcIs K C_TooGreat (.ref C_NoSum) false∧ExcIs K C_TooGreat (.ref C_TooGreat) true∧ExcIs K C_TooGreat (.ref C_NotRead) false∧ExcIs K C_TooGreat (.type "ValueError") true∧ExcIs K C_NotRead (.ref C_NoWord) false∧ExcIs K C_NotRead (.ref C_NoNumber) false∧ExcIs K C_NotRead (.ref C_NoSum) false∧ExcIs K C_NotRead (.ref C_TooGreat) false∧ExcIs K C_NotRead (.ref C_NotRead) true∧ExcIs K C_NotRead (.type "ValueError") true
  c_GREATEST_WEIGHT:∃ t,mg "GREATEST_WEIGHT" = some (.int 8 t)
  c_MOST_FIGURES:∃ t,mg "MOST_FIGURES" = some (.int 30 t)
  c_MOST_TUPLES:∃ t,mg "MOST_TUPLES" = some (.int 12 t)
  c_LONGEST_LISTED:∃ t,mg "LONGEST_LISTED" = some (.int 8 t)
  c_LONGEST_COUNTED:∃ t,mg "LONGEST_COUNTED" = some (.int 60 t)
  c_FIGURES:∃ t,mg "FIGURES" = some (.str (Str.ofString "0123456789") t)
  c_LETTERS:∃ a,mg "LETTERS" = some (.ref a)∧TupK K a [Str.ofString "a",Str.ofString "b",Str.ofString "c"]
  rd:∃ (C:Addr) (f___init__:Addr) (fd___init__:FuncData) (f_at_end:Addr) (fd_at_end:FuncData) (f_sign_here:Addr) (fd_sign_here:FuncData) (f_take:Addr) (fd_take:FuncData) (f_take_wanted:Addr) (fd_take_wanted:FuncData) (f_take_tuple:Addr) (fd_take_tuple:FuncData) (f_take_count:Addr) (fd_take_count:FuncData) (f_take_figures:Addr) (fd_take_figures:FuncData) (f_take_bracket:Addr) (fd_take_bracket:FuncData),Rdr K C∧mg "Reader" = some (.ref C)∧Mk K C f___init__∧Fun K "__init__" "Reader.__init__" (rm 0) f___init__ fd___init__∧Binds K fd___init__ ["self","text"] []∧MAt K C "at_end" "Reader.at_end" (rm 1) ["self"] f_at_end fd_at_end∧MAt K C "sign_here" "Reader.sign_here" (rm 2) ["self"] f_sign_here fd_sign_here∧MAt K C "take" "Reader.take" (rm 3) ["self"] f_take fd_take∧MAt K C "take_wanted" "Reader.take_wanted" (rm 4) ["self","wanted"] f_take_wanted fd_take_wanted∧MAt K C "take_tuple" "Reader.take_tuple" (rm 5) ["self"] f_take_tuple fd_take_tuple∧MAt K C "take_count" "Reader.take_count" (rm 6) ["self"] f_take_count fd_take_count∧MAt K C "take_figures" "Reader.take_figures" (rm 7) ["self"] f_take_figures fd_take_figures∧MAt K C "take_bracket" "Reader.take_bracket" (rm 8) ["self","depth"] f_take_bracket fd_take_bracket
theorem at_mk {K:PySem.W.Frag} {mg:Str→Option Value} {h:Heap} {x:Str} {st:Stmt} {ps:List Str} {f:Addr} {oc:Value} {od an:Option Addr} {osl:Array (Option Value)} {kV doc pm cdv ct:Value} (X:K.In h) (G:h.Ns mainGlobals mg)
    (a:PySem.W.nsIn K mainGlobals x=some (some (.ref f))) (l:K.lookup f=some ⟨oc,od,.func (PySem.W.fnOf x x (defArgs st) (defBody st) (defScope st) .none kV doc pm an cdv ct),osl⟩) (c:PySem.W.codeIn K cdv x=true) (k:PySem.W.keepIn K (.ref f)=true)
    (hb:∀ (kV doc pm:Value) (an:Option Addr) (cdv ct:Value) (us:List Value),us.length=ps.length→bindArgs (PySem.W.fnOf x x (defArgs st) (defBody st) (defScope st) .none kV doc pm an cdv ct) ⟨us,[]⟩=pure (ps.zip us)) :
    At K mg x st ps f (PySem.W.fnOf x x (defArgs st) (defBody st) (defScope st) .none kV doc pm an cdv ct):=⟨fun_mk l c k,(fun_mk l c k).binds hb,PySem.W.mg_of X G a⟩
end K01
end
section
namespace K01
open PySem PySem.Spec PyProof.Rows Tim L2 Wm
noncomputable def spLaw (K:PySem.W.Frag):Sp:=fun vs H Q _=>∃ (a:Addr) (ns:List Int),vs=[.ref a]∧SqL K H a (ns.map V.int)∧ns.length≤63∧∀ H',Q (.bl true) H'
theorem bt_ve:bootBuiltins "ValueError" = some (.type "ValueError"):=by decide +kernel
theorem pss_ex {X:Cx} {α:Type} {p:α→Prop} {st:List Stmt} {t:α→TS} (h:∀ m,p m→PSs X st (t m)):PSs X st (fun D σ H=>∃ m,p m∧t m D σ H):=fun pins s σ H D I ⟨m,hp,hh⟩=>h m hp pins s σ H D I hh
theorem wds1 {H:Hp} {t p:Addr} {n:Int} {z:Str} (ht:H t=some (.lst [.ref p])) (hp:H p=some (.tup [.str z,.int n])):WdsV H t [.ref p] [(z,n)]:=⟨ht,rfl,fun i x e=>by
  match i,e with
  | 0,e=>cases e;exact ⟨p,rfl,hp⟩
  | i + 1,e=>cases e⟩
theorem wds2 {H:Hp} {t p p':Addr} {n n':Int} {z z':Str} (ht:H t=some (.lst [.ref p,.ref p'])) (hp:H p=some (.tup [.str z,.int n])) (hp':H p'=some (.tup [.str z',.int n'])):WdsV H t [.ref p,.ref p'] [(z,n),(z',n')]:=⟨ht,rfl,fun i x e=>by
  match i,e with
  | 0,e=>cases e;exact ⟨p,rfl,hp⟩
  | 1,e=>cases e;exact ⟨p',rfl,hp'⟩
  | i + 2,e=>cases e⟩
noncomputable def GWd:List Str:=[Str.ofString "ab",Str.ofString "a",Str.ofString "ba",Str.ofString "aa"]
theorem gwd_ok:∀ z∈GWd,(∀ c∈Ls z,c=97∨c=98∨c=99)∧z.length≤8:=by decide +kernel
theorem gwd1 {z:Str} {n:Int} (h:z∈GWd):∀ w∈keys [(z,n)],okW w:=fun w hw=>by
  rw [List.mem_singleton.mp (show w∈[z] from hw)]
  exact gwd_ok z h
theorem gwd2 {z z':Str} {n n':Int} (h:z∈GWd) (h':z'∈GWd):∀ w∈keys [(z,n),(z',n')],okW w:=fun w hw=>by
  rcases List.mem_cons.mp (show w∈[z,z'] from hw) with e | e
  · rw [e];exact gwd_ok z h
  · rw [List.mem_singleton.mp e];exact gwd_ok z' h'
theorem gw_aa {n:Int} (h:0≤n):val (gat [(Str.ofString "aa",1 + n)]) (mk [97,97]) + val (gat [(Str.ofString "aa",1 + n)]) (mk [97,97])≠0:=by
  show val (add [] (Str.ofString "aa") (1 + n)) (mk [97,97]) + val (add [] (Str.ofString "aa") (1 + n)) (mk [97,97])≠0
  have v0:val ([]:D Str) (mk [97,97])=0:=rfl
  rw [val_add,if_pos (by decide +kernel:mk [97,97]=Str.ofString "aa"),v0]
  omega
theorem nn_at {r n b:Int} (r0:0≤r) (hn:n=8∨n=60) (hb:b=0∨b = -r) (a:Int):∃ k n':Int,atI [V.int 0,.int (4 + r),.int 2,.int 3] (a % 4)=some (.int k)∧atI [V.int 3,.int 3,.int (n + 1 + r),.int b] (a % 4)=some (.int n')∧¬ In k n' n:=by
  have four:a % 4=0∨a % 4=1∨a % 4=2∨a % 4=3:=by omega
  rcases four with h | h | h | h <;> rw [h]
  · exact ⟨0,3,atI_nat (j:=0) rfl,atI_nat (j:=0) rfl,fun y=>by have:=y.1;omega⟩
  · exact ⟨4 + r,3,atI_nat (j:=1) rfl,atI_nat (j:=1) rfl,fun y=>by have:=y.2.1;omega⟩
  · exact ⟨2,n + 1 + r,atI_nat (j:=2) rfl,atI_nat (j:=2) rfl,fun y=>by have:=y.2.2.2;omega⟩
  · exact ⟨3,b,atI_nat (j:=3) rfl,atI_nat (j:=3) rfl,fun y=>by have:=y.2.2.1;omega⟩
noncomputable def cls5 (C0 C1 C2 C3 C4:Addr) (m:Int):Addr:=if m=0 then C0 else if m=1 then C1 else if m=2 then C2 else if m=3 then C3 else C4
noncomputable def spDo (cl:Int→Addr):Sp:=fun vs H Q E=>∃ m c far:Int,vs=[.int m,.int c,.int far]∧0≤m∧m < 5∧0≤far∧∀ H',Same H H'→E (.ref (cl m)) none H'
structure Ki (K:PySem.W.Frag) (C0 C1 C2 C3 C4 C:Addr) (m:Int):Prop where
  f:ExcF K C
  i0:ExcIs K C (.ref C0) (decide ((0:Int)=m))
  i1:ExcIs K C (.ref C1) (decide ((1:Int)=m))
  i2:ExcIs K C (.ref C2) (decide ((2:Int)=m))
  i3:ExcIs K C (.ref C3) (decide ((3:Int)=m))
  i4:ExcIs K C (.ref C4) (decide ((4:Int)=m))
  i5:ExcIs K C (.type "ValueError") true
section
variable {P:Program} {w:World} {K:PySem.W.Frag} {mg:Str→Option Value} {base:Heap} {f fn fp fh fg ft fr:Addr} {fd nd pd hd gd td rd:FuncData}
theorem w_if {X:Cx} {c:Expr} {a b:List Stmt} {tc:TT} {t u:TS} {pos:Pos} (hc:PT X c tc) (ha:PSsW X a t) (hb:PSsW X b u):PSW X (.If c a b pos) (tIfS tc t u):=⟨ps_if hc ha.h hb.h⟩
theorem w_ix {X:Cx} {r:R2} {a b:Expr} {ta tb:TE} {pos:Pos} (hr:IxR X r) (ha:PEW X a ta) (hb:PEW X b tb) (hs:PlainIx b):PEW X (.Subscript a b pos) (tOp r ta tb):=⟨pe_ix hr ha.h hb.h hs⟩
theorem scDo:FnScope ["mode","cell","far"] ["mode","cell","far"] (defScope (top 52)):=⟨rfl,rfl,rfl,by decide +kernel,rfl,by decide +kernel,by decide +kernel⟩
set_option maxHeartbeats 2000000 in
theorem ok_do {C0 C1 C2 C3 C4:Addr} (F:At K mg "_law_done" (top 52) ["mode","cell","far"] f fd) (FN:At K mg "_law_no_word" (top 50) ["cell"] fn nd) (FP:At K mg "plain_words" (top 31) ["letters","length"] fp pd) (FH:At K mg "how_many" (top 33) ["letters","length"] fh hd)
    (FG:At K mg "gathered" (top 43) ["words"] fg gd) (FT:At K mg "_law_too_great" (top 51) ["cell"] ft td) (FR:At K mg "read" (top 22) ["text"] fr rd)
    (GN:FnOk P w K mg base (CXE P w) 14 fn nd ["cell"] (spNw C0)) (GP:FnOk P w K mg base (CXE P w) 2 fp pd ["letters","length"] (spNoN C1 8)) (GH:FnOk P w K mg base (CXE P w) 2 fh hd ["letters","length"] (spNoN C1 60))
    (GG:FnOk P w K mg base (CXE P w) 17 fg gd ["words"] (spGaN C2)) (GT:FnOk P w K mg base (CXE P w) 19 ft td ["cell"] (spNw C3)) (GR:FnOk P w K mg base (CXE P w) 14 fr rd ["text"] (spReE K C4)) :
    FnOk P w K mg base (CXE P w) 20 f fd ["mode","cell","far"] (spDo (cls5 C0 C1 C2 C3 C4)):=by
  refine F.fn.okE scDo (fun vs H Q E h=>?_) (fun cdv A outer s H vs Q E hr h=>?_)
  · obtain ⟨m,c,r,rfl,_⟩:=h
    rfl
  obtain ⟨m,c,r,rfl,m0,m5,r0,q⟩:=h
  have hr2:Room 2 _:=hr.mono (by omega)
  have hr14:Room 14 _:=hr.mono (by omega)
  have hr17:Room 17 _:=hr.mono (by omega)
  refine ⟨_,@PSsW.out _ _ _ (w_one (w_if (pt_cmpR op_eq (pv 0) pe_int (nomark _)) (w_one ⟨ps_expr (pe_call GN hr14 rfl FN.m FN.k FN.b .nil passE (pa_cons (pv 1) pa_nil))⟩)
    (w_one (w_if (PW.pt (pw_and (pt_cmpR op_eq (pv 0) pe_int (nomark _)) (pw_and1 (pt_cmpR op_eq (pe_op op_mod (pv 1) pe_int) pe_int (nomark _)))))
      (w_one ⟨ps_expr (pe_call GP hr2 rfl FP.m FP.k FP.b .nil passE (@PAW.h _ _ _ (wa_cons ⟨pe_ix ix_list (pe_lst (pa_cons pe_int (pa_cons (pe_op op_add pe_int (pv 2)) (pa_cons pe_int (pa_cons pe_int pa_nil))))) (pe_op op_mod (pe_op op_fdiv (pv 1) pe_int) pe_int) (fun _ _=>rfl)⟩ (wa_cons ⟨pe_ix ix_list (pe_lst (pa_cons pe_int (pa_cons pe_int (pa_cons (pe_op op_add pe_int (pv 2)) (pa_cons pe_int pa_nil))))) (pe_op op_mod (pe_op op_fdiv (pv 1) pe_int) pe_int) (fun _ _=>rfl)⟩ wa_nil))))⟩)
    (w_one (w_if (pt_cmpR op_eq (pv 0) pe_int (nomark _))
      (w_one ⟨ps_expr (pe_call GH hr2 rfl FH.m FH.k FH.b .nil passE (@PAW.h _ _ _ (wa_cons ⟨pe_ix ix_list (pe_lst (pa_cons pe_int (pa_cons (pe_op op_add pe_int (pv 2)) (pa_cons pe_int (pa_cons pe_int pa_nil))))) (pe_op op_mod (pe_op op_fdiv (pv 1) pe_int) pe_int) (fun _ _=>rfl)⟩ (wa_cons ⟨pe_ix ix_list (pe_lst (pa_cons pe_int (pa_cons pe_int (pa_cons (pe_op op_add pe_int (pv 2)) (pa_cons (pe_un un_neg (pv 2)) pa_nil))))) (pe_op op_mod (pe_op op_fdiv (pv 1) pe_int) pe_int) (fun _ _=>rfl)⟩ wa_nil))))⟩)
    (w_one (w_if (pt_cmpR op_eq (pv 0) pe_int (nomark _))
      (w_one ⟨ps_expr (pe_call GG hr17 rfl FG.m FG.k FG.b .nil passE (@PAW.h _ _ _ (wa_cons (w_ix ix_list (w_lst (wa_cons (w_lst (wa_cons (w_tup (wa_cons ⟨pe_str⟩ (wa_cons ⟨pe_int⟩ wa_nil))) wa_nil)) (wa_cons (w_lst (wa_cons (w_tup (wa_cons ⟨pe_str⟩ (wa_cons ⟨pe_int⟩ wa_nil))) (wa_cons (w_tup (wa_cons ⟨pe_str⟩ (wa_cons ⟨pe_int⟩ wa_nil))) wa_nil)))
        (wa_cons (w_lst (wa_cons (w_tup (wa_cons ⟨pe_str⟩ (wa_cons ⟨pe_int⟩ wa_nil))) (wa_cons (w_tup (wa_cons ⟨pe_str⟩ (wa_cons ⟨pe_int⟩ wa_nil))) wa_nil))) (wa_cons (w_lst (wa_cons (w_tup (wa_cons ⟨pe_str⟩ (wa_cons ⟨pe_op op_add pe_int (pv 2)⟩ wa_nil))) wa_nil)) wa_nil))))) ⟨pe_op op_mod (pv 1) pe_int⟩ (fun _ _=>rfl)) wa_nil)))⟩)
    (w_one (w_if (pt_cmpR op_eq (pv 0) pe_int (nomark _)) (w_one ⟨ps_expr (pe_call GT hr rfl FT.m FT.k FT.b .nil passE (pa_cons (pv 1) pa_nil))⟩)
      (w_one ⟨ps_expr (pe_call GR hr14 rfl FR.m FR.k FR.b .nil passE (@PAW.h _ _ _ (wa_cons ⟨pe_ix ix_list (pe_lst (pa_cons pe_str (pa_cons pe_str (pa_cons pe_str (pa_cons pe_str (pa_cons pe_str (pa_cons pe_str pa_nil))))))) (pe_op op_mod (pv 1) pe_int) (fun _ _=>rfl)⟩ wa_nil)))⟩))))))))))),?_⟩
  have z1:1≤sizeLine:=by decide
  have z2:2≤sizeLine:=by decide
  have z4:4≤sizeLine:=by decide
  have four:∀ i:Int,i % 4=0∨i % 4=1∨i % 4=2∨i % 4=3:=fun i=>by omega
  refine ⟨_,rfl,rfl,_,rfl,?_⟩
  refine ite2 (fun e=>?_) (fun e=>?_)
  · have e:m=0:=V.int.inj (of_decide_eq_true e)
    subst e
    exact ⟨_,rfl,c,rfl,q⟩
  have e0:m≠0:=fun y=>e (decide_eq_true (congrArg V.int y))
  clear e
  by_cases e1:m=1
  · subst e1
    refine ⟨_,rfl,rfl,_,rfl,?_⟩
    rw [decide_eq_true rfl]
    refine iteT ?_
    refine ⟨_,rfl,_,_,rfl,rfl,(by show (0:Int) < 2;decide),rfl,_,rfl,?_⟩
    refine ite2 (fun _=>?_) (fun _=>?_)
    · refine ⟨_,rfl,_,_,rfl,rfl,z4,fun l1 n1=>?_⟩
      obtain ⟨k,n',ek,en,hin⟩:=nn_at (r:=r) (n:=8) (b:=0) r0 (.inl rfl) (.inl rfl) (c / 2)
      refine ⟨_,rfl,_,_,rfl,rfl,⟨by decide,by decide⟩,_,_,rfl,rfl,(by show (0:Int) < 4;decide),l1,_,_,_,rfl,rfl,.inl (.inl upd_same),ek,?_⟩
      refine ⟨_,rfl,_,_,rfl,rfl,z4,fun l2 n2=>?_⟩
      refine ⟨_,rfl,_,_,rfl,rfl,⟨by decide,by decide⟩,_,_,rfl,rfl,(by show (0:Int) < 4;decide),l2,_,_,_,rfl,rfl,.inl (.inl upd_same),en,k,n',rfl,hin,?_⟩
      exact q _ ((new_same n1 _).trans (new_same n2 _))
    · refine ⟨_,rfl,rfl,_,rfl,?_⟩
      rw [decide_eq_true rfl]
      refine iteT ?_
      refine ⟨_,rfl,_,_,rfl,rfl,z4,fun l1 n1=>?_⟩
      obtain ⟨k,n',ek,en,hin⟩:=nn_at (r:=r) (n:=60) (b:=-r) r0 (.inr rfl) (.inr rfl) (c / 2)
      refine ⟨_,rfl,_,_,rfl,rfl,⟨by decide,by decide⟩,_,_,rfl,rfl,(by show (0:Int) < 4;decide),l1,_,_,_,rfl,rfl,.inl (.inl upd_same),ek,?_⟩
      refine ⟨_,rfl,_,_,rfl,rfl,_,rfl,_,rfl,z4,fun l2 n2=>?_⟩
      refine ⟨_,rfl,_,_,rfl,rfl,⟨by decide,by decide⟩,_,_,rfl,rfl,(by show (0:Int) < 4;decide),l2,_,_,_,rfl,rfl,.inl (.inl upd_same),en,k,n',rfl,hin,?_⟩
      exact q _ ((new_same n1 _).trans (new_same n2 _))
  have no1:decide (V.int m=V.int 1)=false:=decide_eq_false fun y=>e1 (V.int.inj y)
  refine ⟨_,rfl,rfl,_,rfl,?_⟩
  rw [no1]
  refine iteF ⟨_,rfl,rfl,_,rfl,?_⟩
  rw [no1]
  refine iteF ⟨_,rfl,rfl,_,rfl,?_⟩
  refine ite2 (fun e=>?_) (fun e=>?_)
  · have e:m=2:=V.int.inj (of_decide_eq_true e)
    subst e
    refine ⟨z2,fun p1 n1=>⟨z1,fun l1 n2=>⟨z2,fun p2 n3=>⟨z2,fun p3 n4=>⟨z2,fun l2 n5=>⟨z2,fun p4 n6=>⟨z2,fun p5 n7=>⟨z2,fun l3 n8=>⟨_,rfl,_,_,rfl,rfl,z2,fun p6 n9=>⟨z1,fun l4 n10=>⟨z4,fun l n11=>?_⟩⟩⟩⟩⟩⟩⟩⟩⟩⟩⟩
    have s1:=new_same n1 (.tup [.str (Str.ofString "ab"),.int 1])
    have s2:=new_same n2 (.lst [.ref p1])
    have s3:=new_same n3 (.tup [.str (Str.ofString "a"),.int 1])
    have s4:=new_same n4 (.tup [.str (Str.ofString "ba"),.int 2])
    have s5:=new_same n5 (.lst [.ref p2,.ref p3])
    have s6:=new_same n6 (.tup [.str (Str.ofString "ab"),.int 1])
    have s7:=new_same n7 (.tup [.str (Str.ofString "ba"),.int 1])
    have s8:=new_same n8 (.lst [.ref p4,.ref p5])
    have s9:=new_same n9 (.tup [.str (Str.ofString "aa"),.int (1 + r)])
    have s10:=new_same n10 (.lst [.ref p6])
    have s11:=new_same n11 (.lst [.ref l1,.ref l2,.ref l3,.ref l4])
    have t10:=s10.trans s11
    have t9:=s9.trans t10
    have t8:=s8.trans t9
    have t7:=s7.trans t8
    have t6:=s6.trans t7
    have t5:=s5.trans t6
    have t4:=s4.trans t5
    have t3:=s3.trans t4
    have t2:=s2.trans t3
    have t1:=s1.trans t2
    have w1:=wds1 (t3 _ _ upd_same) (t2 _ _ upd_same)
    have w2:=wds2 (t6 _ _ upd_same) (t4 _ _ upd_same) (t5 _ _ upd_same)
    have w3:=wds2 (t9 _ _ upd_same) (t7 _ _ upd_same) (t8 _ _ upd_same)
    have w4:=wds1 (s11 _ _ upd_same) (t10 _ _ upd_same)
    have fin:∀ H',Same _ H'→E (.ref C2) none H':=fun H' s'=>q H' (t1.trans s')
    refine ⟨_,rfl,_,_,rfl,rfl,(by show (0:Int) < 4;decide),l,[.ref l1,.ref l2,.ref l3,.ref l4],?_⟩
    rcases four c with h | h | h | h
    · exact ⟨0,_,rfl,congrArg V.int h,.inl (.inl upd_same),atI_nat (j:=0) rfl,l1,_,_,rfl,w1,by decide,gwd1 (by decide +kernel),⟨97,98,by decide +kernel⟩,fin⟩
    · exact ⟨1,_,rfl,congrArg V.int h,.inl (.inl upd_same),atI_nat (j:=1) rfl,l2,_,_,rfl,w2,by decide,gwd2 (by decide +kernel) (by decide +kernel),⟨97,98,by decide +kernel⟩,fin⟩
    · exact ⟨2,_,rfl,congrArg V.int h,.inl (.inl upd_same),atI_nat (j:=2) rfl,l3,_,_,rfl,w3,by decide,gwd2 (by decide +kernel) (by decide +kernel),⟨97,98,by decide +kernel⟩,fin⟩
    · exact ⟨3,_,rfl,congrArg V.int h,.inl (.inl upd_same),atI_nat (j:=3) rfl,l4,_,_,rfl,w4,(by show 1≤8;decide),gwd1 (by decide +kernel),⟨97,97,gw_aa r0⟩,fin⟩
  have e2:m≠2:=fun y=>e (decide_eq_true (congrArg V.int y))
  clear e
  refine ⟨_,rfl,rfl,_,rfl,?_⟩
  refine ite2 (fun e=>?_) (fun e=>?_)
  · have e:m=3:=V.int.inj (of_decide_eq_true e)
    subst e
    exact ⟨_,rfl,c,rfl,q⟩
  have e3:m≠3:=fun y=>e (decide_eq_true (congrArg V.int y))
  have e4:m=4:=by omega
  subst e4
  refine ⟨(by show 6≤sizeLine;decide),fun l nl=>?_⟩
  obtain ⟨z,hz,ez⟩:=strs_at (L:=UNR) (c:=c) (n:=6) (by decide) rfl
  obtain ⟨z1,z2,z3⟩:=unr_ok z hz
  exact ⟨_,rfl,_,_,rfl,rfl,(by show (0:Int) < 6;decide),l,UNR.map V.str,_,_,rfl,rfl,.inl (.inl upd_same),ez,z,rfl,z1,z2,fun T hT=>absurd ⟨T,hT⟩ (bad_not z3),fun _ H' s'=>q H' ((new_same nl _).trans s')⟩
theorem scLaw:FnScope ["script","mode","flags","e"] ["script"] (defScope (top 53)):=⟨rfl,rfl,rfl,by decide +kernel,rfl,by decide +kernel,by decide +kernel⟩
noncomputable def cLaw:Scope:={ kind:=.function,names:=[(Str.ofString ".0",.local),(Str.ofString "k",.local),(Str.ofString "mode",.free)],isGenerator:=false,isCoroutine:=false,more:=[] }
noncomputable def bl5 (m:Int):List V:=[.bl (decide ((0:Int)=m)),.bl (decide ((1:Int)=m)),.bl (decide ((2:Int)=m)),.bl (decide ((3:Int)=m)),.bl (decide ((4:Int)=m))]
theorem bl5_sc (m:Int):∀ v∈bl5 m++[.bl true],Sc v:=fun v hv=>.inr (.inr (.inl (by
  unfold bl5 at hv
  simp only [List.cons_append,List.nil_append,List.mem_cons,List.not_mem_nil,or_false] at hv
  rcases hv with h | h | h | h | h | h <;> exact ⟨_,h⟩)))
noncomputable abbrev tIsi (a:Addr) (b:Bool):TE:=fun σ H Q=>σ[3]? = some (some (.ref a))∧Q (.bl b) H
set_option maxHeartbeats 2000000 in
theorem ok_law (Z:Defs K mg) (F:At K mg "law" (top 53) ["script"] f fd):FnOk P w K mg base CX0 22 f fd ["script"] (spLaw K):=by
  have T:=Z.t
  obtain ⟨f_weight,fd_weight,F_weight⟩:=Z.d_weight
  obtain ⟨f_length_first,fd_length_first,F_length_first⟩:=Z.d_length_first
  obtain ⟨f_sum_counts,fd_sum_counts,F_sum_counts⟩:=Z.d_sum_counts
  obtain ⟨f_bracket_counts,fd_bracket_counts,F_bracket_counts⟩:=Z.d_bracket_counts
  obtain ⟨f_twisted,fd_twisted,F_twisted⟩:=Z.d_twisted
  obtain ⟨f_add_counts,fd_add_counts,F_add_counts⟩:=Z.d_add_counts
  obtain ⟨f_add_count,fd_add_count,F_add_count⟩:=Z.d_add_count
  obtain ⟨f_without_noughts,fd_without_noughts,F_without_noughts⟩:=Z.d_without_noughts
  obtain ⟨f_read,fd_read,F_read⟩:=Z.d_read
  obtain ⟨f_is_plain,fd_is_plain,F_is_plain⟩:=Z.d_is_plain
  obtain ⟨f_cut,fd_cut,F_cut⟩:=Z.d_cut
  obtain ⟨f_plain_bracket,fd_plain_bracket,F_plain_bracket⟩:=Z.d_plain_bracket
  obtain ⟨f_refuse_unless_plain,fd_refuse_unless_plain,F_refuse_unless_plain⟩:=Z.d_refuse_unless_plain
  obtain ⟨f_plain_words,fd_plain_words,F_plain_words⟩:=Z.d_plain_words
  obtain ⟨f_all_words,fd_all_words,F_all_words⟩:=Z.d_all_words
  obtain ⟨f_how_many,fd_how_many,F_how_many⟩:=Z.d_how_many
  obtain ⟨f_refuse_unless_within,fd_refuse_unless_within,F_refuse_unless_within⟩:=Z.d_refuse_unless_within
  obtain ⟨f_prime_sign,fd_prime_sign,F_prime_sign⟩:=Z.d_prime_sign
  obtain ⟨f_power,fd_power,F_power⟩:=Z.d_power
  obtain ⟨f_bracket_of,fd_bracket_of,F_bracket_of⟩:=Z.d_bracket_of
  obtain ⟨f_put_in,fd_put_in,F_put_in⟩:=Z.d_put_in
  obtain ⟨f_greatest_weight,fd_greatest_weight,F_greatest_weight⟩:=Z.d_greatest_weight
  obtain ⟨f_weight_put_in,fd_weight_put_in,F_weight_put_in⟩:=Z.d_weight_put_in
  obtain ⟨f_counts_put_in,fd_counts_put_in,F_counts_put_in⟩:=Z.d_counts_put_in
  obtain ⟨f_gathered,fd_gathered,F_gathered⟩:=Z.d_gathered
  obtain ⟨f_plain_sum_of,fd_plain_sum_of,F_plain_sum_of⟩:=Z.d_plain_sum_of
  obtain ⟨f_parts_by_letters,fd_parts_by_letters,F_parts_by_letters⟩:=Z.d_parts_by_letters
  obtain ⟨f_plain_counts_of,fd_plain_counts_of,F_plain_counts_of⟩:=Z.d_plain_counts_of
  obtain ⟨f__law_stir,fd__law_stir,F__law_stir⟩:=Z.d__law_stir
  obtain ⟨f__law_cell,fd__law_cell,F__law_cell⟩:=Z.d__law_cell
  obtain ⟨f__law_no_word,fd__law_no_word,F__law_no_word⟩:=Z.d__law_no_word
  obtain ⟨f__law_too_great,fd__law_too_great,F__law_too_great⟩:=Z.d__law_too_great
  obtain ⟨f__law_done,fd__law_done,F__law_done⟩:=Z.d__law_done
  obtain ⟨C_TwistError,C_NoWord,C_NoNumber,C_NoSum,C_TooGreat,C_NotRead,X_TwistError,X_NoWord,X_NoNumber,X_NoSum,X_TooGreat,X_NotRead,M_NoWord,M_NoNumber,M_NoSum,M_TooGreat,M_NotRead,I_NoWord_NoWord,I_NoWord_NoNumber,I_NoWord_NoSum,I_NoWord_TooGreat,I_NoWord_NotRead,I_NoWord_ValueError,I_NoNumber_NoWord,I_NoNumber_NoNumber,I_NoNumber_NoSum,I_NoNumber_TooGreat,I_NoNumber_NotRead,I_NoNumber_ValueError,I_NoSum_NoWord,I_NoSum_NoNumber,I_NoSum_NoSum,I_NoSum_TooGreat,I_NoSum_NotRead,I_NoSum_ValueError,I_TooGreat_NoWord,I_TooGreat_NoNumber,I_TooGreat_NoSum,I_TooGreat_TooGreat,I_TooGreat_NotRead,I_TooGreat_ValueError,I_NotRead_NoWord,I_NotRead_NoNumber,I_NotRead_NoSum,I_NotRead_TooGreat,I_NotRead_NotRead,I_NotRead_ValueError⟩:=Z.ex
  obtain ⟨t_GREATEST_WEIGHT,c_GREATEST_WEIGHT⟩:=Z.c_GREATEST_WEIGHT
  obtain ⟨t_MOST_FIGURES,c_MOST_FIGURES⟩:=Z.c_MOST_FIGURES
  obtain ⟨t_MOST_TUPLES,c_MOST_TUPLES⟩:=Z.c_MOST_TUPLES
  obtain ⟨t_LONGEST_LISTED,c_LONGEST_LISTED⟩:=Z.c_LONGEST_LISTED
  obtain ⟨t_LONGEST_COUNTED,c_LONGEST_COUNTED⟩:=Z.c_LONGEST_COUNTED
  obtain ⟨t_FIGURES,c_FIGURES⟩:=Z.c_FIGURES
  obtain ⟨a_LETTERS,c_LETTERS,u_LETTERS⟩:=Z.c_LETTERS
  obtain ⟨C_R,f_R___init__,fd_R___init__,f_R_at_end,fd_R_at_end,f_R_sign_here,fd_R_sign_here,f_R_take,fd_R_take,f_R_take_wanted,fd_R_take_wanted,f_R_take_tuple,fd_R_take_tuple,f_R_take_count,fd_R_take_count,f_R_take_figures,fd_R_take_figures,f_R_take_bracket,fd_R_take_bracket,R,m_R,M_R,F_R___init__,b_R,F_R_at_end,F_R_sign_here,F_R_take,F_R_take_wanted,F_R_take_tuple,F_R_take_count,F_R_take_figures,F_R_take_bracket⟩:=Z.rd
  have GC:FnOk P w K mg base CX0 2 f__law_cell fd__law_cell ["script","k"] (spCell K):=ok_cell T F__law_cell F__law_stir
  have GCut:FnOk P w K mg base (CXE P w) 3 f_cut fd_cut ["word"] (spCut C_NoWord):=ok_cut T F_cut F_is_plain F_refuse_unless_plain X_NoWord
  have GPb:FnOk P w K mg base (CXE P w) 13 f_plain_bracket fd_plain_bracket ["word"] (spPb C_NoWord 8):=ok_pb T F_plain_bracket F_cut F_is_plain F_refuse_unless_plain X_NoWord 8
  have GN:FnOk P w K mg base (CXE P w) 14 f__law_no_word fd__law_no_word ["cell"] (spNw C_NoWord):=ok_nw F__law_no_word F_cut F_plain_bracket GCut GPb
  have GP:FnOk P w K mg base (CXE P w) 2 f_plain_words fd_plain_words ["letters","length"] (spNoN C_NoNumber 8):=ok_plwN T F_plain_words F_refuse_unless_within X_NoNumber c_LETTERS u_LETTERS c_LONGEST_LISTED
  have GH:FnOk P w K mg base (CXE P w) 2 f_how_many fd_how_many ["letters","length"] (spNoN C_NoNumber 60):=ok_hmN T F_how_many F_refuse_unless_within X_NoNumber c_LETTERS u_LETTERS c_LONGEST_COUNTED
  have GBc:FnOk P w K mg base CX0 14 f_bracket_counts fd_bracket_counts ["bracket"] (spBc (cP cat) 12):=ok_bc T F_bracket_counts F_twisted F_add_count F_without_noughts 12
  have GPc:FnOk P w K mg base (CXE P w) 15 f_plain_counts_of fd_plain_counts_of ["part"] (spPc C_NoSum):=ok_pc T F_plain_counts_of F_is_plain F_plain_bracket F_bracket_counts F_add_counts F_add_count F_without_noughts X_NoSum GPb GBc
  have GSo:FnOk P w K mg base (CXE P w) 16 f_plain_sum_of fd_plain_sum_of ["counts"] (spPsoN C_NoSum):=ok_psoN T F_plain_sum_of F_parts_by_letters F_plain_counts_of GPc
  have GG:FnOk P w K mg base (CXE P w) 17 f_gathered fd_gathered ["words"] (spGaN C_NoSum):=ok_gaN F_gathered F_add_count F_without_noughts F_plain_sum_of GSo
  have GS:FnOk P w K mg base CX0 15 f_sum_counts fd_sum_counts ["total"] (spSum K (smP cat)):=ok_sc F_sum_counts F_bracket_counts F_add_counts F_add_count F_without_noughts GBc
  have GPi:FnOk P w K mg base (CXE P w) 17 f_put_in fd_put_in ["total","a","b","c"] (spPiN K C_TooGreat):=ok_piN T F_put_in F_greatest_weight F_weight F_sum_counts F_weight_put_in X_TooGreat c_GREATEST_WEIGHT GS
  have GBo:FnOk P w K mg base (CXE P w) 18 f_bracket_of fd_bracket_of ["one","other"] (spBoN K C_TooGreat):=ok_boN F_bracket_of F_put_in GPi
  have GTg:FnOk P w K mg base (CXE P w) 19 f__law_too_great fd__law_too_great ["cell"] (spNw C_TooGreat):=ok_tgN F__law_too_great F_bracket_of F_put_in GBo GPi
  have GI:FnOk P w K mg base CX0 1 f_R___init__ fd_R___init__ ["self","text"] (spIn C_R):=ok_in R F_R___init__
  have GE:FnOk P w K mg base CX0 1 f_R_at_end fd_R_at_end ["self"] (spEn C_R):=ok_en T R F_R_at_end
  have GHe:FnOk P w K mg base (CXE P w) 2 f_R_sign_here fd_R_sign_here ["self"] (spHeE C_R C_NotRead):=ok_heE T R X_NotRead F_R_sign_here F_R_at_end
  have GT:FnOk P w K mg base (CXE P w) 3 f_R_take fd_R_take ["self"] (spTkE C_R C_NotRead):=ok_tkE R F_R_take F_R_sign_here GHe
  have GWa:FnOk P w K mg base (CXE P w) 4 f_R_take_wanted fd_R_take_wanted ["self","wanted"] (spWaE C_R C_NotRead):=ok_waE R X_NotRead F_R_take_wanted F_R_take GT
  have GFg:FnOk P w K mg base (CXE P w) 4 f_R_take_figures fd_R_take_figures ["self"] (spFgE C_R C_NotRead):=ok_fgE T R X_NotRead F_R_take_figures F_R_sign_here F_R_take GHe GT c_FIGURES c_MOST_FIGURES
  have GCo:FnOk P w K mg base (CXE P w) 5 f_R_take_count fd_R_take_count ["self"] (spCoE C_R C_NotRead):=ok_coE T R X_NotRead F_R_take_count F_R_take F_R_take_figures GT GFg
  have GTb:FnOk P w K mg base (CXE P w) 12 f_R_take_bracket fd_R_take_bracket ["self","depth"] (spTbE C_R C_NotRead 8):=ok_tbE R X_NotRead F_R_take_bracket F_R_take F_R_take_wanted GT GWa c_LETTERS u_LETTERS c_GREATEST_WEIGHT 8
  have GTt:FnOk P w K mg base (CXE P w) 13 f_R_take_tuple fd_R_take_tuple ["self"] (spTtE C_R C_NotRead):=ok_ttE T R X_NotRead F_R_take_tuple F_R_take_count F_R_take_bracket F_weight GCo GTb c_GREATEST_WEIGHT
  have GRe:FnOk P w K mg base (CXE P w) 14 f_read fd_read ["text"] (spReE K C_NotRead):=ok_reE T R X_NotRead m_R F_read M_R b_R GI F_R_at_end GE F_R_take_tuple GTt c_MOST_TUPLES
  have GD:FnOk P w K mg base (CXE P w) 20 f__law_done fd__law_done ["mode","cell","far"] (spDo (cls5 C_NoWord C_NoNumber C_NoSum C_TooGreat C_NotRead)):=ok_do F__law_done F__law_no_word F_plain_words F_how_many F_gathered F__law_too_great F_read GN GP GH GG GTg GRe
  have hk:∀ m:Int,0≤m→m < 5→Ki K C_NoWord C_NoNumber C_NoSum C_TooGreat C_NotRead (cls5 C_NoWord C_NoNumber C_NoSum C_TooGreat C_NotRead m) m∧PySem.W.mroIn K (cls5 C_NoWord C_NoNumber C_NoSum C_TooGreat C_NotRead m) (.ref C_TwistError)=some true:=fun m h0 h5=>by
    have:m=0∨m=1∨m=2∨m=3∨m=4:=by omega
    rcases this with rfl | rfl | rfl | rfl | rfl
    · exact ⟨⟨X_NoWord.f,I_NoWord_NoWord,I_NoWord_NoNumber,I_NoWord_NoSum,I_NoWord_TooGreat,I_NoWord_NotRead,I_NoWord_ValueError⟩,M_NoWord⟩
    · exact ⟨⟨X_NoNumber.f,I_NoNumber_NoWord,I_NoNumber_NoNumber,I_NoNumber_NoSum,I_NoNumber_TooGreat,I_NoNumber_NotRead,I_NoNumber_ValueError⟩,M_NoNumber⟩
    · exact ⟨⟨X_NoSum.f,I_NoSum_NoWord,I_NoSum_NoNumber,I_NoSum_NoSum,I_NoSum_TooGreat,I_NoSum_NotRead,I_NoSum_ValueError⟩,M_NoSum⟩
    · exact ⟨⟨X_TooGreat.f,I_TooGreat_NoWord,I_TooGreat_NoNumber,I_TooGreat_NoSum,I_TooGreat_TooGreat,I_TooGreat_NotRead,I_TooGreat_ValueError⟩,M_TooGreat⟩
    · exact ⟨⟨X_NotRead.f,I_NotRead_NoWord,I_NotRead_NoNumber,I_NotRead_NoSum,I_NotRead_TooGreat,I_NotRead_NotRead,I_NotRead_ValueError⟩,M_NotRead⟩
  refine F.fn.ok scLaw (fun vs H Q E h=>?_) (fun cdv A outer s H vs Q E hr h=>?_)
  · obtain ⟨a,ns,rfl,_⟩:=h
    rfl
  obtain ⟨a,ns,rfl,hS,h63,q⟩:=h
  have hr2:Room 2 _:=hr.mono (by omega)
  have hr20:Room 20 _:=hr.mono (by omega)
  have hu1:=un_of (n:=0) hr (by decide)
  have O:CompOk (cxOf CX0 P w K mg base ["script","mode","flags","e"] "law" (defScope (top 53)) f cdv A outer s H E).nox ["k","mode"] cLaw [(Str.ofString "mode",s.heap.objs.size + 1)]:={
    clos:=rfl
    nocell:=by decide +kernel
    kind:=rfl
    names:=by decide +kernel
    sub:=fun x c e=>e
    has:=fun x h=>by
      have e:x=Str.ofString "mode":=List.mem_singleton.mp (lk_has (l:=[(Str.ofString ".0",.local),(Str.ofString "k",.local),(Str.ofString "mode",.cell)]) h (by decide +kernel))
      subst e
      exact ⟨_,rfl⟩ }
  refine ⟨_,@PSsW.out _ _ _ (w_cons ⟨ps_set (i:=1) scLaw.nd rfl (Or.inr rfl) (pe_op op_mod (pe_call GC hr2 rfl F__law_cell.m F__law_cell.k F__law_cell.b .nil pass0 (pa_cons (pv 0) (pa_cons pe_int pa_nil))) pe_int)⟩
    (w_cons ⟨ps_set (i:=2) scLaw.nd rfl (Or.inl rfl) (pe_lst pa_nil)⟩
    (w_cons ⟨ps_try (X:=(cxOf CX0 P w K mg base ["script","mode","flags","e"] "law" (defScope (top 53)) f cdv A outer s H E).nox) (i:=3) (n:="e") (x:="TwistError") (Tw:=C_TwistError)
      (tb:=fun Eσ=>tDrop (tCallS (spDo (cls5 C_NoWord C_NoNumber C_NoSum C_TooGreat C_NotRead)) Eσ (tCons (tVar 1) (tCons (tOp (rI (fun _ j=>0 < j) fun i j=>.int (i % j)) (tCall (spCell K) [] E0 (tCons (tVar 0) (tCons (tC (.int 1)) tNil))) (tC (.int 900)))
        (tCons (tOp (rI (fun _ j=>0 < j) fun i j=>.int (i % j)) (tCall (spCell K) [] E0 (tCons (tVar 0) (tCons (tC (.int 2)) tNil))) (tOp (rI CPow fun i j=>.int (i ^ j.toNat)) (tC (.int 10)) (tC (.int 12)))) tNil)))))
      (ts:=fun a C'=>fun D σ H=>∃ m:Int,Ki K C_NoWord C_NoNumber C_NoSum C_TooGreat C_NotRead C' m∧tSeq (tAsg (tLst (tCons (tIsi a (decide ((0:Int)=m))) (tCons (tIsi a (decide ((1:Int)=m))) (tCons (tIsi a (decide ((2:Int)=m))) (tCons (tIsi a (decide ((3:Int)=m))) tNil))))) (gName 2))
        (tAsg (tOp rCat (tVar 2) (tLst (tCons (tIsi a (decide ((4:Int)=m))) (tCons (tIsi a true) tNil)))) (gName 2)) D σ H)
      rfl rfl scLaw.nd rfl rfl rfl X_TwistError.m X_TwistError.f (fun pn xe Eσ hp=>pss_one (ps_expr (pe_callS GD hr20 rfl F__law_done.m F__law_done.k F__law_done.b hp (pa_cons (pv 1) (pa_cons (pe_op op_mod (pe_call GC hr2 rfl F__law_cell.m F__law_cell.k F__law_cell.b .nil pass0 (pa_cons (pv 0) (pa_cons pe_int pa_nil))) pe_int) (pa_cons (pe_op op_mod (pe_call GC hr2 rfl F__law_cell.m F__law_cell.k F__law_cell.b .nil pass0 (pa_cons (pv 0) (pa_cons pe_int pa_nil))) (pe_op op_pow pe_int pe_int)) pa_nil))))))
      (fun pn a C' oe vs hin hc hd=>pss_ex fun m k =>
        pss_cons (ps_set (i:=2) scLaw.nd rfl (Or.inl rfl) (pe_lst (pa_cons (pe_isiC hin hc hd k.f k.i0 rfl T.isi (pv 3) rfl X_NoWord.m) (pa_cons (pe_isiC hin hc hd k.f k.i1 rfl T.isi (pv 3) rfl X_NoNumber.m) (pa_cons (pe_isiC hin hc hd k.f k.i2 rfl T.isi (pv 3) rfl X_NoSum.m) (pa_cons (pe_isiC hin hc hd k.f k.i3 rfl T.isi (pv 3) rfl X_TooGreat.m) pa_nil))))))
        (pss_one (ps_set (i:=2) scLaw.nd rfl (Or.inl rfl) (pe_op op_cat (pv 2) (pe_lst (pa_cons (pe_isiC hin hc hd k.f k.i4 rfl T.isi (pv 3) rfl X_NotRead.m) (pa_cons (pe_isiT hin hc hd k.f k.i5 rfl T.isi (pv 3) rfl T.ve bt_ve) pa_nil)))))))⟩
    (w_one ⟨ps_ret (pe_cmpR op_eqLs (pv 2) (pe_op op_cat (pe_compG (N':=["k","mode"]) rfl O (pi_range1 rfl T.rng (pa_cons pe_int pa_nil)) (fun C s₀ H₀ ex pn xe=>pg_name (i:=0) (by show List.Nodup [Str.ofString "k",Str.ofString "mode"];decide +kernel) rfl (.inl rfl) (.inr rfl)) (fun _ _ _ _ _ _=>pifs_nil)
      (fun C s₀ H₀ ex pn xe=>pe_cmpR op_eq (pv 0) (pv 1) (nomark _))) (pe_lst (pa_cons pe_bl pa_nil))) (nomark _))⟩)))),?_⟩
  have hz:=sizeLine_eq
  refine ⟨_,rfl,a,ns,0,rfl,hS,by decide,fun i0 H1 s1=>⟨_,_,rfl,rfl,(by show (0:Int) < 5;decide),?_⟩⟩
  have m1:=mod_lt (i:=i0) (j:=5) (by decide)
  obtain ⟨m,hm⟩:∃ m:Int,m=i0 % 5:=⟨_,rfl⟩
  dsimp only
  rw [← hm]
  refine ⟨(by show 0≤sizeLine;decide),fun l0 nl0=>?_⟩
  have s2:=new_same nl0 (.lst [])
  have s12:=s1.trans s2
  refine ⟨_,rfl,_,rfl,a,ns,1,rfl,s12.seq hS,by decide,fun i1 H3 s3=>⟨_,_,rfl,rfl,(by show (0:Int) < 900;decide),?_⟩⟩
  refine ⟨_,rfl,a,ns,2,rfl,(s12.trans s3).seq hS,by decide,fun i2 H4 s4=>⟨_,_,rfl,rfl,⟨by decide,by decide,by decide⟩,_,_,rfl,rfl,(by show (0:Int) < 10 ^ 12;decide),?_⟩⟩
  have m2:=mod_lt (i:=i2) (j:=10 ^ 12) (by decide)
  refine ⟨m,_,_,rfl,by omega,by omega,m2.1,fun H5 s5=>?_⟩
  obtain ⟨ki,mr⟩:=hk m (by omega) (by omega)
  refine ⟨_,rfl,ki.f,mr,fun ea nea=>⟨m,ki,?_⟩⟩
  refine ⟨rfl,rfl,rfl,rfl,(by show 4≤sizeLine;decide),fun l1 nl1=>?_⟩
  refine ⟨_,rfl,rfl,rfl,(by show 2≤sizeLine;decide),fun l2 nl2=>?_⟩
  refine ⟨l1,l2,_,_,rfl,rfl,new_same nl2 _ _ _ upd_same,upd_same,(by show 4 + 2≤sizeLine;decide),fun l3 nl3=>?_⟩
  refine ⟨_,rfl,5,rfl,by omega,by decide,[none,some (.int m)],⟨rfl,?_⟩,fun D nD=>?_⟩
  · intro i x v e1 e2
    rcases i with _ | _ | i
    · cases e2
    · cases e1
      cases e2
      exact ⟨1,rfl,rfl,rfl,rfl⟩
    · cases e1
  refine comp_rngG (g:=fun i=>.bl (decide ((i:Int)=m))) (p:=fun _=>true) (by show 5 < sizeLine;omega) nD (fun i Hx R hi sx hR=>hR _ (Same.refl _)) (fun i Hx R hi _ sx hR=>?_) fun H6 s6 xD=>?_
  · refine ⟨_,rfl,_,rfl,rfl,?_⟩
    have e:decide (V.int (0 + (i:Int))=V.int m)=decide ((i:Int)=m):=decide_eq_decide.mpr ⟨fun y=>by have:=V.int.inj y;omega,fun y=>by rw [← y,Int.zero_add]⟩
    rw [e]
    exact hR Hx (Same.refl _)
  have xD:H6 D=some (.lst (bl5 m)):=xD
  have e3:H6 l3=some (.lst (bl5 m++[.bl true])):=s6 _ _ upd_same
  refine ⟨(by show 1≤sizeLine;decide),fun l4 nl4=>?_⟩
  have s7:=new_same nl4 (.lst [.bl true])
  refine ⟨D,l4,_,_,rfl,rfl,s7 _ _ xD,upd_same,(by show 5 + 1≤sizeLine;decide),fun l5 nl5=>?_⟩
  have s8:=new_same nl5 (.lst (bl5 m++[.bl true]))
  refine ⟨l3,l5,_,_,0,fun _=>true,rfl,rfl,.inl (.inl (s8 _ _ (s7 _ _ e3))),.inl (.inl upd_same),fun _=>items_self (bl5_sc m),hu1,?_⟩
  rw [show lstEq (bl5 m++[.bl true]) (bl5 m++[.bl true]) (fun _=>true)=true by unfold lstEq;simp]
  exact q _
end
end K01
end
namespace K01
open PySem PySem.Spec PyProof.Rows Tim L2 Wm
noncomputable def DefIn (K:PySem.W.Frag) (x:Str) (st:Stmt):Prop:=∃ (f:Addr) (oc:Value) (od an:Option Addr) (osl:Array (Option Value)) (kV doc pm cdv ct:Value),PySem.W.nsIn K mainGlobals x=some (some (.ref f))∧K.lookup f=some ⟨oc,od,.func (PySem.W.fnOf x x (defArgs st) (defBody st) (defScope st) .none kV doc pm an cdv ct),osl⟩∧PySem.W.codeIn K cdv x=true∧PySem.W.keepIn K (.ref f)=true
theorem dn {K:PySem.W.Frag} {x:Str} {st:Stmt} {f:Addr} {oc:Value} {od an:Option Addr} {osl:Array (Option Value)} {kV doc pm cdv ct:Value} (a:PySem.W.nsIn K mainGlobals x=some (some (.ref f))) (l:K.lookup f=some ⟨oc,od,.func (PySem.W.fnOf x x (defArgs st) (defBody st) (defScope st) .none kV doc pm an cdv ct),osl⟩) (c:PySem.W.codeIn K cdv x=true) (k:PySem.W.keepIn K (.ref f)=true):DefIn K x st:=⟨f,oc,od,an,osl,kV,doc,pm,cdv,ct,a,l,c,k⟩
theorem at_of {K:PySem.W.Frag} {mg:Str→Option Value} {h:Heap} {x:Str} {st:Stmt} {ps:List Str} (X:K.In h) (G:h.Ns mainGlobals mg) (d:DefIn K x st) (hb:∀ (kV doc pm:Value) (an:Option Addr) (cdv ct:Value) (us:List Value),us.length=ps.length→bindArgs (PySem.W.fnOf x x (defArgs st) (defBody st) (defScope st) .none kV doc pm an cdv ct) ⟨us,[]⟩=pure (ps.zip us)):∃ f fd,At K mg x st ps f fd:=by
  obtain ⟨f,oc,od,an,osl,kV,doc,pm,cdv,ct,a,l,c,k⟩:=d
  exact ⟨_,_,at_mk X G a l c k hb⟩
theorem sh {us:List Value} {n:Nat} (h:us.length=n + 1):∃ a t,us=a :: t∧t.length=n:=by
  cases us with
  | nil=>cases h
  | cons a t=>exact ⟨a,t,rfl,Nat.succ.inj h⟩
noncomputable def MethIn (K:PySem.W.Frag) (C:Addr) (x q:Str) (st:Stmt):Prop:=∃ (f:Addr) (oc:Value) (od an:Option Addr) (osl:Array (Option Value)) (kV doc pm cdv ct:Value),PySem.W.findIn K (.ref C) x=some (some (.ref f))∧PySem.W.isFn K (.ref f)=true∧K.lookup f=some ⟨oc,od,.func (PySem.W.fnOf x q (defArgs st) (defBody st) (defScope st) .none kV doc pm an cdv ct),osl⟩∧PySem.W.codeIn K cdv q=true∧PySem.W.keepIn K (.ref f)=true
theorem mn {K:PySem.W.Frag} {C:Addr} {x q:Str} {st:Stmt} {f:Addr} {oc:Value} {od an:Option Addr} {osl:Array (Option Value)} {kV doc pm cdv ct:Value} (a:PySem.W.findIn K (.ref C) x=some (some (.ref f))) (i:PySem.W.isFn K (.ref f)=true) (l:K.lookup f=some ⟨oc,od,.func (PySem.W.fnOf x q (defArgs st) (defBody st) (defScope st) .none kV doc pm an cdv ct),osl⟩) (c:PySem.W.codeIn K cdv q=true) (k:PySem.W.keepIn K (.ref f)=true):MethIn K C x q st:=⟨f,oc,od,an,osl,kV,doc,pm,cdv,ct,a,i,l,c,k⟩
theorem mat_of {K:PySem.W.Frag} {C:Addr} {x q:Str} {st:Stmt} {ps:List Str} (d:MethIn K C x q st) (hb:∀ (kV doc pm:Value) (an:Option Addr) (cdv ct:Value) (us:List Value),us.length=ps.length→bindArgs (PySem.W.fnOf x q (defArgs st) (defBody st) (defScope st) .none kV doc pm an cdv ct) ⟨us,[]⟩=pure (ps.zip us)):∃ f fd,MAt K C x q st ps f fd:=by
  obtain ⟨f,oc,od,an,osl,kV,doc,pm,cdv,ct,a,i,l,c,k⟩:=d
  exact ⟨f,_,fun_mk l c k,(fun_mk l c k).binds hb,a,i,k⟩
theorem ar1 {f:FuncData} {ps:List Str} (q:∀ a:Value,bindArgs f ⟨[a],[]⟩=pure (ps.zip [a])) {us:List Value} (h:us.length=1):bindArgs f ⟨us,[]⟩=pure (ps.zip us):=by
  obtain ⟨a,us0,rfl,h0⟩:=sh h
  cases List.length_eq_zero_iff.mp h0
  exact q a
theorem ar2 {f:FuncData} {ps:List Str} (q:∀ a b:Value,bindArgs f ⟨[a,b],[]⟩=pure (ps.zip [a,b])) {us:List Value} (h:us.length=2):bindArgs f ⟨us,[]⟩=pure (ps.zip us):=by
  obtain ⟨a,us0,rfl,h0⟩:=sh h
  obtain ⟨b,us1,rfl,h1⟩:=sh h0
  cases List.length_eq_zero_iff.mp h1
  exact q a b
theorem ar3 {f:FuncData} {ps:List Str} (q:∀ a b c:Value,bindArgs f ⟨[a,b,c],[]⟩=pure (ps.zip [a,b,c])) {us:List Value} (h:us.length=3):bindArgs f ⟨us,[]⟩=pure (ps.zip us):=by
  obtain ⟨a,us0,rfl,h0⟩:=sh h
  obtain ⟨b,us1,rfl,h1⟩:=sh h0
  obtain ⟨c,us2,rfl,h2⟩:=sh h1
  cases List.length_eq_zero_iff.mp h2
  exact q a b c
theorem ar4 {f:FuncData} {ps:List Str} (q:∀ a b c d:Value,bindArgs f ⟨[a,b,c,d],[]⟩=pure (ps.zip [a,b,c,d])) {us:List Value} (h:us.length=4):bindArgs f ⟨us,[]⟩=pure (ps.zip us):=by
  obtain ⟨a,us0,rfl,h0⟩:=sh h
  obtain ⟨b,us1,rfl,h1⟩:=sh h0
  obtain ⟨c,us2,rfl,h2⟩:=sh h1
  obtain ⟨d,us3,rfl,h3⟩:=sh h2
  cases List.length_eq_zero_iff.mp h3
  exact q a b c d
set_option maxHeartbeats 8000000 in
theorem all_mk {l:PySem.W.OpenLaw} {w:World} {K:PySem.W.Frag} {h:Heap} {mg:Str→Option Value} {fa:Addr} (X:K.In h) (G:h.Ns mainGlobals mg) (hfa:mg "law" = some (.ref fa))
    {C_TwistError C_NoWord C_NoNumber C_NoSum C_TooGreat C_NotRead:Addr}
    {t_GREATEST_WEIGHT:PySem.Tok}
    {t_MOST_FIGURES:PySem.Tok}
    {t_MOST_TUPLES:PySem.Tok}
    {t_LONGEST_LISTED:PySem.Tok}
    {t_LONGEST_COUNTED:PySem.Tok}
    {t_FIGURES:PySem.Tok}
    {a_LETTERS:Addr}
    (d3:DefIn K "weight" (top 3))
    (d4:DefIn K "length_first" (top 4))
    (d5:DefIn K "sum_counts" (top 5))
    (d6:DefIn K "bracket_counts" (top 6))
    (d7:DefIn K "twisted" (top 7))
    (d8:DefIn K "add_counts" (top 8))
    (d9:DefIn K "add_count" (top 9))
    (d10:DefIn K "without_noughts" (top 10))
    (d22:DefIn K "read" (top 22))
    (d27:DefIn K "is_plain" (top 27))
    (d28:DefIn K "cut" (top 28))
    (d29:DefIn K "plain_bracket" (top 29))
    (d30:DefIn K "refuse_unless_plain" (top 30))
    (d31:DefIn K "plain_words" (top 31))
    (d32:DefIn K "all_words" (top 32))
    (d33:DefIn K "how_many" (top 33))
    (d34:DefIn K "refuse_unless_within" (top 34))
    (d35:DefIn K "prime_sign" (top 35))
    (d36:DefIn K "power" (top 36))
    (d38:DefIn K "bracket_of" (top 38))
    (d39:DefIn K "put_in" (top 39))
    (d40:DefIn K "greatest_weight" (top 40))
    (d41:DefIn K "weight_put_in" (top 41))
    (d42:DefIn K "counts_put_in" (top 42))
    (d43:DefIn K "gathered" (top 43))
    (d44:DefIn K "plain_sum_of" (top 44))
    (d45:DefIn K "parts_by_letters" (top 45))
    (d46:DefIn K "plain_counts_of" (top 46))
    (d48:DefIn K "_law_stir" (top 48))
    (d49:DefIn K "_law_cell" (top 49))
    (d50:DefIn K "_law_no_word" (top 50))
    (d51:DefIn K "_law_too_great" (top 51))
    (d52:DefIn K "_law_done" (top 52))
    (d53:DefIn K "law" (top 53))
    (xa_TwistError:PySem.W.nsIn K mainGlobals "TwistError" = some (some (.ref C_TwistError))) (xb_TwistError:excKit K C_TwistError=true)
    (xa_NoWord:PySem.W.nsIn K mainGlobals "NoWord" = some (some (.ref C_NoWord))) (xb_NoWord:excKit K C_NoWord=true)
    (xa_NoNumber:PySem.W.nsIn K mainGlobals "NoNumber" = some (some (.ref C_NoNumber))) (xb_NoNumber:excKit K C_NoNumber=true)
    (xa_NoSum:PySem.W.nsIn K mainGlobals "NoSum" = some (some (.ref C_NoSum))) (xb_NoSum:excKit K C_NoSum=true)
    (xa_TooGreat:PySem.W.nsIn K mainGlobals "TooGreat" = some (some (.ref C_TooGreat))) (xb_TooGreat:excKit K C_TooGreat=true)
    (xa_NotRead:PySem.W.nsIn K mainGlobals "NotRead" = some (some (.ref C_NotRead))) (xb_NotRead:excKit K C_NotRead=true)
    (xm_NoWord:PySem.W.mroIn K C_NoWord (.ref C_TwistError)=some true)
    (xm_NoNumber:PySem.W.mroIn K C_NoNumber (.ref C_TwistError)=some true)
    (xm_NoSum:PySem.W.mroIn K C_NoSum (.ref C_TwistError)=some true)
    (xm_TooGreat:PySem.W.mroIn K C_TooGreat (.ref C_TwistError)=some true)
    (xm_NotRead:PySem.W.mroIn K C_NotRead (.ref C_TwistError)=some true)
    (xi_NoWord_NoWord:PySem.W.kitOne K (.ref C_NoWord) (.ref C_NoWord)=some true)
    (xi_NoWord_NoNumber:PySem.W.kitOne K (.ref C_NoWord) (.ref C_NoNumber)=some false)
    (xi_NoWord_NoSum:PySem.W.kitOne K (.ref C_NoWord) (.ref C_NoSum)=some false)
    (xi_NoWord_TooGreat:PySem.W.kitOne K (.ref C_NoWord) (.ref C_TooGreat)=some false)
    (xi_NoWord_NotRead:PySem.W.kitOne K (.ref C_NoWord) (.ref C_NotRead)=some false)
    (xi_NoWord_ValueError:PySem.W.kitOne K (.ref C_NoWord) (.type "ValueError")=some true)
    (xi_NoNumber_NoWord:PySem.W.kitOne K (.ref C_NoNumber) (.ref C_NoWord)=some false)
    (xi_NoNumber_NoNumber:PySem.W.kitOne K (.ref C_NoNumber) (.ref C_NoNumber)=some true)
    (xi_NoNumber_NoSum:PySem.W.kitOne K (.ref C_NoNumber) (.ref C_NoSum)=some false)
    (xi_NoNumber_TooGreat:PySem.W.kitOne K (.ref C_NoNumber) (.ref C_TooGreat)=some false)
    (xi_NoNumber_NotRead:PySem.W.kitOne K (.ref C_NoNumber) (.ref C_NotRead)=some false)
    (xi_NoNumber_ValueError:PySem.W.kitOne K (.ref C_NoNumber) (.type "ValueError")=some true)
    (xi_NoSum_NoWord:PySem.W.kitOne K (.ref C_NoSum) (.ref C_NoWord)=some false)
    (xi_NoSum_NoNumber:PySem.W.kitOne K (.ref C_NoSum) (.ref C_NoNumber)=some false)
    (xi_NoSum_NoSum:PySem.W.kitOne K (.ref C_NoSum) (.ref C_NoSum)=some true)
    (xi_NoSum_TooGreat:PySem.W.kitOne K (.ref C_NoSum) (.ref C_TooGreat)=some false)
    (xi_NoSum_NotRead:PySem.W.kitOne K (.ref C_NoSum) (.ref C_NotRead)=some false)
    (xi_NoSum_ValueError:PySem.W.kitOne K (.ref C_NoSum) (.type "ValueError")=some true)
    (xi_TooGreat_NoWord:PySem.W.kitOne K (.ref C_TooGreat) (.ref C_NoWord)=some false)
    (xi_TooGreat_NoNumber:PySem.W.kitOne K (.ref C_TooGreat) (.ref C_NoNumber)=some false)
    (xi_TooGreat_NoSum:PySem.W.kitOne K (.ref C_TooGreat) (.ref C_NoSum)=some false)
    (xi_TooGreat_TooGreat:PySem.W.kitOne K (.ref C_TooGreat) (.ref C_TooGreat)=some true)
    (xi_TooGreat_NotRead:PySem.W.kitOne K (.ref C_TooGreat) (.ref C_NotRead)=some false)
    (xi_TooGreat_ValueError:PySem.W.kitOne K (.ref C_TooGreat) (.type "ValueError")=some true)
    (xi_NotRead_NoWord:PySem.W.kitOne K (.ref C_NotRead) (.ref C_NoWord)=some false)
    (xi_NotRead_NoNumber:PySem.W.kitOne K (.ref C_NotRead) (.ref C_NoNumber)=some false)
    (xi_NotRead_NoSum:PySem.W.kitOne K (.ref C_NotRead) (.ref C_NoSum)=some false)
    (xi_NotRead_TooGreat:PySem.W.kitOne K (.ref C_NotRead) (.ref C_TooGreat)=some false)
    (xi_NotRead_NotRead:PySem.W.kitOne K (.ref C_NotRead) (.ref C_NotRead)=some true)
    (xi_NotRead_ValueError:PySem.W.kitOne K (.ref C_NotRead) (.type "ValueError")=some true)
    (y_GREATEST_WEIGHT:PySem.W.nsIn K mainGlobals "GREATEST_WEIGHT" = some (some (.int 8 t_GREATEST_WEIGHT)))
    (y_MOST_FIGURES:PySem.W.nsIn K mainGlobals "MOST_FIGURES" = some (some (.int 30 t_MOST_FIGURES)))
    (y_MOST_TUPLES:PySem.W.nsIn K mainGlobals "MOST_TUPLES" = some (some (.int 12 t_MOST_TUPLES)))
    (y_LONGEST_LISTED:PySem.W.nsIn K mainGlobals "LONGEST_LISTED" = some (some (.int 8 t_LONGEST_LISTED)))
    (y_LONGEST_COUNTED:PySem.W.nsIn K mainGlobals "LONGEST_COUNTED" = some (some (.int 60 t_LONGEST_COUNTED)))
    (y_FIGURES:PySem.W.nsIn K mainGlobals "FIGURES" = some (some (.str (Str.ofString "0123456789") t_FIGURES)))
    (y_LETTERS:PySem.W.nsIn K mainGlobals "LETTERS" = some (some (.ref a_LETTERS))) (yt_LETTERS:tupKit K a_LETTERS [Str.ofString "a",Str.ofString "b",Str.ofString "c"]=true)
    {C:Addr} (aC:PySem.W.nsIn K mainGlobals "Reader" = some (some (.ref C))) (pg:PySem.W.plainGet K C Str.empty=true) (hd:PySem.W.hasDictIn K C=true) (po:PySem.W.plainOver K C=true) (sa:PySem.W.findIn K (.ref C) "__setattr__" = some (some (.builtin "object.__setattr__"))) (mk:PySem.W.makesIn K C=true) (kc:PySem.W.keepIn K (.ref C)=true)
    (no_text:PySem.W.findIn K (.ref C) "text" = some none)
    (no_place:PySem.W.findIn K (.ref C) "place" = some none)
    (mm___init__:MethIn K C "__init__" "Reader.__init__" (rm 0))
    (mm_at_end:MethIn K C "at_end" "Reader.at_end" (rm 1))
    (mm_sign_here:MethIn K C "sign_here" "Reader.sign_here" (rm 2))
    (mm_take:MethIn K C "take" "Reader.take" (rm 3))
    (mm_take_wanted:MethIn K C "take_wanted" "Reader.take_wanted" (rm 4))
    (mm_take_tuple:MethIn K C "take_tuple" "Reader.take_tuple" (rm 5))
    (mm_take_count:MethIn K C "take_count" "Reader.take_count" (rm 6))
    (mm_take_figures:MethIn K C "take_figures" "Reader.take_figures" (rm 7))
    (mm_take_bracket:MethIn K C "take_bracket" "Reader.take_bracket" (rm 8))
    (z_isi:PySem.W.nsIn K mainGlobals "isinstance" = some none)
    (z_str:PySem.W.nsIn K mainGlobals "str" = some none)
    (z_len:PySem.W.nsIn K mainGlobals "len" = some none)
    (z_lst:PySem.W.nsIn K mainGlobals "list" = some none)
    (z_tup:PySem.W.nsIn K mainGlobals "tuple" = some none)
    (z_int:PySem.W.nsIn K mainGlobals "int" = some none)
    (z_bool:PySem.W.nsIn K mainGlobals "bool" = some none)
    (z_srt:PySem.W.nsIn K mainGlobals "sorted" = some none)
    (z_rng:PySem.W.nsIn K mainGlobals "range" = some none)
    (z_zip:PySem.W.nsIn K mainGlobals "zip" = some none)
    (z_all:PySem.W.nsIn K mainGlobals "all" = some none)
    (z_min:PySem.W.nsIn K mainGlobals "min" = some none)
    (z_max:PySem.W.nsIn K mainGlobals "max" = some none)
    (z_dict:PySem.W.nsIn K mainGlobals "dict" = some none)
    (z_abs:PySem.W.nsIn K mainGlobals "abs" = some none)
    (z_sum:PySem.W.nsIn K mainGlobals "sum" = some none)
    (z_set:PySem.W.nsIn K mainGlobals "set" = some none)
    (z_enm:PySem.W.nsIn K mainGlobals "enumerate" = some none)
    (z_rev:PySem.W.nsIn K mainGlobals "reversed" = some none)
    (z_ve:PySem.W.nsIn K mainGlobals "ValueError" = some none)
    : ∃ fd:FuncData,(∀ (s:Shared) (v:Value),BindsTo s fd ⟨[v],[]⟩ [("script",v)])∧∀ base:Heap,K.In base→base.Ns mainGlobals mg→FnOk l.prog w K mg base CX0 22 fa fd ["script"] (spLaw K):=by
  obtain ⟨f,oc,od,an,osl,kV,doc,pm,cdv,ct,a,l,c,k⟩:=d53
  have e:=hfa.symm.trans (PySem.W.mg_of X G a)
  cases e
  have B:Blt mg:=⟨PySem.W.mg_none_of X G z_isi,PySem.W.mg_none_of X G z_str,PySem.W.mg_none_of X G z_len,PySem.W.mg_none_of X G z_lst,PySem.W.mg_none_of X G z_tup,PySem.W.mg_none_of X G z_int,PySem.W.mg_none_of X G z_bool,PySem.W.mg_none_of X G z_srt,PySem.W.mg_none_of X G z_rng,PySem.W.mg_none_of X G z_zip,PySem.W.mg_none_of X G z_all,PySem.W.mg_none_of X G z_min,PySem.W.mg_none_of X G z_max,PySem.W.mg_none_of X G z_dict,PySem.W.mg_none_of X G z_abs,PySem.W.mg_none_of X G z_sum,PySem.W.mg_none_of X G z_set,PySem.W.mg_none_of X G z_enm,PySem.W.mg_none_of X G z_rev,PySem.W.mg_none_of X G z_ve⟩
  obtain ⟨f___init__,fd___init__,M___init__⟩:=mat_of (ps:=["self","text"]) mm___init__ (fun _ _ _ _ _ _ _ hl=>ar2 (fun _ _=>rfl) hl)
  obtain ⟨f_at_end,fd_at_end,M_at_end⟩:=mat_of (ps:=["self"]) mm_at_end (fun _ _ _ _ _ _ _ hl=>ar1 (fun _=>rfl) hl)
  obtain ⟨f_sign_here,fd_sign_here,M_sign_here⟩:=mat_of (ps:=["self"]) mm_sign_here (fun _ _ _ _ _ _ _ hl=>ar1 (fun _=>rfl) hl)
  obtain ⟨f_take,fd_take,M_take⟩:=mat_of (ps:=["self"]) mm_take (fun _ _ _ _ _ _ _ hl=>ar1 (fun _=>rfl) hl)
  obtain ⟨f_take_wanted,fd_take_wanted,M_take_wanted⟩:=mat_of (ps:=["self","wanted"]) mm_take_wanted (fun _ _ _ _ _ _ _ hl=>ar2 (fun _ _=>rfl) hl)
  obtain ⟨f_take_tuple,fd_take_tuple,M_take_tuple⟩:=mat_of (ps:=["self"]) mm_take_tuple (fun _ _ _ _ _ _ _ hl=>ar1 (fun _=>rfl) hl)
  obtain ⟨f_take_count,fd_take_count,M_take_count⟩:=mat_of (ps:=["self"]) mm_take_count (fun _ _ _ _ _ _ _ hl=>ar1 (fun _=>rfl) hl)
  obtain ⟨f_take_figures,fd_take_figures,M_take_figures⟩:=mat_of (ps:=["self"]) mm_take_figures (fun _ _ _ _ _ _ _ hl=>ar1 (fun _=>rfl) hl)
  obtain ⟨f_take_bracket,fd_take_bracket,M_take_bracket⟩:=mat_of (ps:=["self","depth"]) mm_take_bracket (fun _ _ _ _ _ _ _ hl=>ar2 (fun _ _=>rfl) hl)
  have Z:Defs K mg:=⟨B,at_of X G d3 (fun _ _ _ _ _ _ _ hl=>ar1 (fun _=>rfl) hl),at_of X G d4 (fun _ _ _ _ _ _ _ hl=>ar1 (fun _=>rfl) hl),at_of X G d5 (fun _ _ _ _ _ _ _ hl=>ar1 (fun _=>rfl) hl),at_of X G d6 (fun _ _ _ _ _ _ _ hl=>ar1 (fun _=>rfl) hl),at_of X G d7 (fun _ _ _ _ _ _ _ hl=>ar2 (fun _ _=>rfl) hl),at_of X G d8 (fun _ _ _ _ _ _ _ hl=>ar3 (fun _ _ _=>rfl) hl),at_of X G d9 (fun _ _ _ _ _ _ _ hl=>ar3 (fun _ _ _=>rfl) hl),at_of X G d10 (fun _ _ _ _ _ _ _ hl=>ar1 (fun _=>rfl) hl),at_of X G d22 (fun _ _ _ _ _ _ _ hl=>ar1 (fun _=>rfl) hl),at_of X G d27 (fun _ _ _ _ _ _ _ hl=>ar1 (fun _=>rfl) hl),at_of X G d28 (fun _ _ _ _ _ _ _ hl=>ar1 (fun _=>rfl) hl),at_of X G d29 (fun _ _ _ _ _ _ _ hl=>ar1 (fun _=>rfl) hl),at_of X G d30 (fun _ _ _ _ _ _ _ hl=>ar1 (fun _=>rfl) hl),at_of X G d31 (fun _ _ _ _ _ _ _ hl=>ar2 (fun _ _=>rfl) hl),at_of X G d32 (fun _ _ _ _ _ _ _ hl=>ar2 (fun _ _=>rfl) hl),at_of X G d33 (fun _ _ _ _ _ _ _ hl=>ar2 (fun _ _=>rfl) hl),at_of X G d34 (fun _ _ _ _ _ _ _ hl=>ar3 (fun _ _ _=>rfl) hl),at_of X G d35 (fun _ _ _ _ _ _ _ hl=>ar1 (fun _=>rfl) hl),at_of X G d36 (fun _ _ _ _ _ _ _ hl=>ar2 (fun _ _=>rfl) hl),at_of X G d38 (fun _ _ _ _ _ _ _ hl=>ar2 (fun _ _=>rfl) hl),at_of X G d39 (fun _ _ _ _ _ _ _ hl=>ar4 (fun _ _ _ _=>rfl) hl),at_of X G d40 (fun _ _ _ _ _ _ _ hl=>ar1 (fun _=>rfl) hl),at_of X G d41 (fun _ _ _ _ _ _ _ hl=>ar2 (fun _ _=>rfl) hl),at_of X G d42 (fun _ _ _ _ _ _ _ hl=>ar2 (fun _ _=>rfl) hl),at_of X G d43 (fun _ _ _ _ _ _ _ hl=>ar1 (fun _=>rfl) hl),at_of X G d44 (fun _ _ _ _ _ _ _ hl=>ar1 (fun _=>rfl) hl),at_of X G d45 (fun _ _ _ _ _ _ _ hl=>ar1 (fun _=>rfl) hl),at_of X G d46 (fun _ _ _ _ _ _ _ hl=>ar1 (fun _=>rfl) hl),at_of X G d48 (fun _ _ _ _ _ _ _ hl=>ar1 (fun _=>rfl) hl),at_of X G d49 (fun _ _ _ _ _ _ _ hl=>ar2 (fun _ _=>rfl) hl),at_of X G d50 (fun _ _ _ _ _ _ _ hl=>ar1 (fun _=>rfl) hl),at_of X G d51 (fun _ _ _ _ _ _ _ hl=>ar1 (fun _=>rfl) hl),at_of X G d52 (fun _ _ _ _ _ _ _ hl=>ar3 (fun _ _ _=>rfl) hl),⟨C_TwistError,C_NoWord,C_NoNumber,C_NoSum,C_TooGreat,C_NotRead,excAt_mk X G xa_TwistError xb_TwistError,excAt_mk X G xa_NoWord xb_NoWord,excAt_mk X G xa_NoNumber xb_NoNumber,excAt_mk X G xa_NoSum xb_NoSum,excAt_mk X G xa_TooGreat xb_TooGreat,excAt_mk X G xa_NotRead xb_NotRead,xm_NoWord,xm_NoNumber,xm_NoSum,xm_TooGreat,xm_NotRead,xi_NoWord_NoWord,xi_NoWord_NoNumber,xi_NoWord_NoSum,xi_NoWord_TooGreat,xi_NoWord_NotRead,xi_NoWord_ValueError,xi_NoNumber_NoWord,xi_NoNumber_NoNumber,xi_NoNumber_NoSum,xi_NoNumber_TooGreat,xi_NoNumber_NotRead,xi_NoNumber_ValueError,xi_NoSum_NoWord,xi_NoSum_NoNumber,xi_NoSum_NoSum,xi_NoSum_TooGreat,xi_NoSum_NotRead,xi_NoSum_ValueError,xi_TooGreat_NoWord,xi_TooGreat_NoNumber,xi_TooGreat_NoSum,xi_TooGreat_TooGreat,xi_TooGreat_NotRead,xi_TooGreat_ValueError,xi_NotRead_NoWord,xi_NotRead_NoNumber,xi_NotRead_NoSum,xi_NotRead_TooGreat,xi_NotRead_NotRead,xi_NotRead_ValueError⟩,⟨_,PySem.W.mg_of X G y_GREATEST_WEIGHT⟩,⟨_,PySem.W.mg_of X G y_MOST_FIGURES⟩,⟨_,PySem.W.mg_of X G y_MOST_TUPLES⟩,⟨_,PySem.W.mg_of X G y_LONGEST_LISTED⟩,⟨_,PySem.W.mg_of X G y_LONGEST_COUNTED⟩,⟨_,PySem.W.mg_of X G y_FIGURES⟩,⟨_,PySem.W.mg_of X G y_LETTERS,tupK_mk yt_LETTERS⟩,⟨C,f___init__,fd___init__,f_at_end,fd_at_end,f_sign_here,fd_sign_here,f_take,fd_take,f_take_wanted,fd_take_wanted,f_take_tuple,fd_take_tuple,f_take_count,fd_take_count,f_take_figures,fd_take_figures,f_take_bracket,fd_take_bracket,⟨⟨pg,hd,po,sa⟩,no_text,no_place⟩,PySem.W.mg_of X G aC,⟨mk,M___init__.m.at_,M___init__.m.fn,kc⟩,M___init__.fn,M___init__.b,M_at_end,M_sign_here,M_take,M_take_wanted,M_take_tuple,M_take_count,M_take_figures,M_take_bracket⟩⟩
  have hb:∀ (kV doc pm:Value) (an:Option Addr) (cdv ct:Value) (us:List Value),us.length=(["script"]:List Str).length→bindArgs (PySem.W.fnOf "law" "law" (defArgs (top 53)) (defBody (top 53)) (defScope (top 53)) .none kV doc pm an cdv ct) ⟨us,[]⟩=pure ((["script"]:List Str).zip us):=fun _ _ _ _ _ _ _ hl=>ar1 (fun _=>rfl) hl
  exact ⟨_,fun s v=>.of_eq (hb _ _ _ _ _ _ [v] rfl),fun base _ _=>ok_law Z (at_mk X G a l c k hb)⟩
theorem walk {l:PySem.W.OpenLaw} {q:Program} {loose:List Str} {XP:(Str→Option Value)→Heap→Prop} {YP:World→Heap→Prop} {d:DefRec} {K:Params→PySem.W.Frag} (hn:l.most=some 63) (hdf:d.params.defaults=[])
    (hY:∀ (w:World) (h:Heap),YP w h→(K w.params).In h)
    (F:∀ (w:World) (mg:Str→Option Value) (fa:Addr) (h:Heap),(K w.params).In h→h.Ns mainGlobals mg→mg d.name=some (.ref fa) →
      ∃ fd:FuncData,(∀ (s:Shared) (u:Value),BindsTo s fd ⟨[u],[]⟩ [("script",u)])∧∀ base:Heap,(K w.params).In base→base.Ns mainGlobals mg→FnOk l.prog w (K w.params) mg base CX0 22 fa fd ["script"] (spLaw (K w.params))) :
    PySem.W.WalkO q loose XP YP l.row.toRowW d [] (fun f vs=>PySem.call f vs) :=
  L2.walk_of (n:=63) (k:=22) (x:="script") (CX:=fun _=>CX0) (sp:=fun w=>spLaw (K w.params)) hn (by decide) hdf ⟨rfl,by decide,by decide⟩ hY F (fun _ _ a ns hl _ hS=>⟨a,ns,rfl,hS,hl,fun _=>rfl⟩) fun _ _ _ _ _ z=>z
end K01
theorem PySem.W.Fast.tw12862010749387852626 : True := trivial
theorem PySem.W.Fast.tw6128295726676906727 : True := trivial
theorem PySem.W.Fast.tw14714471510495155878 : True := trivial
theorem PySem.W.Fast.tw1108274228663607735 : True := trivial
theorem PySem.W.Fast.tw15191049697834084930 : True := trivial
theorem PySem.W.Fast.tw10824778775544071112 : True := trivial
theorem PySem.W.Fast.tw3150285341230285900 : True := trivial
theorem PySem.W.Fast.tw4499765175961739429 : True := trivial
theorem PySem.W.Fast.tw8823224114882764565 : True := trivial
theorem PySem.W.Fast.tw5642664057246992202 : True := trivial
theorem PySem.W.Fast.tw2806890580204207860 : True := trivial
theorem PySem.W.Fast.tw13146210947622546308 : True := trivial
theorem PySem.W.Fast.tw7144710757390864785 : True := trivial
theorem PySem.W.Fast.tw908740722562213211 : True := trivial
theorem PySem.W.Fast.tw536373710446643810 : True := trivial
theorem PySem.W.Fast.tw13825830037205207670 : True := trivial
theorem PySem.W.Fast.tw14297350683715589559 : True := trivial
theorem PySem.W.Fast.tw17423276474003715750 : True := trivial
theorem PySem.W.Fast.tw3106336181226981360 : True := trivial
theorem PySem.W.Fast.tw12127557232491280134 : True := trivial
theorem PySem.W.Fast.tw18044544158493669259 : True := trivial
theorem PySem.W.Fast.tw8065980506436899241 : True := trivial
theorem PySem.W.Fast.tw5571800593558977477 : True := trivial
theorem PySem.W.Fast.tw2949451732286813042 : True := trivial
theorem PySem.W.Fast.tw4766638366668641607 : True := trivial
theorem PySem.W.Fast.tw11035623789674602462 : True := trivial
theorem PySem.W.Fast.tw12085923208201488242 : True := trivial
theorem PySem.W.Fast.tw13074664252553351307 : True := trivial
theorem PySem.W.Fast.tw9130220795243150501 : True := trivial
theorem PySem.W.Fast.tw12634038989114338733 : True := trivial
theorem PySem.W.Fast.tw1777215608407689293 : True := trivial
theorem PySem.W.Fast.tw12356852646781901618 : True := trivial
theorem PySem.W.Fast.tw5776359570707222215 : True := trivial
theorem PySem.W.Fast.tw11718042579601865175 : True := trivial
theorem PySem.W.Fast.tw734355506830055923 : True := trivial
theorem PySem.W.Fast.tw4655568714604542140 : True := trivial
theorem PySem.W.Fast.tw13115993727950701319 : True := trivial
theorem PySem.W.Fast.tw13485911636556753142 : True := trivial
theorem PySem.W.Fast.tw4203753222321690379 : True := trivial
theorem PySem.W.Fast.tw8724877626634104693 : True := trivial
theorem PySem.W.Fast.tw11896930475296965114 : True := trivial
theorem PySem.W.Fast.tw4142346556791514619 : True := trivial
theorem PySem.W.Fast.tw5022316474021688134 : True := trivial
theorem PySem.W.Fast.tw2688505389449411359 : True := trivial
theorem PySem.W.Fast.tw10049880365238181485 : True := trivial
theorem PySem.W.Fast.tw12294777537521112063 : True := trivial
theorem PySem.W.Fast.tw14055169428639566687 : True := trivial
theorem PySem.W.Fast.tw1274989135221366311 : True := trivial
theorem PySem.W.Fast.tw8241669942377957809 : True := trivial
theorem PySem.W.Fast.tw5156860360105508377 : True := trivial
theorem PySem.W.Fast.tw10065544987420654255 : True := trivial
theorem PySem.W.Fast.tw5272412159042408116 : True := trivial
theorem PySem.W.Fast.tw15981031838559296510 : True := trivial
theorem PySem.W.Fast.tw8639126766429281096 : True := trivial
theorem PySem.W.Fast.tw5307321189617568204 : True := trivial
theorem PySem.W.Fast.tw13504215292043885306 : True := trivial
theorem PySem.W.Fast.tw11587015116956494507 : True := trivial
theorem PySem.W.Fast.tw6504033427064334165 : True := trivial
theorem PySem.W.Fast.tw1992502844783807161 : True := trivial
theorem PySem.W.Fast.tw17671026704792771748 : True := trivial
theorem PySem.W.Fast.tw8059226358321574835 : True := trivial
theorem PySem.W.Fast.tw16849273406937634905 : True := trivial
theorem PySem.W.Fast.tw16794828533624659072 : True := trivial
theorem PySem.W.Fast.tw13087898413218946968 : True := trivial
theorem PySem.W.Fast.tw11130774574056631974 : True := trivial
theorem PySem.W.Fast.tw13809145862607104297 : True := trivial
theorem PySem.W.Fast.tw18418305106966926130 : True := trivial
theorem PySem.W.Fast.tw4625925828497826232 : True := trivial
theorem PySem.W.Fast.tw3925087974060188707 : True := trivial
theorem PySem.W.Fast.tw15265198476621044855 : True := trivial
theorem PySem.W.Fast.tw15947056457479390050 : True := trivial
theorem PySem.W.Fast.tw12793631195697763244 : True := trivial
theorem PySem.W.Fast.tw3059078316183621403 : True := trivial
theorem PySem.W.Fast.tw15818789316886336793 : True := trivial
theorem PySem.W.Fast.tw5373121846557766331 : True := trivial
theorem PySem.W.Fast.tw14091184852462169764 : True := trivial
theorem PySem.W.Fast.tw14617927691512279264 : True := trivial
theorem PySem.W.Fast.tw5066842515917430652 : True := trivial
theorem PySem.W.Fast.tw9381346728863774567 : True := trivial
theorem PySem.W.Fast.tw4521011798750218752 : True := trivial
theorem PySem.W.Fast.tw16644942801009742795 : True := trivial
theorem PySem.W.Fast.tw10535450667175688963 : True := trivial
theorem PySem.W.Fast.tw12567137462845610582 : True := trivial
theorem PySem.W.Fast.tw2204714977177011811 : True := trivial
theorem PySem.W.Fast.tw3685089747428509011 : True := trivial
theorem PySem.W.Fast.tw7883629534525781864 : True := trivial
theorem PySem.W.Fast.tw12979313424693692657 : True := trivial
theorem PySem.W.Fast.tw8159199876496907367 : True := trivial
theorem PySem.W.Fast.tw31205883833705304 : True := trivial
theorem PySem.W.Fast.tw9944913203757032803 : True := trivial
theorem PySem.W.Fast.tw17555981305035000302 : True := trivial
theorem PySem.W.Fast.tw1125717842010325879 : True := trivial
theorem PySem.W.Fast.tw13092958706958750723 : True := trivial
theorem PySem.W.Fast.tw14147041328977211563 : True := trivial
theorem PySem.W.Fast.tw2583736746942609676 : True := trivial
theorem PySem.W.Fast.tw6707493717433194572 : True := trivial
theorem PySem.W.Fast.tw431689132477394130 : True := trivial
theorem PySem.W.Fast.tw7682030787201985602 : True := trivial
theorem PySem.W.Fast.tw16219289785327773900 : True := trivial
theorem PySem.W.Fast.tw2495529486643841746 : True := trivial
theorem PySem.W.Fast.tw18437471608297264283 : True := trivial
theorem PySem.W.Fast.tw18016741205666478732 : True := trivial
theorem PySem.W.Fast.tw16276557641267921414 : True := trivial
theorem PySem.W.Fast.tw6356897406376303338 : True := trivial
theorem PySem.W.Fast.tw1779348412947402776 : True := trivial
theorem PySem.W.Fast.tw8801156670149587649 : True := trivial
theorem PySem.W.Fast.tw3417391030555887644 : True := trivial
theorem PySem.W.Fast.tw6647277138865917363 : True := trivial
theorem PySem.W.Fast.tw596376210730740490 : True := trivial
theorem PySem.W.Fast.tw2183592817371225556 : True := trivial
theorem PySem.W.Fast.tw3290488464992302619 : True := trivial
theorem PySem.W.Fast.tw2094808188352644113 : True := trivial
theorem PySem.W.Fast.tw16126945384380122383 : True := trivial
theorem PySem.W.Fast.tw13761660907077454576 : True := trivial
theorem PySem.W.Fast.tw4726464182907694108 : True := trivial
theorem PySem.W.Fast.tw876062337223846629 : True := trivial
theorem PySem.W.Fast.tw16220739907644805427 : True := trivial
theorem PySem.W.Fast.tw2854169439882271871 : True := trivial
open PySem PySem.W PyProof.Rows
set_option maxRecDepth 100000 in
set_option maxHeartbeats 0 in
theorem PySem.Challenge.cw_twistbrackets_k15_each_refusal_its_own_holds : PySem.Challenge.rw_twistbrackets_k15_each_refusal_its_own.Holds := by
  w_on;o_law;k_head;(case hw=>w_witness2)
  k_fill
  refine K01.walk (l:=PySem.Challenge.rw_twistbrackets_k15_each_refusal_its_own) rfl rfl (fun w h Y=>PySem.W.kIn_of Y) ?F
  case F =>
    intro w mg fa h KX G hmg
    refine' K01.all_mk KX G hmg ?_ ?_ ?_ ?_ ?_ ?_ ?_ ?_ ?_ ?_ ?_ ?_ ?_ ?_ ?_ ?_ ?_ ?_ ?_ ?_ ?_ ?_ ?_ ?_ ?_ ?_ ?_ ?_ ?_ ?_ ?_ ?_ ?_ ?_ ?xa_TwistError ?xb_TwistError ?xa_NoWord ?xb_NoWord ?xa_NoNumber ?xb_NoNumber ?xa_NoSum ?xb_NoSum ?xa_TooGreat ?xb_TooGreat ?xa_NotRead ?xb_NotRead ?xm_NoWord ?xm_NoNumber ?xm_NoSum ?xm_TooGreat ?xm_NotRead ?xi_NoWord_NoWord ?xi_NoWord_NoNumber ?xi_NoWord_NoSum ?xi_NoWord_TooGreat ?xi_NoWord_NotRead ?xi_NoWord_ValueError ?xi_NoNumber_NoWord ?xi_NoNumber_NoNumber ?xi_NoNumber_NoSum ?xi_NoNumber_TooGreat ?xi_NoNumber_NotRead ?xi_NoNumber_ValueError ?xi_NoSum_NoWord ?xi_NoSum_NoNumber ?xi_NoSum_NoSum ?xi_NoSum_TooGreat ?xi_NoSum_NotRead ?xi_NoSum_ValueError ?xi_TooGreat_NoWord ?xi_TooGreat_NoNumber ?xi_TooGreat_NoSum ?xi_TooGreat_TooGreat ?xi_TooGreat_NotRead ?xi_TooGreat_ValueError ?xi_NotRead_NoWord ?xi_NotRead_NoNumber ?xi_NotRead_NoSum ?xi_NotRead_TooGreat ?xi_NotRead_NotRead ?xi_NotRead_ValueError ?y_GREATEST_WEIGHT ?y_MOST_FIGURES ?y_MOST_TUPLES ?y_LONGEST_LISTED ?y_LONGEST_COUNTED ?y_FIGURES ?y_LETTERS ?yt_LETTERS ?aC ?pg ?hd ?po ?sa ?mk ?kc ?no_text ?no_place ?mm___init__ ?mm_at_end ?mm_sign_here ?mm_take ?mm_take_wanted ?mm_take_tuple ?mm_take_count ?mm_take_figures ?mm_take_bracket ?z_isi ?z_str ?z_len ?z_lst ?z_tup ?z_int ?z_bool ?z_srt ?z_rng ?z_zip ?z_all ?z_min ?z_max ?z_dict ?z_abs ?z_sum ?z_set ?z_enm ?z_rev ?z_ve
    all_goals try (refine' K01.dn ?a ?l ?c ?k;(case a=>k_is);(case l=>k_is);(case c=>k_is);(case k=>k_is))
    (case xa_TwistError=>k_is)
    (case xb_TwistError=>kernel_rfl)
    (case xa_NoWord=>k_is)
    (case xb_NoWord=>kernel_rfl)
    (case xa_NoNumber=>k_is)
    (case xb_NoNumber=>kernel_rfl)
    (case xa_NoSum=>k_is)
    (case xb_NoSum=>kernel_rfl)
    (case xa_TooGreat=>k_is)
    (case xb_TooGreat=>kernel_rfl)
    (case xa_NotRead=>k_is)
    (case xb_NotRead=>kernel_rfl)
    (case xm_NoWord=>k_is)
    (case xm_NoNumber=>k_is)
    (case xm_NoSum=>k_is)
    (case xm_TooGreat=>k_is)
    (case xm_NotRead=>k_is)
    (case xi_NoWord_NoWord=>kit_is)
    (case xi_NoWord_NoNumber=>kit_is)
    (case xi_NoWord_NoSum=>kit_is)
    (case xi_NoWord_TooGreat=>kit_is)
    (case xi_NoWord_NotRead=>kit_is)
    (case xi_NoWord_ValueError=>kit_is)
    (case xi_NoNumber_NoWord=>kit_is)
    (case xi_NoNumber_NoNumber=>kit_is)
    (case xi_NoNumber_NoSum=>kit_is)
    (case xi_NoNumber_TooGreat=>kit_is)
    (case xi_NoNumber_NotRead=>kit_is)
    (case xi_NoNumber_ValueError=>kit_is)
    (case xi_NoSum_NoWord=>kit_is)
    (case xi_NoSum_NoNumber=>kit_is)
    (case xi_NoSum_NoSum=>kit_is)
    (case xi_NoSum_TooGreat=>kit_is)
    (case xi_NoSum_NotRead=>kit_is)
    (case xi_NoSum_ValueError=>kit_is)
    (case xi_TooGreat_NoWord=>kit_is)
    (case xi_TooGreat_NoNumber=>kit_is)
    (case xi_TooGreat_NoSum=>kit_is)
    (case xi_TooGreat_TooGreat=>kit_is)
    (case xi_TooGreat_NotRead=>kit_is)
    (case xi_TooGreat_ValueError=>kit_is)
    (case xi_NotRead_NoWord=>kit_is)
    (case xi_NotRead_NoNumber=>kit_is)
    (case xi_NotRead_NoSum=>kit_is)
    (case xi_NotRead_TooGreat=>kit_is)
    (case xi_NotRead_NotRead=>kit_is)
    (case xi_NotRead_ValueError=>kit_is)
    (case y_GREATEST_WEIGHT=>k_is)
    (case y_MOST_FIGURES=>k_is)
    (case y_MOST_TUPLES=>k_is)
    (case y_LONGEST_LISTED=>k_is)
    (case y_LONGEST_COUNTED=>k_is)
    (case y_FIGURES=>k_is)
    (case y_LETTERS=>k_is)
    (case yt_LETTERS=>kernel_rfl)
    (case aC=>k_is)
    (case pg=>k_is)
    (case hd=>k_is)
    (case po=>k_is)
    (case sa=>k_is)
    (case mk=>k_is)
    (case kc=>k_is)
    (case no_text=>k_is)
    (case no_place=>k_is)
    (case mm___init__=>(refine' K01.mn ?a ?i ?l ?c ?k;(case a=>k_is);(case i=>k_is);(case l=>k_is);(case c=>k_is);(case k=>k_is)))
    (case mm_at_end=>(refine' K01.mn ?a ?i ?l ?c ?k;(case a=>k_is);(case i=>k_is);(case l=>k_is);(case c=>k_is);(case k=>k_is)))
    (case mm_sign_here=>(refine' K01.mn ?a ?i ?l ?c ?k;(case a=>k_is);(case i=>k_is);(case l=>k_is);(case c=>k_is);(case k=>k_is)))
    (case mm_take=>(refine' K01.mn ?a ?i ?l ?c ?k;(case a=>k_is);(case i=>k_is);(case l=>k_is);(case c=>k_is);(case k=>k_is)))
    (case mm_take_wanted=>(refine' K01.mn ?a ?i ?l ?c ?k;(case a=>k_is);(case i=>k_is);(case l=>k_is);(case c=>k_is);(case k=>k_is)))
    (case mm_take_tuple=>(refine' K01.mn ?a ?i ?l ?c ?k;(case a=>k_is);(case i=>k_is);(case l=>k_is);(case c=>k_is);(case k=>k_is)))
    (case mm_take_count=>(refine' K01.mn ?a ?i ?l ?c ?k;(case a=>k_is);(case i=>k_is);(case l=>k_is);(case c=>k_is);(case k=>k_is)))
    (case mm_take_figures=>(refine' K01.mn ?a ?i ?l ?c ?k;(case a=>k_is);(case i=>k_is);(case l=>k_is);(case c=>k_is);(case k=>k_is)))
    (case mm_take_bracket=>(refine' K01.mn ?a ?i ?l ?c ?k;(case a=>k_is);(case i=>k_is);(case l=>k_is);(case c=>k_is);(case k=>k_is)))
    (case z_isi=>k_is)
    (case z_str=>k_is)
    (case z_len=>k_is)
    (case z_lst=>k_is)
    (case z_tup=>k_is)
    (case z_int=>k_is)
    (case z_bool=>k_is)
    (case z_srt=>k_is)
    (case z_rng=>k_is)
    (case z_zip=>k_is)
    (case z_all=>k_is)
    (case z_min=>k_is)
    (case z_max=>k_is)
    (case z_dict=>k_is)
    (case z_abs=>k_is)
    (case z_sum=>k_is)
    (case z_set=>k_is)
    (case z_enm=>k_is)
    (case z_rev=>k_is)
    (case z_ve=>k_is)
