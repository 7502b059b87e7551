import PyProof.Rows.All
import Wide.All
import OpenK.AllK
import Wide.FinOn
import PyProof.Rows.SortRuns
import PyProof.Rows.SortKey
import PyProof.Rows.SortStr
import PyProof.Rows.SortShellK
import KE.KSortKey
import Lean
import PyProof.EqAt
import PyProof.EqKinds
import PyProof.TupleCall
import KE.KPairComp
import KE.KDictSum
import PyProof.ConsumeWalk
import PyProof.NeKinds
import KE.KIsAll
import PyProof.IsiPairs
import PyProof.IsiHeapPairs
import PyProof.CompUse
import OpenK.KOwn
import PyProof.ExcArgsOwn
import PyProof.ExcBaseAll.ValueError
import PyProof.StationsW
import PyProof.RulesAs
import PyProof.FString
import PyProof.FString4
import PyProof.StrLawsRepr
import PyProof.NsDelKeeps
import PyProof.StrWalks
import PyProof.CollectStr
import KE.KDictOf
import PyProof.DictUpdate
import PyProof.AttrMissHeap
import PyProof.MeetsStr
import PyProof.FitsReplace
import PyProof.MeetsDict
import KE.KDictList
import PyProof.Rows.SetFrom
import PyProof.SetRoads
import KE.RegKIsAll
import PySem.Challenge.RW_twistbrackets_k06_whole_plain_sums
set_option linter.all false
set_option Elab.async false
set_option maxRecDepth 100000
local macro_rules | `(tactic| omega) => `(tactic| lia)
section
namespace Tim
open PySem PyProof.Rows
noncomputable abbrev dflt:Keyed:=(Value.none,Value.none)
noncomputable def G (xs:Array Keyed) (i:Nat):Keyed:=xs[i]?.getD dflt
theorem G_congr {xs ys:Array Keyed} {i j:Nat} (h:xs[i]? = ys[j]?):G xs i=G ys j:=by unfold G;rw [h]
theorem G_at {xs:Array Keyed} {i:Nat} (h:i < xs.size):xs[i]? = some (G xs i):=by
  unfold G;rw [getElem?_pos xs i h];rfl
theorem G_bubble {xs:Array Keyed} {src d:Nat} (hs:src < xs.size) (hd:d≤src) (k:Nat) :
    G (bubble xs src d) k=if k=src - d then G xs src else if src - d < k∧k≤src then G xs (k - 1) else G xs k:=by
  have e:=getElem?_bubble hs d hd k
  by_cases h1:k=src - d
  · rw [if_pos h1] at e ⊢;exact G_congr e
  · rw [if_neg h1] at e ⊢
    by_cases h2:src - d < k∧k≤src
    · rw [if_pos h2] at e ⊢;exact G_congr e
    · rw [if_neg h2] at e ⊢;exact G_congr e
theorem G_mirror {xs:Array Keyed} {i j:Nat} (hj:j≤xs.size) (k:Nat) :
    G (mirror xs i j ((j - i) / 2)) k=if i≤k∧k < j then G xs (i + j - 1 - k) else G xs k:=by
  have e:=getElem?_mirror_all (i:=i) hj k
  by_cases h1:i≤k∧k < j
  · rw [if_pos h1] at e ⊢;exact G_congr e
  · rw [if_neg h1] at e ⊢;exact G_congr e
structure Od where
  O:KeyOrd
  key:Keyed→O.α
  rk:Keyed→Nat
variable (o:Od)
noncomputable def Od.b (x y:Keyed):Bool:=o.O.blt (o.key x) (o.key y)
noncomputable def Od.lt (x y:Keyed):Prop:=o.b x y=true∨(o.b y x=false∧o.rk x < o.rk y)
variable {o:Od}
theorem Od.of_b {x y:Keyed} (h:o.b x y=true):o.lt x y:=.inl h
theorem Od.of_nb {x y:Keyed} (h:o.b y x=false) (r:o.rk x < o.rk y):o.lt x y:=.inr ⟨h,r⟩
theorem Od.le_of {x y:Keyed} (h:o.lt x y):o.b y x=false:=by
  rcases h with h | h
  · exact KeyOrd.klt_asymm (O:=o.O) h
  · exact h.1
theorem Od.lt_trans {x y z:Keyed} (h1:o.lt x y) (h2:o.lt y z):o.lt x z:=by
  rcases h1 with h1 | ⟨h1,r1⟩
  · exact .inl (KeyOrd.klt_of_klt_of_kle (O:=o.O) h1 (Od.le_of h2))
  · rcases h2 with h2 | ⟨h2,r2⟩
    · exact .inl (KeyOrd.klt_of_kle_of_klt (O:=o.O) h1 h2)
    · exact .inr ⟨KeyOrd.kle_trans (O:=o.O) h1 h2,Nat.lt_trans r1 r2⟩
theorem Od.b_of {x y:Keyed} (r:o.rk y < o.rk x) (h:o.lt x y):o.b x y=true:=by
  rcases h with h | h
  · exact h
  · omega
theorem Od.eq_of {x y:Keyed} (h1:o.b x y=false) (h2:o.b y x=false):o.key x=o.key y:=o.O.total _ _ h1 h2
theorem Od.b_key {x y z:Keyed} (h:o.key x=o.key y):o.b x z=o.b y z:=by unfold Od.b;rw [h]
theorem Od.b_key' {x y z:Keyed} (h:o.key x=o.key y):o.b z x=o.b z y:=by unfold Od.b;rw [h]
theorem Od.b_irr {x y:Keyed} (h:o.key x=o.key y):o.b x y=false:=by unfold Od.b;rw [h];exact o.O.irrefl _
variable (o)
noncomputable def Srt (xs:Array Keyed) (lo hi:Nat):Prop:=∀ i j,lo≤i→i < j→j < hi→o.lt (G xs i) (G xs j)
noncomputable def Dsc (xs:Array Keyed) (lo hi:Nat):Prop:=∀ i j,lo≤i→i < j→j < hi→o.lt (G xs j) (G xs i)
noncomputable def Rng (xs:Array Keyed) (lo hi:Nat):Prop:=∀ i,lo≤i→i < hi→lo≤o.rk (G xs i)∧o.rk (G xs i) < hi
noncomputable def Rest (xs:Array Keyed) (lo:Nat):Prop:=∀ i,lo≤i→i < xs.size→o.rk (G xs i)=i
variable {o}
theorem Rest.mono {xs:Array Keyed} {a b:Nat} (h:Rest o xs a) (hab:a≤b):Rest o xs b:=fun i h1 h2=>h i (by omega) h2
theorem Rest.rng {xs:Array Keyed} {a b:Nat} (h:Rest o xs a) (hb:b≤xs.size):Rng o xs a b:=fun i h1 h2=>by
  rw [h i h1 (by omega)];omega
structure SB (kd:SortKind) (a0:Array Keyed) (st:SortSt):Prop where
  perm:(arrOf st).Perm a0
  kind:kindOf st=kd
  failed:failedOf st=none
theorem SB.size {kd:SortKind} {a0:Array Keyed} {st:SortSt} (h:SB kd a0 st):(arrOf st).size=a0.size:=h.perm.size_eq
theorem SB.arr {kd:SortKind} {a0:Array Keyed} {st:SortSt} (h:SB kd a0 st) {xs:Array Keyed} (hp:xs.Perm (arrOf st)):SB kd a0 (setArr st xs) :=
  ⟨hp.trans h.perm,h.kind,h.failed⟩
theorem SB.mem {kd:SortKind} {a0:Array Keyed} {st:SortSt} (h:SB kd a0 st) {i:Nat} (hi:i < a0.size):G (arrOf st) i∈a0.toList:=by
  have hi':i < (arrOf st).size:=by rw [h.size];exact hi
  have e:=G_at hi'
  refine (Array.perm_iff_toList_perm.mp h.perm).mem_iff.mp ?_
  rw [getElem?_pos (arrOf st) i hi'] at e
  rw [← Option.some.inj e]
  simp
noncomputable def LtOk (prog:Program) (w:World) (A:Around) (s:Shared) (kd:SortKind) (a0:Array Keyed) (o:Od):Prop :=
  ∀ (x y:Keyed) (E:Value→Shared→Prop) (Q:Bool→Shared→Prop),x∈a0.toList→y∈a0.toList→Q (o.b x y) s→wpAny (model prog w) A (keyLt' kd x.1 y.1) Q E s
section
variable {prog:Program} {w:World} {A:Around} {E:Value→Shared→Prop} {s:Shared} {a0:Array Keyed} {kd:SortKind} {o:Od}
theorem wp_lt (hO:LtOk prog w A s kd a0 o) {st:SortSt} {x y:Keyed} {Q:Option Bool→SortSt→Prop} (hk:kindOf st=kd) (hx:x∈a0.toList) (hy:y∈a0.toList)
    (h:Q (some (o.b x y)) st):wpS (model prog w) A E s (lt' x y) Q st:=by
  rw [lt'_eq]
  refine wpS_bind (wpS_get ?_)
  rw [hk]
  refine wpS_bind (wpS_lift (wpAny_attempt (hO x y _ _ hx hy ⟨rfl,?_⟩)))
  exact wpS_pure h
theorem wp_elem {st:SortSt} {xs:Array Keyed} {i:Nat} {Q:Keyed→SortSt→Prop} (hi:i < xs.size) (h:Q (G xs i) st):wpS (model prog w) A E s (elem' xs i) Q st:=by
  rw [elem'_eq,G_at hi]
  exact wpS_pure h
theorem wp_ltAt (hO:LtOk prog w A s kd a0 o) {st:SortSt} {i j:Nat} {Q:Option Bool→SortSt→Prop} (hB:SB kd a0 st) (hi:i < a0.size) (hj:j < a0.size)
    (h:Q (some (o.b (G (arrOf st) i) (G (arrOf st) j))) st):wpS (model prog w) A E s (ltAt' i j) Q st:=by
  rw [ltAt'_eq]
  refine wpS_bind (wpS_get ?_)
  have hi':i < (arrOf st).size:=by rw [hB.size];exact hi
  have hj':j < (arrOf st).size:=by rw [hB.size];exact hj
  exact wpS_bind (wp_elem hi' (wpS_bind (wp_elem hj' (wp_lt hO hB.kind (hB.mem hi) (hB.mem hj) h))))
theorem wp_rev {st:SortSt} {i j:Nat} {Q:Unit→SortSt→Prop} (h:Q () (setArr st (mirror (arrOf st) i j ((j - i) / 2)))) :
    wpS (model prog w) A E s (reverseSlice' i j) Q st:=by
  rw [reverseSlice'_eq];exact wpS_modify h
noncomputable def asc (lo a nrem:Nat):StateT SortSt Sem AscSt :=
  forIn [a:nrem] ((none,a):AscSt) fun _ __s=>do
    let __x ← ltAt' (lo + __s.snd) (lo + __s.snd - 1)
    match __x with
    | some smaller=>if smaller=true then pure (ForInStep.done (none,__s.snd)) else pure (ForInStep.yield (none,__s.snd + 1))
    | _=>pure (ForInStep.done (some none,__s.snd))
noncomputable def tl3 (lo n nrem:Nat):StateT SortSt Sem (Option Nat):=do
  reverseSlice' lo (lo + n)
  let __s ← asc lo n nrem
  match __s.fst with
  | some r=>pure r
  | none=>pure (some __s.snd)
noncomputable def dsc (lo n nrem:Nat):StateT SortSt Sem DescSt :=
  forIn [n:nrem] ((none,n,0):DescSt) fun _ __s=>do
    let __x ← ltAt' (lo + __s.snd.fst) (lo + __s.snd.fst - 1)
    match __x with
    | some smaller =>
      if smaller=true then
        if __s.snd.snd > 0 then do
          reverseSlice' (lo + __s.snd.fst - (__s.snd.snd + 1)) (lo + __s.snd.fst)
          pure (ForInStep.yield (none,__s.snd.fst + 1,0))
        else pure (ForInStep.yield (none,__s.snd.fst + 1,0))
      else do
        let __x ← ltAt' (lo + __s.snd.fst - 1) (lo + __s.snd.fst)
        match __x with
        | some larger =>
          if larger=true then pure (ForInStep.done (none,__s.snd.fst,__s.snd.snd))
          else pure (ForInStep.yield (none,__s.snd.fst + 1,__s.snd.snd + 1))
        | _=>pure (ForInStep.done (some none,__s.snd.fst,__s.snd.snd))
    | _=>pure (ForInStep.done (some none,__s.snd.fst,__s.snd.snd))
noncomputable def dpart (lo n nrem:Nat):StateT SortSt Sem (Option Nat):=do
  liftM (rule "list.sort.descending-run")
  let __s ← dsc lo (n + 1) nrem
  match __s.fst with
  | some r=>pure r
  | none =>
    if __s.snd.snd > 0 then do
      reverseSlice' (lo + __s.snd.fst - (__s.snd.snd + 1)) (lo + __s.snd.fst)
      tl3 lo __s.snd.fst nrem
    else tl3 lo __s.snd.fst nrem
theorem countRun_eq (lo nrem:Nat):countRun' lo nrem=(do
    let __s ← asc lo 1 nrem
    match __s.fst with
    | some r=>pure r
    | none =>
      if (__s.snd == nrem)=true then pure (some __s.snd)
      else if __s.snd > 1 then do
        let __x ← ltAt' lo (lo + __s.snd - 1)
        match __x with
        | some rose=>if rose=true then pure (some __s.snd) else do
            reverseSlice' lo (lo + __s.snd)
            dpart lo __s.snd nrem
        | _=>pure none
      else dpart lo __s.snd nrem):=by
  rw [countRun'_eq]
  unfold dpart tl3 dsc asc
  dsimp only
  congr 1
  funext __s
  obtain ⟨r,n⟩:=__s
  cases r with
  | some r=>rfl
  | none =>
    dsimp only
    split
    · rfl
    · split
      · congr 1
        funext x
        cases x with
        | none=>rfl
        | some rose =>
          dsimp only
          split
          · rfl
          · congr 1
            funext _r
            congr 1;funext _u;congr 1;congr 1;funext s2;obtain ⟨r2,n2,q2⟩:=s2
            cases r2 with
            | some r2=>rfl
            | none =>
              dsimp only
              split
              · congr 1;funext _v;congr 1;funext _w;congr 1;funext s3;obtain ⟨r3,n3⟩:=s3;cases r3 <;> rfl
              · congr 1;funext _w;congr 1;funext s3;obtain ⟨r3,n3⟩:=s3;cases r3 <;> rfl
      · congr 1;funext _u;congr 1;congr 1;funext s2;obtain ⟨r2,n2,q2⟩:=s2
        cases r2 with
        | some r2=>rfl
        | none =>
          dsimp only
          split
          · congr 1;funext _v;congr 1;funext _w;congr 1;funext s3;obtain ⟨r3,n3⟩:=s3;cases r3 <;> rfl
          · congr 1;funext _w;congr 1;funext s3;obtain ⟨r3,n3⟩:=s3;cases r3 <;> rfl
end
end Tim
end
section
namespace Tim
open PySem PyProof.Rows
section
variable {prog:Program} {w:World} {A:Around} {E:Value→Shared→Prop} {s:Shared} {a0:Array Keyed} {kd:SortKind} {o:Od}
theorem wp_asc (hO:LtOk prog w A s kd a0 o) {st:SortSt} {lo a nrem:Nat} {Q:AscSt→SortSt→Prop} (hn:lo + nrem≤a0.size) (ha:1≤a) (han:a≤nrem) (hB:SB kd a0 st)
    (hs:Srt o (arrOf st) lo (lo + a)) (hg:Rng o (arrOf st) lo (lo + a)) (hr:Rest o (arrOf st) (lo + a))
    (h:∀ n,a≤n→n≤nrem→Srt o (arrOf st) lo (lo + n)→(n=nrem∨o.b (G (arrOf st) (lo + n)) (G (arrOf st) (lo + n - 1))=true)→Q (none,n) st) :
    wpS (model prog w) A E s (asc lo a nrem) Q st:=by
  unfold asc
  refine wpS_forRange (I:=fun x c st'=>st'=st∧c=(none,x)∧Srt o (arrOf st) lo (lo + x)) ?step ?fin ⟨rfl,rfl,hs⟩
  case fin =>
    rintro c st' ⟨rfl,rfl,hs'⟩
    rw [show max a nrem=nrem by omega] at hs' ⊢
    exact h nrem han (Nat.le_refl _) hs' (.inl rfl)
  case step =>
    rintro x c st' hax hxn ⟨rfl,rfl,hs'⟩
    dsimp only
    refine wpS_bind (wp_ltAt hO hB (by omega) (by omega) ?_)
    cases hless:o.b (G (arrOf st') (lo + x)) (G (arrOf st') (lo + x - 1))
    case true =>
      simp only [if_true]
      exact wpS_pure (h x hax (by omega) hs' (.inr hless))
    case false =>
      simp only [Bool.false_eq_true,if_false]
      refine wpS_pure ⟨rfl,rfl,fun i j hi hij hj=>?_⟩
      by_cases hjx:j < lo + x
      · exact hs' i j hi hij hjx
      · have hj':j=lo + x:=by omega
        subst hj'
        have hsz:=hB.size
        have r1:o.rk (G (arrOf st') (lo + x))=lo + x:=hr _ (by omega) (by omega)
        have r2:o.rk (G (arrOf st') (lo + x - 1)) < lo + x:=by
          by_cases q:lo + x - 1 < lo + a
          · have:=(hg (lo + x - 1) (by omega) q).2;omega
          · have:=hr (lo + x - 1) (by omega) (by omega);omega
        have l1:o.lt (G (arrOf st') (lo + x - 1)) (G (arrOf st') (lo + x)):=Od.of_nb hless (by omega)
        by_cases hi':i=lo + x - 1
        · subst hi';exact l1
        · exact Od.lt_trans (hs' i (lo + x - 1) hi (by omega) (by omega)) l1
structure Ran (o:Od) (kd:SortKind) (a0:Array Keyed) (st st':SortSt) (lo m:Nat):Prop where
  sb:SB kd a0 st'
  srt:Srt o (arrOf st') lo (lo + m)
  rng:Rng o (arrOf st') lo (lo + m)
  rest:Rest o (arrOf st') (lo + m)
  low:∀ i,i < lo→G (arrOf st') i=G (arrOf st) i
  pend:pendingOf st'=pendingOf st
theorem wp_tl3 (hO:LtOk prog w A s kd a0 o) {st0 st:SortSt} {lo n nrem:Nat} {Q:Option Nat→SortSt→Prop} (hn:lo + nrem≤a0.size) (h1:1≤n) (hnn:n≤nrem) (hB:SB kd a0 st)
    (hs:Dsc o (arrOf st) lo (lo + n)) (hg:Rng o (arrOf st) lo (lo + n)) (hr:Rest o (arrOf st) (lo + n)) (hlow:∀ i,i < lo→G (arrOf st) i=G (arrOf st0) i) (hp:pendingOf st=pendingOf st0)
    (h:∀ m st',1≤m→m≤nrem→Ran o kd a0 st0 st' lo m→Q (some m) st') :
    wpS (model prog w) A E s (tl3 lo n nrem) Q st:=by
  unfold tl3
  have hsz:lo + n≤(arrOf st).size:=by rw [hB.size];omega
  refine wpS_bind (wp_rev ?_)
  have hB':SB kd a0 (setArr st (mirror (arrOf st) lo (lo + n) ((lo + n - lo) / 2))):=hB.arr (mirror_perm _ _ _ _)
  have hG:∀ k,G (mirror (arrOf st) lo (lo + n) ((lo + n - lo) / 2)) k=if lo≤k∧k < lo + n then G (arrOf st) (lo + (lo + n) - 1 - k) else G (arrOf st) k:=fun k=>G_mirror hsz k
  have hs':Srt o (mirror (arrOf st) lo (lo + n) ((lo + n - lo) / 2)) lo (lo + n):=fun i j hi hij hj=>by
    rw [hG,hG,if_pos (by omega),if_pos (by omega)]
    exact hs _ _ (by omega) (by omega) (by omega)
  have hg':Rng o (mirror (arrOf st) lo (lo + n) ((lo + n - lo) / 2)) lo (lo + n):=fun i hi hij=>by
    rw [hG,if_pos (by omega)]
    exact hg _ (by omega) (by omega)
  have hr':Rest o (mirror (arrOf st) lo (lo + n) ((lo + n - lo) / 2)) (lo + n):=fun i hi hij=>by
    rw [mirror_size] at hij
    rw [hG,if_neg (by omega)]
    exact hr _ hi hij
  refine wpS_bind (wp_asc hO hn h1 hnn hB' hs' hg' hr' fun m hm1 hm2 hsm _=>wpS_pure (h m _ (by omega) hm2 ⟨hB',hsm,fun i hi hij=>?_,hr'.mono (by omega),fun i hi=>?_,hp⟩))
  · by_cases q:i < lo + n
    · have:=hg' i hi q
      exact ⟨this.1,by have:=this.2;show o.rk (G (mirror _ _ _ _) i) < _;omega⟩
    · have e:o.rk (G (mirror (arrOf st) lo (lo + n) ((lo + n - lo) / 2)) i)=i:=hr' i (by omega) (by rw [mirror_size,hB.size];omega)
      show lo≤o.rk (G (mirror (arrOf st) lo (lo + n) ((lo + n - lo) / 2)) i)∧o.rk (G (mirror (arrOf st) lo (lo + n) ((lo + n - lo) / 2)) i) < lo + m
      rw [e];omega
  · show G (mirror (arrOf st) lo (lo + n) ((lo + n - lo) / 2)) i=_
    rw [hG,if_neg (by omega)]
    exact hlow i hi
structure DI (o:Od) (xs:Array Keyed) (lo x neq:Nat):Prop where
  le:neq + 1≤x
  far:∀ i j,lo≤i→i < j→j < lo + x→i < lo + x - (neq + 1)→o.lt (G xs j) (G xs i)
  sep:∀ i j,lo≤i→i < lo + x - (neq + 1)→lo + x - (neq + 1)≤j→j < lo + x→o.b (G xs j) (G xs i)=true
  key:∀ i,lo + x - (neq + 1)≤i→i < lo + x→o.key (G xs i)=o.key (G xs (lo + x - 1))
  rk:∀ i j,lo + x - (neq + 1)≤i→i < j→j < lo + x→o.rk (G xs i) < o.rk (G xs j)
  rng:Rng o xs lo (lo + x)
  rest:Rest o xs (lo + x)
theorem DI.turn {xs:Array Keyed} {lo x neq:Nat} (d:DI o xs lo x neq) (hx:lo + x≤xs.size) :
    Dsc o (mirror xs (lo + x - (neq + 1)) (lo + x) ((lo + x - (lo + x - (neq + 1))) / 2)) lo (lo + x) ∧
    Rng o (mirror xs (lo + x - (neq + 1)) (lo + x) ((lo + x - (lo + x - (neq + 1))) / 2)) lo (lo + x) ∧
    Rest o (mirror xs (lo + x - (neq + 1)) (lo + x) ((lo + x - (lo + x - (neq + 1))) / 2)) (lo + x) ∧
    (∀ k,lo + x - (neq + 1)≤k→k < lo + x→o.key (G (mirror xs (lo + x - (neq + 1)) (lo + x) ((lo + x - (lo + x - (neq + 1))) / 2)) k)=o.key (G xs (lo + x - 1))) ∧
    (∀ k,(k < lo∨lo + x≤k)→G (mirror xs (lo + x - (neq + 1)) (lo + x) ((lo + x - (lo + x - (neq + 1))) / 2)) k=G xs k):=by
  have hG:∀ k,G (mirror xs (lo + x - (neq + 1)) (lo + x) ((lo + x - (lo + x - (neq + 1))) / 2)) k=if lo + x - (neq + 1)≤k∧k < lo + x then G xs (lo + x - (neq + 1) + (lo + x) - 1 - k) else G xs k:=fun k=>G_mirror hx k
  have hle:=d.le
  refine ⟨fun i j hi hij hj=>?_,fun i hi hij=>?_,fun i hi hij=>?_,fun k hk hk2=>?_,fun k hk=>?_⟩
  · rw [hG,hG]
    by_cases q:lo + x - (neq + 1)≤i
    · rw [if_pos (by omega),if_pos (by omega)]
      refine Od.of_nb ?_ (d.rk _ _ (by omega) (by omega) (by omega))
      exact Od.b_irr ((d.key _ (by omega) (by omega)).trans (d.key _ (by omega) (by omega)).symm)
    · rw [if_neg (c:=lo + x - (neq + 1)≤i∧i < lo + x) (by omega)]
      split
      · exact d.far _ _ (by omega) (by omega) (by omega) (by omega)
      · exact d.far _ _ (by omega) (by omega) (by omega) (by omega)
  · rw [hG]
    split
    · exact d.rng _ (by omega) (by omega)
    · exact d.rng _ (by omega) (by omega)
  · rw [mirror_size] at hij
    rw [hG,if_neg (by omega)]
    exact d.rest _ hi hij
  · rw [hG,if_pos ⟨hk,hk2⟩]
    exact d.key _ (by omega) (by omega)
  · rw [hG,if_neg (by omega)]
theorem DI.still {xs:Array Keyed} {lo x:Nat} (d:DI o xs lo x 0):Dsc o xs lo (lo + x):=fun i j hi hij hj=>d.far i j hi hij hj (by omega)
theorem Dsc.next {xs:Array Keyed} {lo x:Nat} (hd:Dsc o xs lo (lo + x)) (h1:1≤x) (hg:Rng o xs lo (lo + x)) (hr:Rest o xs (lo + x)) (hx:lo + x < xs.size) (hb:o.b (G xs (lo + x)) (G xs (lo + x - 1))=true):DI o xs lo (x + 1) 0 where
  le:=by omega
  far:=fun i j hi hij hj hb'=>by
    by_cases q:j < lo + x
    · exact hd i j hi hij q
    · have e:j=lo + x:=by omega
      subst e
      by_cases q2:i=lo + x - 1
      · subst q2;exact Od.of_b hb
      · exact Od.lt_trans (Od.of_b hb) (hd i (lo + x - 1) hi (by omega) (by omega))
  sep:=fun i j hi h1' h2 h3=>by
    have e:j=lo + x:=by omega
    subst e
    by_cases q2:i=lo + x - 1
    · subst q2;exact hb
    · exact KeyOrd.klt_of_klt_of_kle (O:=o.O) hb (Od.le_of (hd i (lo + x - 1) hi (by omega) (by omega)))
  key:=fun i h1 h2=>by congr 2;omega
  rk:=fun i j h1 h2 h3=>by omega
  rng:=fun i hi hij=>by
    by_cases q:i < lo + x
    · have:=hg i hi q;omega
    · have:=hr i (by omega) (by omega);omega
  rest:=hr.mono (by omega)
theorem wp_dsc (hO:LtOk prog w A s kd a0 o) {st0 st:SortSt} {lo n nrem:Nat} {Q:DescSt→SortSt→Prop} (hn:lo + nrem≤a0.size) (h1:1≤n) (hnn:n≤nrem) (hB:SB kd a0 st)
    (hs:DI o (arrOf st) lo n 0) (hlow:∀ i,i < lo→G (arrOf st) i=G (arrOf st0) i) (hp:pendingOf st=pendingOf st0)
    (h:∀ m neq st',SB kd a0 st'→n≤m→m≤nrem→DI o (arrOf st') lo m neq→(∀ i,i < lo→G (arrOf st') i=G (arrOf st0) i)→pendingOf st'=pendingOf st0→Q (none,m,neq) st') :
    wpS (model prog w) A E s (dsc lo n nrem) Q st:=by
  unfold dsc
  refine wpS_forRange (I:=fun x c st'=>∃ neq,c=(none,x,neq)∧SB kd a0 st'∧DI o (arrOf st') lo x neq∧(∀ i,i < lo→G (arrOf st') i=G (arrOf st0) i)∧pendingOf st'=pendingOf st0) ?step ?fin ⟨0,rfl,hB,hs,hlow,hp⟩
  case fin =>
    rintro c st' ⟨neq,rfl,hB',d,hl,hp'⟩
    rw [show max n nrem=nrem by omega] at d ⊢
    exact h nrem neq st' hB' hnn (Nat.le_refl _) d hl hp'
  case step =>
    rintro x c st' hax hxn ⟨neq,rfl,hB',d,hl,hp'⟩
    dsimp only
    have hsz:=hB'.size
    refine wpS_bind (wp_ltAt hO hB' (by omega) (by omega) ?_)
    cases hless:o.b (G (arrOf st') (lo + x)) (G (arrOf st') (lo + x - 1))
    case true =>
      simp only [if_true]
      by_cases hneq:neq > 0
      · rw [if_pos hneq]
        obtain ⟨t1,t2,t3,t4,t5⟩:=d.turn (by omega)
        have hle:=d.le
        refine wpS_bind (wp_rev (wpS_pure ⟨0,rfl,hB'.arr (mirror_perm _ _ _ _),t1.next (by omega) t2 t3 (by rw [mirror_size];omega) ?_,fun i hi=>(t5 i (.inl hi)).trans (hl i hi),hp'⟩))
        rw [t5 (lo + x) (.inr (Nat.le_refl _)),Od.b_key' (t4 (lo + x - 1) (by omega) (by omega))]
        exact hless
      · rw [if_neg hneq]
        have e:neq=0:=by omega
        subst e
        exact wpS_pure ⟨0,rfl,hB',d.still.next (by omega) d.rng d.rest (by omega) hless,hl,hp'⟩
    case false =>
      simp only [Bool.false_eq_true,if_false]
      refine wpS_bind (wp_ltAt hO hB' (by omega) (by omega) ?_)
      cases hlarger:o.b (G (arrOf st') (lo + x - 1)) (G (arrOf st') (lo + x))
      case true =>
        simp only [if_true]
        exact wpS_pure (h x neq st' hB' hax (by omega) d hl hp')
      case false =>
        simp only [Bool.false_eq_true,if_false]
        have hk:o.key (G (arrOf st') (lo + x))=o.key (G (arrOf st') (lo + x - 1)):=Od.eq_of hless hlarger
        have rx:o.rk (G (arrOf st') (lo + x))=lo + x:=d.rest _ (by omega) (by omega)
        have hle:=d.le
        refine wpS_pure ⟨neq + 1,rfl,hB',⟨by omega,fun i j hi hij hj hb=>?_,fun i j hi h1' h2 h3=>?_,fun i hi hij=>?_,fun i j hi hij hj=>?_,fun i hi hij=>?_,d.rest.mono (by omega)⟩,hl,hp'⟩
        · by_cases q:j < lo + x
          · exact d.far i j hi hij q (by omega)
          · have e:j=lo + x:=by omega
            subst e
            exact .inl (by rw [Od.b_key hk];exact d.sep i (lo + x - 1) hi (by omega) (by omega) (by omega))
        · by_cases q:j < lo + x
          · exact d.sep i j hi (by omega) (by omega) q
          · have e:j=lo + x:=by omega
            subst e
            rw [Od.b_key hk];exact d.sep i (lo + x - 1) hi (by omega) (by omega) (by omega)
        · rw [show lo + (x + 1) - 1=lo + x by omega]
          by_cases q:i=lo + x
          · subst q;rfl
          · rw [hk];exact d.key i (by omega) (by omega)
        · by_cases q:j < lo + x
          · exact d.rk i j (by omega) hij q
          · have e:j=lo + x:=by omega
            subst e
            have:=(d.rng i (by omega) (by omega)).2
            omega
        · by_cases q:i < lo + x
          · have:=d.rng i hi q;omega
          · have:=d.rest i (by omega) (by omega);omega
theorem wp_dpart (hO:LtOk prog w A s kd a0 o) {st0 st:SortSt} {lo n nrem:Nat} {Q:Option Nat→SortSt→Prop} (hn:lo + nrem≤a0.size) (hnn:n + 1≤nrem) (hB:SB kd a0 st)
    (hs:DI o (arrOf st) lo (n + 1) 0) (hlow:∀ i,i < lo→G (arrOf st) i=G (arrOf st0) i) (hp:pendingOf st=pendingOf st0)
    (h:∀ m st',1≤m→m≤nrem→Ran o kd a0 st0 st' lo m→Q (some m) st') :
    wpS (model prog w) A E s (dpart lo n nrem) Q st:=by
  unfold dpart
  refine wpS_bind (wpS_lift (wpAny_rule ⟨rfl,?_⟩))
  refine wpS_bind (wp_dsc hO hn (by omega) hnn hB hs hlow hp fun m neq st' hB' hm1 hm2 d hl hp'=>?_)
  dsimp only
  have hsz:lo + m≤(arrOf st').size:=by rw [hB'.size];omega
  by_cases hneq:neq > 0
  · rw [if_pos hneq]
    obtain ⟨t1,t2,t3,t4,t5⟩:=d.turn hsz
    exact wpS_bind (wp_rev (wp_tl3 hO hn (by omega) hm2 (hB'.arr (mirror_perm _ _ _ _)) t1 t2 t3 (fun i hi=>(t5 i (.inl hi)).trans (hl i hi)) hp' h))
  · rw [if_neg hneq]
    have e:neq=0:=by omega
    subst e
    exact wp_tl3 hO hn (by omega) hm2 hB' d.still d.rng d.rest hl hp' h
theorem wp_countRun (hO:LtOk prog w A s kd a0 o) {st:SortSt} {lo nrem:Nat} {Q:Option Nat→SortSt→Prop} (hn:lo + nrem≤a0.size) (h1:1≤nrem) (hB:SB kd a0 st) (hr:Rest o (arrOf st) lo)
    (h:∀ m st',1≤m→m≤nrem→Ran o kd a0 st st' lo m→Q (some m) st') :
    wpS (model prog w) A E s (countRun' lo nrem) Q st:=by
  rw [countRun_eq]
  have hsz:=hB.size
  refine wpS_bind (wp_asc hO hn (Nat.le_refl 1) h1 hB (fun i j hi hij hj=>by omega) (hr.rng (by omega)) (hr.mono (by omega)) fun n hn1 hn2 hsn hor=>?_)
  dsimp only
  have ran:Ran o kd a0 st st lo n:=⟨hB,hsn,hr.rng (by omega),hr.mono (by omega),fun _ _=>rfl,rfl⟩
  by_cases hnn:n=nrem
  · rw [if_pos (by simpa using hnn)]
    exact wpS_pure (h n st hn1 hn2 ran)
  · rw [if_neg (by simpa using hnn)]
    have hlt:o.b (G (arrOf st) (lo + n)) (G (arrOf st) (lo + n - 1))=true:=hor.resolve_left hnn
    by_cases hgt:n > 1
    · rw [if_pos hgt]
      refine wpS_bind (wp_ltAt hO hB (by omega) (by omega) ?_)
      cases hrose:o.b (G (arrOf st) lo) (G (arrOf st) (lo + n - 1))
      case true =>
        simp only [if_true]
        exact wpS_pure (h n st hn1 hn2 ran)
      case false =>
        simp only [Bool.false_eq_true,if_false]
        have hkey:∀ k,lo≤k→k < lo + n→o.key (G (arrOf st) k)=o.key (G (arrOf st) (lo + n - 1)):=fun k hk hk2=>by
          have a1:o.b (G (arrOf st) k) (G (arrOf st) lo)=false:=by
            by_cases q:k=lo
            · subst q;exact Od.b_irr rfl
            · exact Od.le_of (hsn lo k (Nat.le_refl _) (by omega) hk2)
          have a2:o.b (G (arrOf st) (lo + n - 1)) (G (arrOf st) k)=false:=by
            by_cases q:k=lo + n - 1
            · subst q;exact Od.b_irr rfl
            · exact Od.le_of (hsn k (lo + n - 1) hk (by omega) (by omega))
          refine Od.eq_of ?_ a2
          exact KeyOrd.kle_trans (O:=o.O) hrose a1
        have d:DI o (arrOf st) lo n (n - 1):=⟨by omega,fun i j hi hij hj hb=>by omega,fun i j hi hb=>by omega,fun i hi hij=>hkey i (by omega) hij,
          fun i j hi hij hj=>by rw [hr i (by omega) (by omega),hr j (by omega) (by omega)];exact hij,hr.rng (by omega),hr.mono (by omega)⟩
        obtain ⟨t1,t2,t3,t4,t5⟩:=d.turn (by omega)
        have e:lo + n - (n - 1 + 1)=lo:=by omega
        rw [e] at t1 t2 t3 t4 t5
        refine wpS_bind (wp_rev (wp_dpart hO hn (by omega) (hB.arr (mirror_perm _ _ _ _)) (t1.next (by omega) t2 t3 (by rw [mirror_size];omega) ?_) (fun i hi=>t5 i (.inl hi)) rfl h))
        rw [t5 (lo + n) (.inr (Nat.le_refl _)),Od.b_key' (t4 (lo + n - 1) (by omega) (by omega))]
        exact hlt
    · rw [if_neg hgt]
      have hn1':n=1:=by omega
      subst hn1'
      have d1:Dsc o (arrOf st) lo (lo + 1):=fun i j hi hij hj=>by omega
      exact wp_dpart hO hn (by omega) hB (d1.next (by omega) (hr.rng (by omega)) (hr.mono (by omega)) (by omega) hlt) (fun _ _=>rfl) rfl h
theorem wp_binarySort (hO:LtOk prog w A s kd a0 o) {st0 st:SortSt} {lo n ok:Nat} {Q:Bool→SortSt→Prop} (hn:lo + n≤a0.size) (hok:ok≤n) (h1:1≤ok) (hR:Ran o kd a0 st0 st lo ok)
    (h:∀ st',Ran o kd a0 st0 st' lo n→Q true st'):wpS (model prog w) A E s (binarySort' lo n ok) Q st:=by
  rw [binarySort'_eq]
  dsimp only
  rw [show max ok 1=ok by omega]
  refine wpS_bind (wpS_mono (wpS_forRange (I:=fun k c st'=>c=(none,())∧Ran o kd a0 st0 st' lo (min k n))
    (Q:=fun c st'=>c=(none,())∧Ran o kd a0 st0 st' lo n) ?step ?fin ?init) ?post)
  case post =>
    rintro c st' ⟨rfl,hR'⟩
    exact wpS_pure (h st' hR')
  case init =>
    rw [show min ok n=ok by omega]
    exact ⟨rfl,hR⟩
  case fin =>
    rintro c st' ⟨hc,hR'⟩
    rw [show min (max ok n) n=n by omega] at hR'
    exact ⟨hc,hR'⟩
  case step =>
    rintro k c st' hak hkn ⟨rfl,hR'⟩
    rw [show min k n=k by omega] at hR'
    obtain ⟨hB',hs',hg',hr',hl',hp'⟩:=hR'
    have hsz:=hB'.size
    have hk:lo + k < a0.size:=by omega
    have rk:o.rk (G (arrOf st') (lo + k))=lo + k:=hr' _ (by omega) (by omega)
    refine wpS_bind (wpS_mono (wpS_forRange (I:=fun x c st''=>st''=st'∧∃ l r,c=(none,l,r)∧l≤r∧r≤k∧r - l≤k - x ∧
        (∀ i,lo≤i→i < lo + l→o.lt (G (arrOf st') i) (G (arrOf st') (lo + k)))∧(∀ i,lo + r≤i→i < lo + k→o.lt (G (arrOf st') (lo + k)) (G (arrOf st') i)))
      (Q:=fun c st''=>st''=st'∧∃ l r,c=(none,l,r)∧l≤k ∧
        (∀ i,lo≤i→i < lo + l→o.lt (G (arrOf st') i) (G (arrOf st') (lo + k)))∧(∀ i,lo + l≤i→i < lo + k→o.lt (G (arrOf st') (lo + k)) (G (arrOf st') i))) ?istep ?ifin ?iinit) ?ipost)
    case iinit=>exact ⟨rfl,0,k,rfl,by omega,by omega,by omega,fun i h1 h2=>by omega,fun i h1 h2=>by omega⟩
    case ifin =>
      rintro c st'' ⟨rfl,l,r,rfl,hlr,hrk,hm,hlo,hhi⟩
      have:l=r:=by omega
      subst this
      exact ⟨rfl,l,l,rfl,hrk,hlo,hhi⟩
    case istep =>
      rintro x c st'' _ hxk ⟨rfl,l,r,rfl,hlr,hrk,hm,hlo,hhi⟩
      dsimp only
      by_cases hge:l ≥ r
      · rw [if_pos hge]
        have:l=r:=by omega
        subst this
        exact wpS_pure ⟨rfl,l,l,rfl,hrk,hlo,hhi⟩
      · rw [if_neg hge]
        refine wpS_bind (wp_ltAt hO hB' hk (by omega) ?_)
        have rm:=(hg' (lo + (l + r) / 2) (by omega) (by omega)).2
        cases hless:o.b (G (arrOf st'') (lo + k)) (G (arrOf st'') (lo + (l + r) / 2))
        case true =>
          simp only [if_true]
          refine wpS_pure ⟨rfl,l,(l + r) / 2,rfl,by omega,by omega,by omega,hlo,fun i h1 h2=>?_⟩
          by_cases q:i=lo + (l + r) / 2
          · subst q;exact Od.of_b hless
          · exact Od.lt_trans (Od.of_b hless) (hs' _ _ (by omega) (by omega) h2)
        case false =>
          simp only [Bool.false_eq_true,if_false]
          have l1:o.lt (G (arrOf st'') (lo + (l + r) / 2)) (G (arrOf st'') (lo + k)):=Od.of_nb hless (by omega)
          refine wpS_pure ⟨rfl,(l + r) / 2 + 1,r,rfl,by omega,by omega,by omega,fun i h1 h2=>?_,hhi⟩
          by_cases q:i=lo + (l + r) / 2
          · subst q;exact l1
          · exact Od.lt_trans (hs' i (lo + (l + r) / 2) h1 (by omega) (by omega)) l1
    case ipost =>
      rintro c st'' ⟨rfl,l,r,rfl,hlk,hlo,hhi⟩
      show wpS _ _ _ _ (do moveDown' (lo + k) (lo + l);pure (ForInStep.yield (none,()))) _ _
      rw [moveDown'_eq]
      have hks:lo + k < (arrOf st'').size:=by rw [hB'.size];exact hk
      have hG:∀ j,G (bubble (arrOf st'') (lo + k) (lo + k - (lo + l))) j=if j=lo + l then G (arrOf st'') (lo + k) else if lo + l < j∧j≤lo + k then G (arrOf st'') (j - 1) else G (arrOf st'') j:=fun j=>by
        rw [G_bubble hks (by omega),show lo + k - (lo + k - (lo + l))=lo + l by omega]
      refine wpS_bind (wpS_modify (wpS_pure ⟨rfl,hB'.arr (bubble_perm _ _ _),?_,?_,?_,?_,hp'⟩))
      all_goals try rw [show min (k + 1) n=k + 1 by omega]
      · intro i j hi hij hj
        show o.lt (G (bubble (arrOf st'') (lo + k) (lo + k - (lo + l))) i) (G (bubble (arrOf st'') (lo + k) (lo + k - (lo + l))) j)
        rw [hG,hG]
        repeat' split
        all_goals first
          | (exfalso;omega)
          | exact hlo _ (by omega) (by omega)
          | exact hhi _ (by omega) (by omega)
          | exact hs' _ _ (by omega) (by omega) (by omega)
      · intro i hi hij
        show lo≤o.rk (G (bubble (arrOf st'') (lo + k) (lo + k - (lo + l))) i)∧o.rk (G (bubble (arrOf st'') (lo + k) (lo + k - (lo + l))) i) < lo + (k + 1)
        rw [hG]
        repeat' split
        all_goals first
          | (exfalso;omega)
          | omega
          | (have:=hg' (i - 1) (by omega) (by omega);omega)
          | (have:=hg' i (by omega) (by omega);omega)
      · intro i hi hij
        have hij':i < (arrOf st'').size:=by
          have:i < (bubble (arrOf st'') (lo + k) (lo + k - (lo + l))).size:=hij
          rwa [bubble_size] at this
        show o.rk (G (bubble (arrOf st'') (lo + k) (lo + k - (lo + l))) i)=i
        rw [hG,if_neg (by omega),if_neg (by omega)]
        exact hr' i (by omega) hij'
      · intro i hi
        show G (bubble (arrOf st'') (lo + k) (lo + k - (lo + l))) i=_
        rw [hG,if_neg (by omega),if_neg (by omega)]
        exact hl' i hi
end
end Tim
end
section
namespace Tim
open PySem PyProof.Rows
noncomputable def gallop':Bool→Keyed→Array Keyed→Nat→Nat→Nat→StateT SortSt Sem (Option Nat):=sortPriv% PySem.Builtin.gallop
theorem gallop'_eq (left:Bool) (key:Keyed) (arr:Array Keyed) (base n hint:Nat):gallop' left key arr base n hint=(do
  let beyond (i:Nat):StateT SortSt Sem (Option Bool):=do
    let x ← elem' arr (base + i)
    if left then lt' x key else return (← lt' key x).map (!·)
  let mut lastofs:=0
  let mut ofs:=1
  let mut lo:=0
  let mut hi:=0
  let some right ← beyond hint | return none
  if right then
    let maxofs:=n - hint
    for _ in [0:n] do
      if ofs ≥ maxofs then break
      let some more ← beyond (hint + ofs) | return none
      if !more then break
      lastofs:=ofs
      ofs:=2 * ofs + 1
    lo:=hint + lastofs + 1
    hi:=hint + min ofs maxofs
  else
    let maxofs:=hint + 1
    for _ in [0:n] do
      if ofs ≥ maxofs then break
      let some found ← beyond (hint - ofs) | return none
      if found then break
      lastofs:=ofs
      ofs:=2 * ofs + 1
    lo:=hint + 1 - min ofs maxofs
    hi:=hint - lastofs
  for _ in [0:n] do
    if lo ≥ hi then break
    let m:=lo + (hi - lo) / 2
    let some more ← beyond m | return none
    if more then lo:=m + 1 else hi:=m
  return some hi):=rfl
noncomputable def gp (o:Od) (left:Bool) (key:Keyed) (arr:Array Keyed) (base i:Nat):Bool:=if left then o.b (G arr (base + i)) key else !(o.b key (G arr (base + i)))
noncomputable def byd (left:Bool) (key:Keyed) (arr:Array Keyed) (base i:Nat):StateT SortSt Sem (Option Bool):=do
  let x ← elem' arr (base + i)
  if left=true then lt' x key
  else do
    let __do_lift ← lt' key x
    pure (Option.map (fun x=>!x) __do_lift)
noncomputable def bsl (left:Bool) (key:Keyed) (arr:Array Keyed) (base n lo hi:Nat):StateT SortSt Sem (Option Nat):=do
  let __s ←
    forIn [:n] ((none,lo,hi):DescSt) fun x __s =>
      if __s.snd.fst ≥ __s.snd.snd then pure (ForInStep.done (none,__s.snd.fst,__s.snd.snd))
      else do
        let __x ← byd left key arr base (__s.snd.fst + (__s.snd.snd - __s.snd.fst) / 2)
        match __x with
          | some more =>
            if more=true then
              pure (ForInStep.yield (none,__s.snd.fst + (__s.snd.snd - __s.snd.fst) / 2 + 1,__s.snd.snd))
            else
              pure (ForInStep.yield (none,__s.snd.fst,__s.snd.fst + (__s.snd.snd - __s.snd.fst) / 2))
          | x=>pure (ForInStep.done (some none,__s.snd.fst,__s.snd.snd))
  match __s.fst with
    | some r=>pure r
    | none=>pure (some __s.snd.snd)
section
variable {prog:Program} {w:World} {A:Around} {E:Value→Shared→Prop} {s:Shared} {a0:Array Keyed} {kd:SortKind} {o:Od}
theorem wpS_of_eq {α:Type} {m m':StateT SortSt Sem α} {Q:α→SortSt→Prop} {st:SortSt} (e:m=m') (h:wpS (model prog w) A E s m' Q st):wpS (model prog w) A E s m Q st:=by rw [e];exact h
theorem wp_byd (hO:LtOk prog w A s kd a0 o) {left:Bool} {key:Keyed} {arr:Array Keyed} {base i n:Nat} {st:SortSt} {Q:Option Bool→SortSt→Prop} (hk:kindOf st=kd)
    (hkey:key∈a0.toList) (harr:∀ i,i < n→base + i < arr.size∧G arr (base + i)∈a0.toList) (hi:i < n) (h:Q (some (gp o left key arr base i)) st) :
    wpS (model prog w) A E s (byd left key arr base i) Q st:=by
  unfold byd
  refine wpS_bind (wp_elem (harr i hi).1 ?_)
  unfold gp at h
  cases left with
  | true=>exact wp_lt hO hk (harr i hi).2 hkey h
  | false=>exact wpS_bind (wp_lt hO hk hkey (harr i hi).2 (wpS_pure h))
theorem wp_bsl (hO:LtOk prog w A s kd a0 o) {left:Bool} {key:Keyed} {arr:Array Keyed} {base n lo hi:Nat} {st:SortSt} {Q:Option Nat→SortSt→Prop} (hk:kindOf st=kd)
    (hkey:key∈a0.toList) (harr:∀ i,i < n→base + i < arr.size∧G arr (base + i)∈a0.toList)
    (mono:∀ i j,i < j→j < n→gp o left key arr base j=true→gp o left key arr base i=true) (h1:lo≤hi) (h2:hi≤n)
    (hlo:∀ i,i < lo→gp o left key arr base i=true) (hhi:∀ i,hi≤i→i < n→gp o left key arr base i=false)
    (h:∀ k,k≤n→(∀ i,i < k→gp o left key arr base i=true)→(∀ i,k≤i→i < n→gp o left key arr base i=false)→Q (some k) st) :
    wpS (model prog w) A E s (bsl left key arr base n lo hi) Q st:=by
  unfold bsl
  refine wpS_bind (wpS_mono (wpS_forRange (I:=fun t c st'=>st'=st∧∃ l r,c=(none,l,r)∧l≤r∧r≤n∧r - l≤n - t∧(∀ i,i < l→gp o left key arr base i=true)∧(∀ i,r≤i→i < n→gp o left key arr base i=false))
    (Q:=fun c st'=>st'=st∧∃ l,c=(none,l,l)∧l≤n∧(∀ i,i < l→gp o left key arr base i=true)∧(∀ i,l≤i→i < n→gp o left key arr base i=false)) ?step ?fin ?init) ?post)
  case post =>
    rintro c st' ⟨rfl,l,rfl,q1,q2,q3⟩
    exact wpS_pure (h l q1 q2 q3)
  case init=>exact ⟨rfl,lo,hi,rfl,h1,h2,by omega,hlo,hhi⟩
  case fin =>
    rintro c st' ⟨rfl,l,r,rfl,q1,q2,q3,q4,q5⟩
    have e:l=r:=by omega
    subst e
    exact ⟨rfl,l,rfl,q2,q4,q5⟩
  case step =>
    rintro t c st' _ ht ⟨rfl,l,r,rfl,q1,q2,q3,q4,q5⟩
    dsimp only
    by_cases hge:l ≥ r
    · rw [if_pos hge]
      have e:l=r:=by omega
      subst e
      exact wpS_pure ⟨rfl,l,rfl,q2,q4,q5⟩
    · rw [if_neg hge]
      refine wpS_bind (wp_byd hO hk hkey harr (i:=l + (r - l) / 2) (by omega) ?_)
      cases hm:gp o left key arr base (l + (r - l) / 2) with
      | true =>
        simp only [if_true]
        refine wpS_pure ⟨rfl,l + (r - l) / 2 + 1,r,rfl,by omega,q2,by omega,fun i hi=>?_,q5⟩
        by_cases q:i=l + (r - l) / 2
        · rw [q];exact hm
        · exact mono i (l + (r - l) / 2) (by omega) (by omega) hm
      | false =>
        simp only [Bool.false_eq_true,if_false]
        refine wpS_pure ⟨rfl,l,l + (r - l) / 2,rfl,by omega,by omega,by omega,q4,fun i hi hi2=>?_⟩
        by_cases q:i=l + (r - l) / 2
        · rw [q];exact hm
        · cases hg:gp o left key arr base i with
          | false=>rfl
          | true=>rw [mono (l + (r - l) / 2) i (by omega) hi2 hg] at hm;cases hm
theorem wp_gallop (hO:LtOk prog w A s kd a0 o) {left:Bool} {key:Keyed} {arr:Array Keyed} {base n hint:Nat} {st:SortSt} {Q:Option Nat→SortSt→Prop} (hk:kindOf st=kd)
    (hkey:key∈a0.toList) (harr:∀ i,i < n→base + i < arr.size∧G arr (base + i)∈a0.toList) (hh:hint < n)
    (mono:∀ i j,i < j→j < n→gp o left key arr base j=true→gp o left key arr base i=true)
    (h:∀ k,k≤n→(∀ i,i < k→gp o left key arr base i=true)→(∀ i,k≤i→i < n→gp o left key arr base i=false)→Q (some k) st) :
    wpS (model prog w) A E s (gallop' left key arr base n hint) Q st:=by
  have monoF:∀ i j,i < j→j < n→gp o left key arr base i=false→gp o left key arr base j=false:=fun i j h1 h2 h3=>by
    cases hg:gp o left key arr base j with
    | false=>rfl
    | true=>rw [mono i j h1 h2 hg] at h3;cases h3
  rw [gallop'_eq]
  dsimp only
  refine wpS_bind (wp_byd hO hk hkey harr (i:=hint) hh ?_)
  dsimp only
  cases hp:gp o left key arr base hint with
  | true =>
    simp only [if_true]
    refine wpS_bind (wpS_mono (wpS_forRange (I:=fun t c st'=>st'=st∧∃ l f,c=((none,l,f):DescSt)∧l < f∧t + 1≤f∧l < n - hint∧gp o left key arr base (hint + l)=true)
      (Q:=fun c st'=>st'=st∧∃ l f,c=((none,l,f):DescSt)∧l < f∧l < n - hint∧gp o left key arr base (hint + l)=true∧(n - hint≤f∨(f < n - hint∧gp o left key arr base (hint + f)=false))) ?step ?fin ?init) ?post)
    case init=>exact ⟨rfl,0,1,rfl,by omega,by omega,by omega,hp⟩
    case fin =>
      rintro c st' ⟨rfl,l,f,rfl,q1,q2,q3,q4⟩
      exact ⟨rfl,l,f,rfl,q1,q3,q4,.inl (by omega)⟩
    case step =>
      rintro t c st' _ ht ⟨rfl,l,f,rfl,q1,q2,q3,q4⟩
      dsimp only
      by_cases hge:f ≥ n - hint
      · rw [if_pos hge]
        exact wpS_pure ⟨rfl,l,f,rfl,q1,q3,q4,.inl hge⟩
      · rw [if_neg hge]
        refine wpS_bind (wp_byd hO hk hkey harr (i:=hint + f) (by omega) ?_)
        cases hm:gp o left key arr base (hint + f) with
        | true =>
          simp only [Bool.not_true,Bool.false_eq_true,if_false]
          exact wpS_pure ⟨rfl,f,2 * f + 1,rfl,by omega,by omega,by omega,hm⟩
        | false =>
          simp only [Bool.not_false,if_true]
          exact wpS_pure ⟨rfl,l,f,rfl,q1,q3,q4,.inr ⟨by omega,hm⟩⟩
    case post =>
      rintro c st' ⟨rfl,l,f,rfl,q1,q3,q4,q5⟩
      dsimp only
      refine wpS_of_eq (m':=bsl left key arr base n (hint + l + 1) (hint + min f (n - hint))) (by unfold bsl byd;congr 1;funext s3;obtain ⟨r3,n3,m3⟩:=s3;cases r3 <;> rfl) ?_
      refine wp_bsl hO hk hkey harr mono (lo:=hint + l + 1) (hi:=hint + min f (n - hint)) (by omega) (by omega) (fun i hi=>?_) (fun i hi hi2=>?_) h
      · by_cases q:i=hint + l
        · rw [q];exact q4
        · exact mono i (hint + l) (by omega) (by omega) q4
      · rcases q5 with q5 | ⟨q5,q6⟩
        · omega
        · by_cases q:i=hint + f
          · rw [q];exact q6
          · exact monoF (hint + f) i (by omega) hi2 q6
  | false =>
    simp only [Bool.false_eq_true,if_false]
    refine wpS_bind (wpS_mono (wpS_forRange (I:=fun t c st'=>st'=st∧∃ l f,c=((none,l,f):DescSt)∧l < f∧t + 1≤f∧l≤hint∧gp o left key arr base (hint - l)=false)
      (Q:=fun c st'=>st'=st∧∃ l f,c=((none,l,f):DescSt)∧l < f∧l≤hint∧gp o left key arr base (hint - l)=false∧(hint + 1≤f∨(f < hint + 1∧gp o left key arr base (hint - f)=true))) ?step2 ?fin2 ?init2) ?post2)
    case init2=>exact ⟨rfl,0,1,rfl,by omega,by omega,by omega,hp⟩
    case fin2 =>
      rintro c st' ⟨rfl,l,f,rfl,q1,q2,q3,q4⟩
      exact ⟨rfl,l,f,rfl,q1,q3,q4,.inl (by omega)⟩
    case step2 =>
      rintro t c st' _ ht ⟨rfl,l,f,rfl,q1,q2,q3,q4⟩
      dsimp only
      by_cases hge:f ≥ hint + 1
      · rw [if_pos hge]
        exact wpS_pure ⟨rfl,l,f,rfl,q1,q3,q4,.inl hge⟩
      · rw [if_neg hge]
        refine wpS_bind (wp_byd hO hk hkey harr (i:=hint - f) (by omega) ?_)
        cases hm:gp o left key arr base (hint - f) with
        | false =>
          simp only [Bool.false_eq_true,if_false]
          exact wpS_pure ⟨rfl,f,2 * f + 1,rfl,by omega,by omega,by omega,hm⟩
        | true =>
          simp only [if_true]
          exact wpS_pure ⟨rfl,l,f,rfl,q1,q3,q4,.inr ⟨by omega,hm⟩⟩
    case post2 =>
      rintro c st' ⟨rfl,l,f,rfl,q1,q3,q4,q5⟩
      dsimp only
      refine wpS_of_eq (m':=bsl left key arr base n (hint + 1 - min f (hint + 1)) (hint - l)) (by unfold bsl byd;congr 1;funext s3;obtain ⟨r3,n3,m3⟩:=s3;cases r3 <;> rfl) ?_
      refine wp_bsl hO hk hkey harr mono (lo:=hint + 1 - min f (hint + 1)) (hi:=hint - l) (by omega) (by omega) (fun i hi=>?_) (fun i hi hi2=>?_) h
      · rcases q5 with q5 | ⟨q5,q6⟩
        · omega
        · by_cases q:i=hint - f
          · rw [q];exact q6
          · exact mono i (hint - f) (by omega) (by omega) q6
      · by_cases q:i=hint - l
        · rw [q];exact q4
        · exact monoF (hint - l) i (by omega) hi2 q4
end
end Tim
end
section
namespace Tim
open PySem PyProof.Rows
variable {o:Od}
noncomputable abbrev setGal (st:SortSt) (g:Nat):SortSt:=SortSt.mk' (kindOf st) (arrOf st) (pendingOf st) g (failedOf st)
noncomputable def mergeLo':Array Keyed→Array Keyed→StateT SortSt Sem (Array Keyed):=sortPriv% PySem.Builtin.mergeLo
noncomputable def mergeHi':Array Keyed→Array Keyed→StateT SortSt Sem (Array Keyed):=sortPriv% PySem.Builtin.mergeHi
noncomputable def setMinGallop':Nat→StateT SortSt Sem Unit:=sortPriv% PySem.Builtin.setMinGallop
theorem setMinGallop'_eq (g:Nat):setMinGallop' g=modify fun st=>setGal st g:=rfl
theorem mergeLo'_eq (a b:Array Keyed):mergeLo' a b=(do
  rule "list.sort.merge-lo"
  let total:=a.size + b.size
  let done (out:Array Keyed) (ia ib:Nat):=out++a.extract ia a.size++b.extract ib b.size
  let lastOfA (out:Array Keyed) (ia ib:Nat):=out++b.extract ib b.size++a.extract ia a.size
  let mut out:Array Keyed:=#[← elem' b 0]
  let mut ia:=0
  let mut ib:=1
  if ib == b.size then return done out ia ib
  if ia + 1 == a.size then return lastOfA out ia ib
  let mut minGallop:=gallopOf (← get)
  for _ in [0:total] do
    let mut acount:=0
    let mut bcount:=0
    for _ in [0:total] do
      let some bWins ← lt' (← elem' b ib) (← elem' a ia) | return done out ia ib
      if bWins then
        out:=out.push (← elem' b ib);ib:=ib + 1;bcount:=bcount + 1;acount:=0
        if ib == b.size then return done out ia ib
        if bcount ≥ minGallop then break
      else
        out:=out.push (← elem' a ia);ia:=ia + 1;acount:=acount + 1;bcount:=0
        if ia + 1 == a.size then return lastOfA out ia ib
        if acount ≥ minGallop then break
    rule "list.sort.gallop"
    minGallop:=minGallop + 1
    for _ in [0:total] do
      if minGallop > 1 then minGallop:=minGallop - 1
      setMinGallop' minGallop
      let some k ← gallop' false (← elem' b ib) a ia (a.size - ia) 0 | return done out ia ib
      acount:=k
      if k > 0 then
        out:=out++a.extract ia (ia + k);ia:=ia + k
        if ia + 1 == a.size then return lastOfA out ia ib
        if ia == a.size then return done out ia ib
      out:=out.push (← elem' b ib);ib:=ib + 1
      if ib == b.size then return done out ia ib
      let some k ← gallop' true (← elem' a ia) b ib (b.size - ib) 0 | return done out ia ib
      bcount:=k
      if k > 0 then
        out:=out++b.extract ib (ib + k);ib:=ib + k
        if ib == b.size then return done out ia ib
      out:=out.push (← elem' a ia);ia:=ia + 1
      if ia + 1 == a.size then return lastOfA out ia ib
      if acount < 7 && bcount < 7 then break
    minGallop:=minGallop + 1
    setMinGallop' minGallop
  unsupported "internal:list.sort.merge-bound"):=rfl
structure MG (o:Od) (a0 a b:Array Keyed):Prop where
  sA:a.toList.Pairwise o.lt
  sB:b.toList.Pairwise o.lt
  rk:∀ x∈a.toList,∀ y∈b.toList,o.rk x < o.rk y
  mA:∀ x∈a.toList,x∈a0.toList
  mB:∀ x∈b.toList,x∈a0.toList
  nA:1≤a.size
  nB:1≤b.size
  first:∀ x∈a.toList,o.lt (G b 0) x
  last:∀ y∈b.toList,o.lt y (G a (a.size - 1))
noncomputable def MR (o:Od) (a b r:Array Keyed):Prop:=r.toList.Perm (a.toList++b.toList)∧r.toList.Pairwise o.lt
structure ML (o:Od) (a b out:Array Keyed) (ia ib:Nat):Prop where
  perm:(out.toList++(a.toList.drop ia++b.toList.drop ib)).Perm (a.toList++b.toList)
  srt:out.toList.Pairwise o.lt
  lt:∀ x∈out.toList,∀ y∈a.toList.drop ia++b.toList.drop ib,o.lt x y
theorem drop_cons {xs:Array Keyed} {i:Nat} (h:i < xs.size):xs.toList.drop i=G xs i :: xs.toList.drop (i + 1):=by
  have h':i < xs.toList.length:=by simpa using h
  have e:=G_at h
  rw [List.drop_eq_getElem_cons h']
  congr 1
  have:xs[i]? = some xs.toList[i]:=by rw [getElem?_pos xs i h];simp
  rw [this] at e
  exact Option.some.inj e
theorem G_mem {xs:Array Keyed} {i:Nat} (h:i < xs.size):G xs i∈xs.toList:=by
  have:=drop_cons h
  exact List.mem_of_mem_drop (i:=i) (by rw [this];exact List.mem_cons_self ..)
theorem mem_drop_G {xs:Array Keyed} {j:Nat} {x:Keyed} (h:x∈xs.toList.drop j):∃ i,j≤i∧i < xs.size∧x=G xs i:=by
  obtain ⟨n,hn,e⟩:=List.mem_iff_getElem.mp h
  rw [List.length_drop] at hn
  have hl:xs.toList.length=xs.size:=by simp
  refine ⟨j + n,by omega,by omega,?_⟩
  rw [List.getElem_drop] at e
  have q:=G_at (xs:=xs) (i:=j + n) (by omega)
  rw [getElem?_pos xs (j + n) (by omega)] at q
  rw [← Option.some.inj q,← e];simp
theorem pw_G {xs:Array Keyed} (h:xs.toList.Pairwise o.lt) {i j:Nat} (hij:i < j) (hj:j < xs.size):o.lt (G xs i) (G xs j):=by
  have q:=List.pairwise_iff_getElem.mp h i j (by simp;omega) (by simpa using hj) hij
  have e1:=G_at (xs:=xs) (i:=i) (by omega)
  have e2:=G_at (xs:=xs) (i:=j) hj
  rw [getElem?_pos xs i (by omega)] at e1
  rw [getElem?_pos xs j hj] at e2
  rw [← Option.some.inj e1,← Option.some.inj e2]
  simpa using q
theorem ML.pushA {a0 a b out:Array Keyed} {ia ib:Nat} (g:MG o a0 a b) (m:ML o a b out ia ib) (h:ia < a.size) (hb:∀ y∈b.toList.drop ib,o.lt (G a ia) y):ML o a b (out.push (G a ia)) (ia + 1) ib:=by
  have e:=drop_cons h
  refine ⟨?_,?_,?_⟩
  · refine List.Perm.trans ?_ m.perm
    rw [e,Array.toList_push,List.append_assoc];exact List.Perm.refl _
  · rw [Array.toList_push]
    refine List.pairwise_append.mpr ⟨m.srt,by simp,fun x hx y hy=>?_⟩
    rw [List.mem_singleton] at hy;subst hy
    exact m.lt x hx _ (by rw [e];simp)
  · intro x hx y hy
    rw [Array.toList_push] at hx
    rcases List.mem_append.mp hx with hx | hx
    · refine m.lt x hx y ?_
      rw [e]
      rcases List.mem_append.mp hy with hy | hy
      · exact List.mem_append_left _ (List.mem_cons_of_mem _ hy)
      · exact List.mem_append_right _ hy
    · rw [List.mem_singleton] at hx;subst hx
      rcases List.mem_append.mp hy with hy | hy
      · obtain ⟨i,h1,h2,rfl⟩:=mem_drop_G hy
        exact pw_G g.sA (by omega) h2
      · exact hb y hy
theorem ML.pushB {a0 a b out:Array Keyed} {ia ib:Nat} (g:MG o a0 a b) (m:ML o a b out ia ib) (h:ib < b.size) (hb:∀ y∈a.toList.drop ia,o.lt (G b ib) y):ML o a b (out.push (G b ib)) ia (ib + 1):=by
  have e:=drop_cons h
  refine ⟨?_,?_,?_⟩
  · refine List.Perm.trans ?_ m.perm
    rw [e,Array.toList_push,List.append_assoc]
    refine List.Perm.append_left _ ?_
    show (G b ib :: (List.drop ia a.toList++List.drop (ib + 1) b.toList)).Perm _
    exact List.perm_middle.symm
  · rw [Array.toList_push]
    refine List.pairwise_append.mpr ⟨m.srt,by simp,fun x hx y hy=>?_⟩
    rw [List.mem_singleton] at hy;subst hy
    exact m.lt x hx _ (by rw [e];simp)
  · intro x hx y hy
    rw [Array.toList_push] at hx
    rcases List.mem_append.mp hx with hx | hx
    · refine m.lt x hx y ?_
      rw [e]
      rcases List.mem_append.mp hy with hy | hy
      · exact List.mem_append_left _ hy
      · exact List.mem_append_right _ (List.mem_cons_of_mem _ hy)
    · rw [List.mem_singleton] at hx;subst hx
      rcases List.mem_append.mp hy with hy | hy
      · exact hb y hy
      · obtain ⟨i,h1,h2,rfl⟩:=mem_drop_G hy
        exact pw_G g.sB (by omega) h2
theorem push_block (xs out:Array Keyed) (i k:Nat) (h:i + k < xs.size):out++xs.extract i (i + (k + 1))=(out++xs.extract i (i + k)).push (G xs (i + k)):=by
  have e:xs.extract i (i + (k + 1))=(xs.extract i (i + k)).push (G xs (i + k)):=by
    apply Array.toList_inj.mp
    rw [Array.toList_push,Array.toList_extract,Array.toList_extract]
    simp only [List.extract_eq_take_drop]
    rw [show i + (k + 1) - i=k + 1 by omega,show i + k - i=k by omega]
    have q:=drop_cons h
    rw [← List.drop_drop] at q
    have q2:(List.drop i xs.toList)[k]? = some (G xs (i + k)):=by
      rw [← List.head?_drop,q];rfl
    rw [List.take_succ,q2];rfl
  rw [e,Array.append_push]
theorem ext_nil (xs out:Array Keyed) (i:Nat):out++xs.extract i i=out:=by
  apply Array.toList_inj.mp
  rw [Array.toList_append,Array.toList_extract,List.extract_eq_take_drop,Nat.sub_self,List.take_zero,List.append_nil]
theorem ML.blockA {a0 a b out:Array Keyed} {ia ib:Nat} (g:MG o a0 a b) (m:ML o a b out ia ib):∀ k,ia + k≤a.size→(∀ i,i < k→∀ y∈b.toList.drop ib,o.lt (G a (ia + i)) y)→ML o a b (out++a.extract ia (ia + k)) (ia + k) ib
  | 0,_,_=>by rw [Nat.add_zero,ext_nil];exact m
  | k + 1,h,hb=>by
    have ih:=ML.blockA g m k (by omega) fun i hi=>hb i (by omega)
    rw [push_block a out ia k (by omega)]
    exact ih.pushA g (by omega) (hb k (by omega))
theorem ML.blockB {a0 a b out:Array Keyed} {ia ib:Nat} (g:MG o a0 a b) (m:ML o a b out ia ib):∀ k,ib + k≤b.size→(∀ i,i < k→∀ y∈a.toList.drop ia,o.lt (G b (ib + i)) y)→ML o a b (out++b.extract ib (ib + k)) ia (ib + k)
  | 0,_,_=>by rw [Nat.add_zero,ext_nil];exact m
  | k + 1,h,hb=>by
    have ih:=ML.blockB g m k (by omega) fun i hi=>hb i (by omega)
    rw [push_block b out ib k (by omega)]
    exact ih.pushB g (by omega) (hb k (by omega))
theorem ext_drop (xs:Array Keyed) (i:Nat):(xs.extract i xs.size).toList=xs.toList.drop i:=by
  rw [Array.toList_extract,List.extract_eq_take_drop]
  exact List.take_of_length_le (by simp)
theorem ML.done {a0 a b out:Array Keyed} {ia ib:Nat} (g:MG o a0 a b) (m:ML o a b out ia ib) (h:ia=a.size∨ib=b.size):MR o a b (out++a.extract ia a.size++b.extract ib b.size):=by
  have e:(out++a.extract ia a.size++b.extract ib b.size).toList=out.toList++(a.toList.drop ia++b.toList.drop ib):=by
    rw [Array.toList_append,Array.toList_append,ext_drop,ext_drop,List.append_assoc]
  refine ⟨by rw [e];exact m.perm,?_⟩
  rw [e]
  refine List.pairwise_append.mpr ⟨m.srt,?_,m.lt⟩
  rcases h with h | h
  · have e2:a.toList.drop ia=[]:=List.drop_eq_nil_of_le (by simp;omega)
    rw [e2,List.nil_append];exact g.sB.drop
  · have e2:b.toList.drop ib=[]:=List.drop_eq_nil_of_le (by simp;omega)
    rw [e2,List.append_nil];exact g.sA.drop
theorem ML.lastA {a0 a b out:Array Keyed} {ia ib:Nat} (g:MG o a0 a b) (m:ML o a b out ia ib) (h:ia + 1=a.size):MR o a b (out++b.extract ib b.size++a.extract ia a.size):=by
  have e:(out++b.extract ib b.size++a.extract ia a.size).toList=out.toList++(b.toList.drop ib++a.toList.drop ia):=by
    rw [Array.toList_append,Array.toList_append,ext_drop,ext_drop,List.append_assoc]
  have e2:a.toList.drop ia=[G a (a.size - 1)]:=by
    rw [drop_cons (by omega),List.drop_eq_nil_of_le (by simp;omega)]
    congr 2;omega
  refine ⟨by rw [e];exact (List.Perm.append_left _ List.perm_append_comm).trans m.perm,?_⟩
  rw [e]
  refine List.pairwise_append.mpr ⟨m.srt,List.pairwise_append.mpr ⟨g.sB.drop,g.sA.drop,fun x hx y hy=>?_⟩,fun x hx y hy=>?_⟩
  · rw [e2,List.mem_singleton] at hy
    subst hy
    exact g.last x (List.mem_of_mem_drop hx)
  · refine m.lt x hx y ?_
    rcases List.mem_append.mp hy with hy | hy
    · exact List.mem_append_right _ hy
    · exact List.mem_append_left _ hy
theorem ML.start {a0 a b:Array Keyed} (g:MG o a0 a b):ML o a b #[G b 0] 0 1:=by
  have m:ML o a b #[] 0 0:=⟨by simp,by simp,fun x hx=>by simp at hx⟩
  exact m.pushB g g.nB fun y hy=>g.first y (List.mem_of_mem_drop hy)
end Tim
end
section
namespace Tim
open PySem PyProof.Rows
section
variable {prog:Program} {w:World} {A:Around} {E:Value→Shared→Prop} {s:Shared} {a0:Array Keyed} {kd:SortKind} {o:Od}
structure Al (st0 st:SortSt):Prop where
  kind:kindOf st=kindOf st0
  arr:arrOf st=arrOf st0
  pend:pendingOf st=pendingOf st0
  failed:failedOf st=failedOf st0
theorem Al.refl (st:SortSt):Al st st:=⟨rfl,rfl,rfl,rfl⟩
theorem Al.gal {st0 st:SortSt} (h:Al st0 st) (g:Nat):Al st0 (setGal st g):=⟨h.kind,h.arr,h.pend,h.failed⟩
theorem wp_ite {α:Type} {c:Prop} [Decidable c] {m m':StateT SortSt Sem α} {Q:α→SortSt→Prop} {st:SortSt} (h1:c→wpS (model prog w) A E s m Q st) (h2:¬ c→wpS (model prog w) A E s m' Q st) :
    wpS (model prog w) A E s (if c then m else m') Q st:=by
  by_cases q:c
  · rw [if_pos q];exact h1 q
  · rw [if_neg q];exact h2 q
theorem wp_setGal {st:SortSt} {g:Nat} {Q:Unit→SortSt→Prop} (h:Q () (setGal st g)):wpS (model prog w) A E s (setMinGallop' g) Q st:=by
  rw [setMinGallop'_eq];exact wpS_modify h
theorem MG.gf {a b:Array Keyed} (g:MG o a0 a b) {i j base:Nat} (hj:j < b.size) (hi:base + i < a.size):gp o false (G b j) a base i=true↔o.lt (G a (base + i)) (G b j):=by
  have r:=g.rk _ (G_mem hi) _ (G_mem hj)
  unfold gp
  simp only [Bool.false_eq_true,if_false,Bool.not_eq_true']
  constructor
  · intro h;exact Od.of_nb h r
  · intro h;exact Od.le_of h
theorem MG.gff {a b:Array Keyed} (g:MG o a0 a b) {i j base:Nat} (h:gp o false (G b j) a base i=false):o.lt (G b j) (G a (base + i)):=by
  unfold gp at h
  simp only [Bool.false_eq_true,if_false,Bool.not_eq_false'] at h
  exact Od.of_b h
theorem MG.gt {a b:Array Keyed} (g:MG o a0 a b) {i j base:Nat} (hj:j < a.size) (hi:base + i < b.size):gp o true (G a j) b base i=true↔o.lt (G b (base + i)) (G a j):=by
  have r:=g.rk _ (G_mem hj) _ (G_mem hi)
  unfold gp
  simp only [if_true]
  constructor
  · intro h;exact Od.of_b h
  · intro h;exact Od.b_of r h
theorem MG.gtf {a b:Array Keyed} (g:MG o a0 a b) {i j base:Nat} (hj:j < a.size) (hi:base + i < b.size) (h:gp o true (G a j) b base i=false):o.lt (G a j) (G b (base + i)):=by
  have r:=g.rk _ (G_mem hj) _ (G_mem hi)
  unfold gp at h
  simp only [if_true] at h
  exact Od.of_nb h r
theorem wp_gallopF (hO:LtOk prog w A s kd a0 o) {a b:Array Keyed} (g:MG o a0 a b) {j base n hint:Nat} {st:SortSt} {Q:Option Nat→SortSt→Prop} (hk:kindOf st=kd) (hj:j < b.size) (hn:base + n≤a.size) (hh:hint < n)
    (h:∀ k,k≤n→(∀ i,i < k→o.lt (G a (base + i)) (G b j))→(∀ i,k≤i→i < n→o.lt (G b j) (G a (base + i)))→Q (some k) st):wpS (model prog w) A E s (gallop' false (G b j) a base n hint) Q st :=
  wp_gallop hO hk (g.mB _ (G_mem hj)) (fun i hi=>⟨by omega,g.mA _ (G_mem (by omega))⟩) hh (fun i i' h1 h2 h3=>(g.gf hj (by omega)).mpr (Od.lt_trans (pw_G g.sA (by omega) (by omega)) ((g.gf hj (by omega)).mp h3)))
    fun k h1 h2 h3=>h k h1 (fun i hi=>(g.gf hj (by omega)).mp (h2 i hi)) fun i hi hi2=>g.gff (h3 i hi hi2)
theorem wp_gallopT (hO:LtOk prog w A s kd a0 o) {a b:Array Keyed} (g:MG o a0 a b) {j base n hint:Nat} {st:SortSt} {Q:Option Nat→SortSt→Prop} (hk:kindOf st=kd) (hj:j < a.size) (hn:base + n≤b.size) (hh:hint < n)
    (h:∀ k,k≤n→(∀ i,i < k→o.lt (G b (base + i)) (G a j))→(∀ i,k≤i→i < n→o.lt (G a j) (G b (base + i)))→Q (some k) st):wpS (model prog w) A E s (gallop' true (G a j) b base n hint) Q st :=
  wp_gallop hO hk (g.mA _ (G_mem hj)) (fun i hi=>⟨by omega,g.mB _ (G_mem (by omega))⟩) hh (fun i i' h1 h2 h3=>(g.gt hj (by omega)).mpr (Od.lt_trans (pw_G g.sB (by omega) (by omega)) ((g.gt hj (by omega)).mp h3)))
    fun k h1 h2 h3=>h k h1 (fun i hi=>(g.gt hj (by omega)).mp (h2 i hi)) fun i hi hi2=>g.gtf hj (by omega) (h3 i hi hi2)
theorem below_b {a b:Array Keyed} (g:MG o a0 a b) {x:Keyed} {ib:Nat} (hib:ib < b.size) (h:o.lt x (G b ib)):∀ y∈b.toList.drop ib,o.lt x y:=fun y hy=>by
  obtain ⟨i,h1,h2,rfl⟩:=mem_drop_G hy
  by_cases q:i=ib
  · subst q;exact h
  · exact Od.lt_trans h (pw_G g.sB (by omega) h2)
theorem below_a {a b:Array Keyed} (g:MG o a0 a b) {x:Keyed} {ia:Nat} (hia:ia < a.size) (h:o.lt x (G a ia)):∀ y∈a.toList.drop ia,o.lt x y:=fun y hy=>by
  obtain ⟨i,h1,h2,rfl⟩:=mem_drop_G hy
  by_cases q:i=ia
  · subst q;exact h
  · exact Od.lt_trans h (pw_G g.sA (by omega) h2)
theorem wp_mergeLo (hO:LtOk prog w A s kd a0 o) {a b:Array Keyed} {st0:SortSt} {Q:Array Keyed→SortSt→Prop} (g:MG o a0 a b) (hk:kindOf st0=kd)
    (h:∀ r st,MR o a b r→Al st0 st→Q r st):wpS (model prog w) A E s (mergeLo' a b) Q st0:=by
  rw [mergeLo'_eq]
  refine wpS_bind (wpS_lift (wpAny_rule ⟨rfl,?_⟩))
  have nA:=g.nA
  have nB:=g.nB
  extract_lets +onlyGivenNames total done lastOfA
  have hdone:∀ out ia ib,ML o a b out ia ib→(ia=a.size∨ib=b.size)→MR o a b (done out ia ib):=fun out ia ib m q=>m.done g q
  have hlast:∀ out ia ib,ML o a b out ia ib→ia + 1=a.size→MR o a b (lastOfA out ia ib):=fun out ia ib m q=>m.lastA g q
  have htot:total=a.size + b.size:=rfl
  clear_value done lastOfA total
  refine wpS_bind (wp_elem nB ?_)
  have m0:=ML.start g
  refine wp_ite (fun hb1=>?_) (fun hb1=>?_)
  · have hb1:(1 == b.size)=true:=hb1
    exact wpS_pure (h _ _ (hdone _ _ _ m0 (.inr (by simpa using hb1))) (Al.refl _))
  have hb1:¬ (1 == b.size)=true:=hb1
  have hb1:1≠b.size:=by simpa using hb1
  refine wp_ite (fun ha1=>?_) (fun ha1=>?_)
  · have ha1:(0 + 1 == a.size)=true:=ha1
    exact wpS_pure (h _ _ (hlast _ _ _ m0 (by simpa using ha1)) (Al.refl _))
  have ha1:¬ (0 + 1 == a.size)=true:=ha1
  have ha1:1≠a.size:=by simpa using ha1
  refine wpS_bind (wpS_get ?_)
  refine wpS_bind (wpS_mono (wpS_forRange
    (I:=fun t c st=>Al st0 st∧∃ out ia ib mg,c=((none,out,ia,ib,mg):Option (Array Keyed)×Array Keyed×Nat×Nat×Nat)∧ML o a b out ia ib∧ia + 1 < a.size∧ib < b.size∧t + 1≤ia + ib)
    (Q:=fun c st=>Al st0 st∧∃ r,c.1=some r∧MR o a b r) ?step ?fin ⟨Al.refl _,_,0,1,_,rfl,m0,by omega,by omega,by omega⟩) ?post)
  case fin =>
    rintro c st ⟨_,out,ia,ib,mg,rfl,_,h1,h2,h3⟩
    omega
  case post =>
    rintro ⟨r0,c⟩ st ⟨al,r,rfl,mr⟩
    exact wpS_pure (h r st mr al)
  case step =>
    rintro t c st _ ht ⟨al,out,ia,ib,mg,rfl,m,h1,h2,h3⟩
    refine wpS_bind (wpS_mono (wpS_forRange
      (I:=fun t c st'=>st'=st∧∃ out ia' ib' ac bc,c=((none,out,ia',ib',ac,bc):Option (Array Keyed)×Array Keyed×Nat×Nat×Nat×Nat)∧ML o a b out ia' ib'∧ia' + 1 < a.size∧ib' < b.size∧ia + ib + t≤ia' + ib')
      (Q:=fun c st'=>st'=st∧((∃ r,c.1=some r∧MR o a b r)∨∃ out ia' ib' ac bc,c=((none,out,ia',ib',ac,bc):Option (Array Keyed)×Array Keyed×Nat×Nat×Nat×Nat)∧ML o a b out ia' ib'∧ia' + 1 < a.size∧ib' < b.size∧ia + ib + 1≤ia' + ib'))
      ?step1 ?fin1 ⟨rfl,out,ia,ib,0,0,rfl,m,h1,h2,by omega⟩) ?post1)
    case fin1 =>
      rintro c st' ⟨rfl,out,ia',ib',ac,bc,rfl,m,q1,q2,q3⟩
      exact ⟨rfl,.inr ⟨out,ia',ib',ac,bc,rfl,m,q1,q2,by omega⟩⟩
    case step1 =>
      clear m h1 h2 h3
      rintro t' c st' _ ht' ⟨rfl,out,ia',ib',ac,bc,rfl,m,q1,q2,q3⟩
      refine wpS_bind (wp_elem (xs:=b) (i:=ib') q2 (wpS_bind (wp_elem (xs:=a) (i:=ia') (by omega) (wpS_bind (wp_lt hO (al.kind.trans hk) (g.mB _ (G_mem q2)) (g.mA _ (G_mem (by omega))) ?_)))))
      have r:=g.rk _ (G_mem (xs:=a) (i:=ia') (by omega)) _ (G_mem q2)
      refine wp_ite (fun hw=>?_) (fun hw=>?_)
      · have m2:=m.pushB g q2 (below_a g (by omega) (Od.of_b hw))
        refine wpS_bind (wp_elem (xs:=b) (i:=ib') q2 (wp_ite (fun hb2=>?_) (fun hb2=>?_)))
        · have hb2:(ib' + 1 == b.size)=true:=hb2
          exact wpS_pure ⟨rfl,.inl ⟨_,rfl,hdone _ _ _ m2 (.inr (by simpa using hb2))⟩⟩
        have hb2:¬ (ib' + 1 == b.size)=true:=hb2
        have hb2:ib' + 1≠b.size:=by simpa using hb2
        refine wp_ite (fun _=>?_) (fun _=>?_)
        · exact wpS_pure ⟨rfl,.inr ⟨_,ia',ib' + 1,_,_,rfl,m2,q1,by omega,by omega⟩⟩
        · exact wpS_pure ⟨rfl,_,ia',ib' + 1,_,_,rfl,m2,q1,by omega,by omega⟩
      · have m2:=m.pushA g (by omega) (below_b g q2 (Od.of_nb (Bool.eq_false_iff.mpr hw) r))
        refine wpS_bind (wp_elem (xs:=a) (i:=ia') (by omega) (wp_ite (fun hb2=>?_) (fun hb2=>?_)))
        · have hb2:(ia' + 1 + 1 == a.size)=true:=hb2
          exact wpS_pure ⟨rfl,.inl ⟨_,rfl,hlast _ _ _ m2 (by simpa using hb2)⟩⟩
        have hb2:¬ (ia' + 1 + 1 == a.size)=true:=hb2
        have hb2:ia' + 1 + 1≠a.size:=by simpa using hb2
        refine wp_ite (fun _=>?_) (fun _=>?_)
        · exact wpS_pure ⟨rfl,.inr ⟨_,ia' + 1,ib',_,_,rfl,m2,by omega,q2,by omega⟩⟩
        · exact wpS_pure ⟨rfl,_,ia' + 1,ib',_,_,rfl,m2,by omega,q2,by omega⟩
    case post1 =>
      rintro ⟨r0,c⟩ st' ⟨rfl,⟨r,rfl,mr⟩ | ⟨out,ia',ib',ac,bc,e,m,q1,q2,q3⟩⟩
      · exact wpS_pure ⟨al,r,rfl,mr⟩
      cases e
      refine wpS_bind (wpS_lift (wpAny_rule ⟨rfl,?_⟩))
      refine wpS_bind (wpS_mono (wpS_forRange
        (I:=fun t c st'=>Al st0 st'∧∃ out ia2 ib2 mg ac bc,c=((none,out,ia2,ib2,mg,ac,bc):Option (Array Keyed)×Array Keyed×Nat×Nat×Nat×Nat×Nat)∧ML o a b out ia2 ib2∧ia2 + 1 < a.size∧ib2 < b.size∧ia + ib + 1≤ia2 + ib2)
        (Q:=fun c st'=>Al st0 st'∧((∃ r,c.1=some r∧MR o a b r)∨∃ out ia2 ib2 mg ac bc,c=((none,out,ia2,ib2,mg,ac,bc):Option (Array Keyed)×Array Keyed×Nat×Nat×Nat×Nat×Nat)∧ML o a b out ia2 ib2∧ia2 + 1 < a.size∧ib2 < b.size∧ia + ib + 1≤ia2 + ib2))
        ?step2 ?fin2 ⟨al,out,ia',ib',_,ac,bc,rfl,m,q1,q2,q3⟩) ?post2)
      case fin2 =>
        rintro c st2 ⟨al2,out,ia2,ib2,mg2,ac,bc,rfl,m,q1,q2,q3⟩
        exact ⟨al2,.inr ⟨out,ia2,ib2,mg2,ac,bc,rfl,m,q1,q2,q3⟩⟩
      case post2 =>
        rintro ⟨r0,c⟩ st2 ⟨al2,⟨r,rfl,mr⟩ | ⟨out,ia2,ib2,mg2,ac,bc,e,m,q1,q2,q3⟩⟩
        · exact wpS_pure ⟨al2,r,rfl,mr⟩
        cases e
        exact wpS_bind (wp_setGal (wpS_pure ⟨al2.gal _,out,ia2,ib2,_,rfl,m,q1,q2,by omega⟩))
      case step2 =>
        clear m q1 q2 q3
        rintro t2 c st2 _ ht2 ⟨al2,out,ia2,ib2,mg2,ac,bc,rfl,m,q1,q2,q3⟩
        extract_lets -merge +onlyGivenNames s1 o1 s2 i1 s3 i2 s4 m1 s5 c1 c2 ib3 jp
        have hjp:∀ (mg:Nat) (st2:SortSt),Al st0 st2→wpS (model prog w) A E s (jp () mg) (fun r st'=>match r with
          | .done c=>Al st0 st'∧((∃ r,c.1=some r∧MR o a b r)∨∃ out ia2 ib2 mg ac bc,c=((none,out,ia2,ib2,mg,ac,bc):Option (Array Keyed)×Array Keyed×Nat×Nat×Nat×Nat×Nat)∧ML o a b out ia2 ib2∧ia2 + 1 < a.size∧ib2 < b.size∧ia + ib + 1≤ia2 + ib2)
          | .yield c=>Al st0 st'∧∃ out ia2 ib2 mg ac bc,c=((none,out,ia2,ib2,mg,ac,bc):Option (Array Keyed)×Array Keyed×Nat×Nat×Nat×Nat×Nat)∧ML o a b out ia2 ib2∧ia2 + 1 < a.size∧ib2 < b.size∧ia + ib + 1≤ia2 + ib2) st2:=by
          intro mg st3 al3
          refine wpS_bind (wp_setGal ?_)
          have al4:=al3.gal mg
          refine wpS_bind (wp_elem (xs:=b) (i:=ib2) q2 (wpS_bind (wp_gallopF hO g (al4.kind.trans hk) (j:=ib2) (base:=ia2) (n:=a.size - ia2) (hint:=0) q2 (by omega) (by omega) fun k k1 k2 k3=>?_)))
          have m2:ML o a b (out++a.extract ia2 (ia2 + k)) (ia2 + k) ib2:=m.blockA g k (by omega) fun i hi=>below_b g q2 (k2 i hi)
          dsimp -zeta only
          extract_lets -merge +onlyGivenNames c3 jp2
          have hjp2:∀ out3 ia3,ML o a b out3 ia3 ib2→ia3 + 1 < a.size→ia2≤ia3→o.lt (G b ib2) (G a ia3)→wpS (model prog w) A E s (jp2 () out3 ia3) (fun r st'=>match r with
            | .done c=>Al st0 st'∧((∃ r,c.1=some r∧MR o a b r)∨∃ out ia2 ib2 mg ac bc,c=((none,out,ia2,ib2,mg,ac,bc):Option (Array Keyed)×Array Keyed×Nat×Nat×Nat×Nat×Nat)∧ML o a b out ia2 ib2∧ia2 + 1 < a.size∧ib2 < b.size∧ia + ib + 1≤ia2 + ib2)
            | .yield c=>Al st0 st'∧∃ out ia2 ib2 mg ac bc,c=((none,out,ia2,ib2,mg,ac,bc):Option (Array Keyed)×Array Keyed×Nat×Nat×Nat×Nat×Nat)∧ML o a b out ia2 ib2∧ia2 + 1 < a.size∧ib2 < b.size∧ia + ib + 1≤ia2 + ib2) (setGal st3 mg):=by
            intro out3 ia3 m3 p1 p2 p3
            have m4:=m3.pushB g q2 (below_a g (by omega) p3)
            refine wpS_bind (wp_elem (xs:=b) (i:=ib2) q2 (wp_ite (fun hb2=>?_) (fun hb2=>?_)))
            · have hb2:(ib2 + 1 == b.size)=true:=hb2
              exact wpS_pure ⟨al4,.inl ⟨_,rfl,hdone _ _ _ m4 (.inr (by simpa using hb2))⟩⟩
            have hb2:¬ (ib2 + 1 == b.size)=true:=hb2
            have hb2:ib2 + 1≠b.size:=by simpa using hb2
            refine wpS_bind (wp_elem (xs:=a) (i:=ia3) (by omega) (wpS_bind (wp_gallopT hO g (al4.kind.trans hk) (j:=ia3) (base:=ib2 + 1) (n:=b.size - (ib2 + 1)) (hint:=0) (by omega) (by omega) (by omega) fun k' k1' k2' k3'=>?_)))
            have m5:ML o a b (out3.push (G b ib2)++b.extract (ib2 + 1) (ib2 + 1 + k')) ia3 (ib2 + 1 + k'):=m4.blockB g k' (by omega) fun i hi=>below_a g (by omega) (k2' i hi)
            dsimp -zeta only
            extract_lets -merge +onlyGivenNames c4 ia4 jp3
            have hjp3:∀ out4 ib4,ML o a b out4 ia3 ib4→ib4 < b.size→ib2 + 1≤ib4→o.lt (G a ia3) (G b ib4)→wpS (model prog w) A E s (jp3 () out4 ib4) (fun r st'=>match r with
              | .done c=>Al st0 st'∧((∃ r,c.1=some r∧MR o a b r)∨∃ out ia2 ib2 mg ac bc,c=((none,out,ia2,ib2,mg,ac,bc):Option (Array Keyed)×Array Keyed×Nat×Nat×Nat×Nat×Nat)∧ML o a b out ia2 ib2∧ia2 + 1 < a.size∧ib2 < b.size∧ia + ib + 1≤ia2 + ib2)
              | .yield c=>Al st0 st'∧∃ out ia2 ib2 mg ac bc,c=((none,out,ia2,ib2,mg,ac,bc):Option (Array Keyed)×Array Keyed×Nat×Nat×Nat×Nat×Nat)∧ML o a b out ia2 ib2∧ia2 + 1 < a.size∧ib2 < b.size∧ia + ib + 1≤ia2 + ib2) (setGal st3 mg):=by
              intro out4 ib4 m6 r1 r2 r3
              have m7:=m6.pushA g (by omega) (below_b g r1 r3)
              refine wpS_bind (wp_elem (xs:=a) (i:=ia3) (by omega) (wp_ite (fun hb3=>?_) (fun hb3=>?_)))
              · have hb3:(ia3 + 1 + 1 == a.size)=true:=hb3
                exact wpS_pure ⟨al4,.inl ⟨_,rfl,hlast _ _ _ m7 (by simpa using hb3)⟩⟩
              have hb3:¬ (ia3 + 1 + 1 == a.size)=true:=hb3
              have hb3:ia3 + 1 + 1≠a.size:=by simpa using hb3
              refine wp_ite (fun _=>?_) (fun _=>?_)
              · exact wpS_pure ⟨al4,.inr ⟨_,ia3 + 1,ib4,_,_,_,rfl,m7,by omega,r1,by omega⟩⟩
              · exact wpS_pure ⟨al4,_,ia3 + 1,ib4,_,_,_,rfl,m7,by omega,r1,by omega⟩
            clear_value jp3
            refine wp_ite (fun hk0=>?_) (fun hk0=>?_)
            · refine wp_ite (fun hb3=>?_) (fun hb3=>?_)
              · have hb3:(ib2 + 1 + k' == b.size)=true:=hb3
                exact wpS_pure ⟨al4,.inl ⟨_,rfl,hdone _ _ _ m5 (.inr (by simpa using hb3))⟩⟩
              have hb3:¬ (ib2 + 1 + k' == b.size)=true:=hb3
              have hb3:ib2 + 1 + k'≠b.size:=by simpa using hb3
              exact hjp3 _ (ib2 + 1 + k') m5 (by omega) (by omega) (k3' k' (Nat.le_refl _) (by omega))
            · have e0:k'=0:=by omega
              subst e0
              exact hjp3 _ (ib2 + 1) m4 (by omega) (by omega) (k3' 0 (Nat.le_refl _) (by omega))
          clear_value jp2
          refine wp_ite (fun hk0=>?_) (fun hk0=>?_)
          · refine wp_ite (fun hb3=>?_) (fun hb3=>?_)
            · have hb3:(ia2 + k + 1 == a.size)=true:=hb3
              exact wpS_pure ⟨al4,.inl ⟨_,rfl,hlast _ _ _ m2 (by simpa using hb3)⟩⟩
            have hb3:¬ (ia2 + k + 1 == a.size)=true:=hb3
            have hb3:ia2 + k + 1≠a.size:=by simpa using hb3
            refine wp_ite (fun hb4=>?_) (fun hb4=>?_)
            · have hb4:(ia2 + k == a.size)=true:=hb4
              exact wpS_pure ⟨al4,.inl ⟨_,rfl,hdone _ _ _ m2 (.inl (by simpa using hb4))⟩⟩
            have hb4:¬ (ia2 + k == a.size)=true:=hb4
            have hb4:ia2 + k≠a.size:=by simpa using hb4
            exact hjp2 _ (ia2 + k) m2 (by omega) (by omega) (k3 k (Nat.le_refl _) (by omega))
          · have e0:k=0:=by omega
            subst e0
            exact hjp2 _ ia2 m (by omega) (by omega) (k3 0 (Nat.le_refl _) (by omega))
        clear_value jp
        refine wp_ite (fun _=>?_) (fun _=>?_)
        · exact wpS_mono (hjp (mg2 - 1) _ al2) fun r st' hr=>by cases r <;> exact hr
        · exact wpS_mono (hjp mg2 _ al2) fun r st' hr=>by cases r <;> exact hr
end
end Tim
end
section
namespace Tim
open PySem PyProof.Rows
variable {o:Od}
theorem mergeHi'_eq (a b:Array Keyed):mergeHi' a b=(do
  rule "list.sort.merge-hi"
  let total:=a.size + b.size
  let done (out:Array Keyed) (na nb:Nat):=a.extract 0 na++b.extract 0 nb++out.reverse
  let firstOfB (out:Array Keyed) (na nb:Nat):=b.extract 0 nb++a.extract 0 na++out.reverse
  let mut na:=a.size - 1
  let mut nb:=b.size
  let mut out:Array Keyed:=#[← elem' a na]
  if na == 0 then return done out na nb
  if nb == 1 then return firstOfB out na nb
  let mut minGallop:=gallopOf (← get)
  for _ in [0:total] do
    let mut acount:=0
    let mut bcount:=0
    for _ in [0:total] do
      let some aWins ← lt' (← elem' b (nb - 1)) (← elem' a (na - 1)) | return done out na nb
      if aWins then
        na:=na - 1;out:=out.push (← elem' a na);acount:=acount + 1;bcount:=0
        if na == 0 then return done out na nb
        if acount ≥ minGallop then break
      else
        nb:=nb - 1;out:=out.push (← elem' b nb);bcount:=bcount + 1;acount:=0
        if nb == 1 then return firstOfB out na nb
        if bcount ≥ minGallop then break
    rule "list.sort.gallop"
    minGallop:=minGallop + 1
    for _ in [0:total] do
      if minGallop > 1 then minGallop:=minGallop - 1
      setMinGallop' minGallop
      let some at_ ← gallop' false (← elem' b (nb - 1)) a 0 na (na - 1) | return done out na nb
      let k:=na - at_
      acount:=k
      if k > 0 then
        out:=out++(a.extract at_ na).reverse;na:=at_
        if na == 0 then return done out na nb
      nb:=nb - 1;out:=out.push (← elem' b nb)
      if nb == 1 then return firstOfB out na nb
      let some at_ ← gallop' true (← elem' a (na - 1)) b 0 nb (nb - 1) | return done out na nb
      let k:=nb - at_
      bcount:=k
      if k > 0 then
        out:=out++(b.extract at_ nb).reverse;nb:=at_
        if nb == 1 then return firstOfB out na nb
        if nb == 0 then return done out na nb
      na:=na - 1;out:=out.push (← elem' a na)
      if na == 0 then return done out na nb
      if acount < 7 && bcount < 7 then break
    minGallop:=minGallop + 1
    setMinGallop' minGallop
  unsupported "internal:list.sort.merge-bound"):=rfl
structure MH (o:Od) (a b out:Array Keyed) (na nb:Nat):Prop where
  perm:((a.toList.take na++b.toList.take nb)++out.toList.reverse).Perm (a.toList++b.toList)
  srt:out.toList.reverse.Pairwise o.lt
  lt:∀ x∈a.toList.take na++b.toList.take nb,∀ y∈out.toList,o.lt x y
theorem take_snoc {xs:Array Keyed} {i:Nat} (h:i < xs.size):xs.toList.take (i + 1)=xs.toList.take i++[G xs i]:=by
  have e:=drop_cons h
  rw [List.take_succ]
  congr 1
  have q2:xs.toList[i]? = some (G xs i):=by
    rw [← List.head?_drop,e];rfl
  rw [q2];rfl
theorem mem_take_G {xs:Array Keyed} {j:Nat} {x:Keyed} (h:x∈xs.toList.take j):∃ i,i < j∧i < xs.size∧x=G xs i:=by
  obtain ⟨n,hn,e⟩:=List.mem_iff_getElem.mp h
  rw [List.length_take] at hn
  have hl:xs.toList.length=xs.size:=by simp
  refine ⟨n,by omega,by omega,?_⟩
  rw [List.getElem_take] at e
  have q:=G_at (xs:=xs) (i:=n) (by omega)
  rw [getElem?_pos xs n (by omega)] at q
  rw [← Option.some.inj q,← e];simp
theorem MH.pushA {a0 a b out:Array Keyed} {na nb:Nat} (g:MG o a0 a b) (m:MH o a b out (na + 1) nb) (h:na < a.size) (hb:∀ x∈b.toList.take nb,o.lt x (G a na)):MH o a b (out.push (G a na)) na nb:=by
  have e:=take_snoc h
  refine ⟨?_,?_,?_⟩
  · refine List.Perm.trans ?_ m.perm
    rw [e,Array.toList_push,List.reverse_append]
    show ((List.take na a.toList++List.take nb b.toList)++(G a na :: out.toList.reverse)).Perm ((List.take na a.toList++[G a na])++List.take nb b.toList++out.toList.reverse)
    refine List.perm_middle.trans ?_
    rw [← List.cons_append]
    refine List.Perm.append_right _ ?_
    rw [List.append_assoc]
    exact List.perm_middle.symm
  · rw [Array.toList_push,List.reverse_append]
    show (G a na :: out.toList.reverse).Pairwise o.lt
    refine List.pairwise_cons.mpr ⟨fun y hy=>?_,m.srt⟩
    exact m.lt _ (by rw [e];simp) y (List.mem_reverse.mp hy)
  · intro x hx y hy
    rw [Array.toList_push] at hy
    rcases List.mem_append.mp hy with hy | hy
    · refine m.lt x ?_ y hy
      rw [e]
      rcases List.mem_append.mp hx with hx | hx
      · exact List.mem_append_left _ (List.mem_append_left _ hx)
      · exact List.mem_append_right _ hx
    · rw [List.mem_singleton] at hy;subst hy
      rcases List.mem_append.mp hx with hx | hx
      · obtain ⟨i,h1,h2,rfl⟩:=mem_take_G hx
        exact pw_G g.sA (by omega) h
      · exact hb x hx
theorem MH.pushB {a0 a b out:Array Keyed} {na nb:Nat} (g:MG o a0 a b) (m:MH o a b out na (nb + 1)) (h:nb < b.size) (hb:∀ x∈a.toList.take na,o.lt x (G b nb)):MH o a b (out.push (G b nb)) na nb:=by
  have e:=take_snoc h
  refine ⟨?_,?_,?_⟩
  · refine List.Perm.trans ?_ m.perm
    rw [e,Array.toList_push,List.reverse_append]
    show ((List.take na a.toList++List.take nb b.toList)++(G b nb :: out.toList.reverse)).Perm (List.take na a.toList++(List.take nb b.toList++[G b nb])++out.toList.reverse)
    rw [← List.append_assoc,List.append_assoc _ [G b nb]]
    exact List.Perm.refl _
  · rw [Array.toList_push,List.reverse_append]
    show (G b nb :: out.toList.reverse).Pairwise o.lt
    refine List.pairwise_cons.mpr ⟨fun y hy=>?_,m.srt⟩
    exact m.lt _ (by rw [e];simp) y (List.mem_reverse.mp hy)
  · intro x hx y hy
    rw [Array.toList_push] at hy
    rcases List.mem_append.mp hy with hy | hy
    · refine m.lt x ?_ y hy
      rw [e]
      rcases List.mem_append.mp hx with hx | hx
      · exact List.mem_append_left _ hx
      · exact List.mem_append_right _ (List.mem_append_left _ hx)
    · rw [List.mem_singleton] at hy;subst hy
      rcases List.mem_append.mp hx with hx | hx
      · exact hb x hx
      · obtain ⟨i,h1,h2,rfl⟩:=mem_take_G hx
        exact pw_G g.sB (by omega) h
theorem push_blockR (xs out:Array Keyed) (i k:Nat) (h:i + k < xs.size):out++(xs.extract i (i + k + 1)).reverse=(out.push (G xs (i + k)))++(xs.extract i (i + k)).reverse:=by
  have e:=push_block xs #[] i k h
  rw [show i + (k + 1)=i + k + 1 by omega] at e
  have e:xs.extract i (i + k + 1)=(xs.extract i (i + k)).push (G xs (i + k)):=by simpa using e
  rw [e]
  apply Array.toList_inj.mp
  simp
theorem MH.blockA {a0 a b:Array Keyed} {t nb:Nat} (g:MG o a0 a b):∀ (k:Nat) (out:Array Keyed),MH o a b out (t + k) nb→t + k≤a.size→(∀ i,t≤i→i < t + k→∀ x∈b.toList.take nb,o.lt x (G a i))→MH o a b (out++(a.extract t (t + k)).reverse) t nb
  | 0,out,m,_,_=>by
    have:out++(a.extract t (t + 0)).reverse=out:=by
      apply Array.toList_inj.mp
      rw [Array.toList_append,Array.toList_reverse,Array.toList_extract,List.extract_eq_take_drop,Nat.add_zero,Nat.sub_self,List.take_zero,List.reverse_nil,List.append_nil]
    rw [this];exact m
  | k + 1,out,m,h,hb=>by
    have e1:t + (k + 1)=t + k + 1:=by omega
    rw [e1] at m
    rw [e1,push_blockR a out t k (by omega)]
    exact MH.blockA g k _ (m.pushA g (by omega) (hb (t + k) (by omega) (by omega))) (by omega) fun i h1 h2=>hb i h1 (by omega)
theorem MH.blockB {a0 a b:Array Keyed} {t na:Nat} (g:MG o a0 a b):∀ (k:Nat) (out:Array Keyed),MH o a b out na (t + k)→t + k≤b.size→(∀ i,t≤i→i < t + k→∀ x∈a.toList.take na,o.lt x (G b i))→MH o a b (out++(b.extract t (t + k)).reverse) na t
  | 0,out,m,_,_=>by
    have:out++(b.extract t (t + 0)).reverse=out:=by
      apply Array.toList_inj.mp
      rw [Array.toList_append,Array.toList_reverse,Array.toList_extract,List.extract_eq_take_drop,Nat.add_zero,Nat.sub_self,List.take_zero,List.reverse_nil,List.append_nil]
    rw [this];exact m
  | k + 1,out,m,h,hb=>by
    have e1:t + (k + 1)=t + k + 1:=by omega
    rw [e1] at m
    rw [e1,push_blockR b out t k (by omega)]
    exact MH.blockB g k _ (m.pushB g (by omega) (hb (t + k) (by omega) (by omega))) (by omega) fun i h1 h2=>hb i h1 (by omega)
theorem ext_take (xs:Array Keyed) (i:Nat):(xs.extract 0 i).toList=xs.toList.take i:=by
  rw [Array.toList_extract,List.extract_eq_take_drop];simp
theorem MH.done {a0 a b out:Array Keyed} {na nb:Nat} (g:MG o a0 a b) (m:MH o a b out na nb) (h:na=0∨nb=0):MR o a b (a.extract 0 na++b.extract 0 nb++out.reverse):=by
  have e:(a.extract 0 na++b.extract 0 nb++out.reverse).toList=(a.toList.take na++b.toList.take nb)++out.toList.reverse:=by
    rw [Array.toList_append,Array.toList_append,ext_take,ext_take,Array.toList_reverse]
  refine ⟨by rw [e];exact m.perm,?_⟩
  rw [e]
  refine List.pairwise_append.mpr ⟨?_,m.srt,fun x hx y hy=>m.lt x hx y (List.mem_reverse.mp hy)⟩
  rcases h with h | h
  · rw [h,List.take_zero,List.nil_append];exact g.sB.take
  · rw [h,List.take_zero,List.append_nil];exact g.sA.take
theorem MH.firstB {a0 a b out:Array Keyed} {na nb:Nat} (g:MG o a0 a b) (m:MH o a b out na nb) (h:nb=1):MR o a b (b.extract 0 nb++a.extract 0 na++out.reverse):=by
  have e:(b.extract 0 nb++a.extract 0 na++out.reverse).toList=(b.toList.take nb++a.toList.take na)++out.toList.reverse:=by
    rw [Array.toList_append,Array.toList_append,ext_take,ext_take,Array.toList_reverse]
  refine ⟨by rw [e];exact (List.Perm.append_right _ List.perm_append_comm).trans m.perm,?_⟩
  rw [e]
  refine List.pairwise_append.mpr ⟨List.pairwise_append.mpr ⟨g.sB.take,g.sA.take,fun x hx y hy=>?_⟩,m.srt,fun x hx y hy=>m.lt x ?_ y (List.mem_reverse.mp hy)⟩
  · obtain ⟨i,h1,h2,rfl⟩:=mem_take_G hx
    have:i=0:=by omega
    subst this
    exact g.first y (List.mem_of_mem_take hy)
  · rcases List.mem_append.mp hx with hx | hx
    · exact List.mem_append_right _ hx
    · exact List.mem_append_left _ hx
theorem MH.start {a0 a b:Array Keyed} (g:MG o a0 a b):MH o a b #[G a (a.size - 1)] (a.size - 1) b.size:=by
  have m:MH o a b #[] (a.size - 1 + 1) b.size:=by
    have nA:=g.nA
    refine ⟨?_,by simp,fun x hx y hy=>by simp at hy⟩
    rw [show a.size - 1 + 1=a.size by omega,List.take_of_length_le (by simp),List.take_of_length_le (by simp)]
    simp
  have nA:=g.nA
  exact m.pushA g (by omega) fun y hy=>g.last y (List.mem_of_mem_take hy)
section
variable {prog:Program} {w:World} {A:Around} {E:Value→Shared→Prop} {s:Shared} {a0:Array Keyed} {kd:SortKind}
theorem above_b {a b:Array Keyed} (g:MG o a0 a b) {y:Keyed} {nb:Nat} (hnb:nb < b.size) (h:o.lt (G b nb) y):∀ x∈b.toList.take (nb + 1),o.lt x y:=fun x hx=>by
  obtain ⟨i,h1,h2,rfl⟩:=mem_take_G hx
  by_cases q:i=nb
  · subst q;exact h
  · exact Od.lt_trans (pw_G g.sB (by omega) hnb) h
theorem above_a {a b:Array Keyed} (g:MG o a0 a b) {y:Keyed} {na:Nat} (hna:na < a.size) (h:o.lt (G a na) y):∀ x∈a.toList.take (na + 1),o.lt x y:=fun x hx=>by
  obtain ⟨i,h1,h2,rfl⟩:=mem_take_G hx
  by_cases q:i=na
  · subst q;exact h
  · exact Od.lt_trans (pw_G g.sA (by omega) hna) h
noncomputable abbrev Hr:=Option (Array Keyed)×Nat×Nat×Array Keyed×Nat×Nat×Nat
noncomputable def HI (o:Od) (a b:Array Keyed) (st0:SortSt) (lim:Nat) (c:Hr) (st:SortSt):Prop :=
  Al st0 st∧∃ out na nb mg ac bc,c=(none,na,nb,out,mg,ac,bc)∧MH o a b out na nb∧1≤na∧2≤nb∧na≤a.size∧nb≤b.size∧na + nb≤lim
noncomputable def HD (o:Od) (a b:Array Keyed) (st0:SortSt) (lim:Nat) (c:Hr) (st:SortSt):Prop :=
  (Al st0 st∧∃ r,c.1=some r∧MR o a b r)∨HI o a b st0 lim c st
noncomputable def HS (o:Od) (a b:Array Keyed) (st0:SortSt) (lim:Nat) (r:ForInStep Hr) (st:SortSt):Prop:=match r with
  | .done c=>HD o a b st0 lim c st
  | .yield c=>HI o a b st0 lim c st
theorem wp_mergeHi (hO:LtOk prog w A s kd a0 o) {a b:Array Keyed} {st0:SortSt} {Q:Array Keyed→SortSt→Prop} (g:MG o a0 a b) (hk:kindOf st0=kd)
    (h:∀ r st,MR o a b r→Al st0 st→Q r st):wpS (model prog w) A E s (mergeHi' a b) Q st0:=by
  rw [mergeHi'_eq]
  refine wpS_bind (wpS_lift (wpAny_rule ⟨rfl,?_⟩))
  have nA:=g.nA
  have nB:=g.nB
  extract_lets +onlyGivenNames total done firstOfB
  have hdone:∀ out na nb,MH o a b out na nb→(na=0∨nb=0)→MR o a b (done out na nb):=fun out ia ib m q=>m.done g q
  have hfirst:∀ out na nb,MH o a b out na nb→nb=1→MR o a b (firstOfB out na nb):=fun out ia ib m q=>m.firstB g q
  have htot:total=a.size + b.size:=rfl
  clear_value done firstOfB total
  have m0:=MH.start g
  refine wpS_bind (wp_elem (xs:=a) (i:=a.size - 1) (by omega) ?_)
  refine wp_ite (fun ha1=>?_) (fun ha1=>?_)
  · have ha1:(a.size - 1 == 0)=true:=ha1
    exact wpS_pure (h _ _ (hdone _ _ _ m0 (.inl (by simpa using ha1))) (Al.refl _))
  have ha1:¬ (a.size - 1 == 0)=true:=ha1
  have ha1:a.size - 1≠0:=by simpa using ha1
  refine wp_ite (fun hb1=>?_) (fun hb1=>?_)
  · have hb1:(b.size == 1)=true:=hb1
    exact wpS_pure (h _ _ (hfirst _ _ _ m0 (by simpa using hb1)) (Al.refl _))
  have hb1:¬ (b.size == 1)=true:=hb1
  have hb1:b.size≠1:=by simpa using hb1
  refine wpS_bind (wpS_get ?_)
  refine wpS_bind (wpS_mono (wpS_forRange
    (I:=fun t c st=>Al st0 st∧∃ out na nb mg,c=((none,na,nb,out,mg):Option (Array Keyed)×Nat×Nat×Array Keyed×Nat)∧MH o a b out na nb∧1≤na∧2≤nb∧na≤a.size∧nb≤b.size∧na + nb + t + 1≤a.size + b.size)
    (Q:=fun c st=>Al st0 st∧∃ r,c.1=some r∧MR o a b r) ?step ?fin ⟨Al.refl _,_,a.size - 1,b.size,_,rfl,m0,by omega,by omega,by omega,by omega,by omega⟩) ?post)
  case fin =>
    rintro c st ⟨_,out,ia,ib,mg,rfl,_,h1,h2,h3,h4,h5⟩
    omega
  case post =>
    rintro ⟨r0,c⟩ st ⟨al,r,rfl,mr⟩
    exact wpS_pure (h r st mr al)
  case step =>
    rintro t c st _ ht ⟨al,out,na,nb,mg,rfl,m,h1,h2,h3,h4,h5⟩
    refine wpS_bind (wpS_mono (wpS_forRange
      (I:=fun t c st'=>st'=st∧∃ out na' nb' ac bc,c=((none,na',nb',out,ac,bc):Option (Array Keyed)×Nat×Nat×Array Keyed×Nat×Nat)∧MH o a b out na' nb'∧1≤na'∧2≤nb'∧na'≤a.size∧nb'≤b.size∧na' + nb' + t≤na + nb)
      (Q:=fun c st'=>st'=st∧((∃ r,c.1=some r∧MR o a b r)∨∃ out na' nb' ac bc,c=((none,na',nb',out,ac,bc):Option (Array Keyed)×Nat×Nat×Array Keyed×Nat×Nat)∧MH o a b out na' nb'∧1≤na'∧2≤nb'∧na'≤a.size∧nb'≤b.size∧na' + nb' + 1≤na + nb))
      ?step1 ?fin1 ⟨rfl,out,na,nb,0,0,rfl,m,h1,h2,h3,h4,by omega⟩) ?post1)
    case fin1 =>
      rintro c st' ⟨rfl,out,na',nb',ac,bc,rfl,m,q1,q2,q3,q4,q5⟩
      exact ⟨rfl,.inr ⟨out,na',nb',ac,bc,rfl,m,q1,q2,q3,q4,by omega⟩⟩
    case step1 =>
      clear m h1 h2 h3 h4 h5
      rintro t' c st' _ ht' ⟨rfl,out,na',nb',ac,bc,rfl,m,q1,q2,q3,q4,q5⟩
      obtain ⟨na1,rfl⟩:∃ k,na'=k + 1:=⟨na' - 1,by omega⟩
      obtain ⟨nb1,rfl⟩:∃ k,nb'=k + 1:=⟨nb' - 1,by omega⟩
      refine wpS_bind (wp_elem (xs:=b) (i:=nb1) (by omega) (wpS_bind (wp_elem (xs:=a) (i:=na1) (by omega) (wpS_bind (wp_lt hO (al.kind.trans hk) (g.mB _ (G_mem (by omega))) (g.mA _ (G_mem (by omega))) ?_)))))
      have r:=g.rk _ (G_mem (xs:=a) (i:=na1) (by omega)) _ (G_mem (xs:=b) (i:=nb1) (by omega))
      refine wp_ite (fun hw=>?_) (fun hw=>?_)
      · have m2:=m.pushA g (by omega) (above_b g (by omega) (Od.of_b hw))
        refine wpS_bind (wp_elem (xs:=a) (i:=na1) (by omega) (wp_ite (fun hb2=>?_) (fun hb2=>?_)))
        · have hb2:(na1 == 0)=true:=hb2
          exact wpS_pure ⟨rfl,.inl ⟨_,rfl,hdone _ _ _ m2 (.inl (by simpa using hb2))⟩⟩
        have hb2:¬ (na1 == 0)=true:=hb2
        have hb2:na1≠0:=by simpa using hb2
        refine wp_ite (fun _=>?_) (fun _=>?_)
        · exact wpS_pure ⟨rfl,.inr ⟨_,na1,nb1 + 1,_,_,rfl,m2,by omega,q2,by omega,q4,by omega⟩⟩
        · exact wpS_pure ⟨rfl,_,na1,nb1 + 1,_,_,rfl,m2,by omega,q2,by omega,q4,by omega⟩
      · have m2:=m.pushB g (by omega) (above_a g (by omega) (Od.of_nb (Bool.eq_false_iff.mpr hw) r))
        refine wpS_bind (wp_elem (xs:=b) (i:=nb1) (by omega) (wp_ite (fun hb2=>?_) (fun hb2=>?_)))
        · have hb2:(nb1 == 1)=true:=hb2
          exact wpS_pure ⟨rfl,.inl ⟨_,rfl,hfirst _ _ _ m2 (by simpa using hb2)⟩⟩
        have hb2:¬ (nb1 == 1)=true:=hb2
        have hb2:nb1≠1:=by simpa using hb2
        refine wp_ite (fun _=>?_) (fun _=>?_)
        · exact wpS_pure ⟨rfl,.inr ⟨_,na1 + 1,nb1,_,_,rfl,m2,q1,by omega,q3,by omega,by omega⟩⟩
        · exact wpS_pure ⟨rfl,_,na1 + 1,nb1,_,_,rfl,m2,q1,by omega,q3,by omega,by omega⟩
    case post1 =>
      rintro ⟨r0,c⟩ st' ⟨rfl,⟨r,rfl,mr⟩ | ⟨out,na',nb',ac,bc,e,m,q1,q2,q3,q4,q5⟩⟩
      · exact wpS_pure ⟨al,r,rfl,mr⟩
      cases e
      refine wpS_bind (wpS_lift (wpAny_rule ⟨rfl,?_⟩))
      refine wpS_bind (wpS_mono (wpS_forRange (I:=fun t c st'=>HI o a b st0 (na + nb - 1) c st') (Q:=fun c st'=>HD o a b st0 (na + nb - 1) c st')
        ?step2 ?fin2 ⟨al,out,na',nb',_,ac,bc,rfl,m,q1,q2,q3,q4,by omega⟩) ?post2)
      case fin2=>exact fun c st2 hi=>.inr hi
      case post2 =>
        rintro ⟨r0,c⟩ st2 (⟨al2,r,rfl,mr⟩ | ⟨al2,out,na2,nb2,mg2,ac,bc,e,m,q1,q2,q3,q4,q5⟩)
        · exact wpS_pure ⟨al2,r,rfl,mr⟩
        cases e
        exact wpS_bind (wp_setGal (wpS_pure ⟨al2.gal _,out,na2,nb2,_,rfl,m,q1,q2,q3,q4,by omega⟩))
      case step2 =>
        clear m q1 q2 q3 q4 q5
        rintro t2 c st2 _ ht2 ⟨al2,out,na2,nb2,mg2,ac,bc,rfl,m,q1,q2,q3,q4,q5⟩
        obtain ⟨nb3,rfl⟩:∃ k,nb2=k + 1:=⟨nb2 - 1,by omega⟩
        extract_lets -merge +onlyGivenNames s1 i1 s2 i2 s3 o1 s4 m1 s5 c1 c2 ib3 jp
        have hjp:∀ (mg:Nat) (st2:SortSt),Al st0 st2→wpS (model prog w) A E s (jp () mg) (HS o a b st0 (na + nb - 1)) st2:=by
          intro mg st3 al3
          refine wpS_bind (wp_setGal ?_)
          have al4:=al3.gal mg
          refine wpS_bind (wp_elem (xs:=b) (i:=nb3) (by omega) (wpS_bind (wp_gallopF hO g (al4.kind.trans hk) (j:=nb3) (base:=0) (n:=na2) (hint:=na2 - 1) (by omega) (by omega) (by omega) fun k k1 k2 k3=>?_)))
          have k2:∀ i,i < k→o.lt (G a i) (G b nb3):=fun i hi=>by have:=k2 i hi;rwa [Nat.zero_add] at this
          have k3:∀ i,k≤i→i < na2→o.lt (G b nb3) (G a i):=fun i hi hi2=>by have:=k3 i hi hi2;rwa [Nat.zero_add] at this
          obtain ⟨kk,ek⟩:∃ kk,na2=k + kk:=⟨na2 - k,by omega⟩
          have m2:MH o a b (out++(a.extract k na2).reverse) k (nb3 + 1):=by
            rw [ek] at m ⊢
            exact MH.blockA g kk out m (by omega) fun i hi hi2=>above_b g (by omega) (k3 i hi (by omega))
          dsimp -zeta only
          extract_lets -merge +onlyGivenNames c3 c5 jp2
          have hjp2:∀ na3 out3,MH o a b out3 na3 (nb3 + 1)→1≤na3→na3≤na2→o.lt (G a (na3 - 1)) (G b nb3)→wpS (model prog w) A E s (jp2 () na3 out3) (HS o a b st0 (na + nb - 1)) (setGal st3 mg):=by
            intro na3 out3 m3 p1 p2 p3
            obtain ⟨na4,rfl⟩:∃ k,na3=k + 1:=⟨na3 - 1,by omega⟩
            have m4:=m3.pushB g (by omega) (above_a g (by omega) p3)
            refine wpS_bind (wp_elem (xs:=b) (i:=nb3) (by omega) (wp_ite (fun hb2=>?_) (fun hb2=>?_)))
            · have hb2:(nb3 == 1)=true:=hb2
              exact wpS_pure (.inl ⟨al4,_,rfl,hfirst _ (na4 + 1) nb3 m4 (by simpa using hb2)⟩)
            have hb2:¬ (nb3 == 1)=true:=hb2
            have hb2:nb3≠1:=by simpa using hb2
            refine wpS_bind (wp_elem (xs:=a) (i:=na4) (by omega) (wpS_bind (wp_gallopT hO g (al4.kind.trans hk) (j:=na4) (base:=0) (n:=nb3) (hint:=nb3 - 1) (by omega) (by omega) (by omega) fun k' k1' k2' k3'=>?_)))
            have k2':∀ i,i < k'→o.lt (G b i) (G a na4):=fun i hi=>by have:=k2' i hi;rwa [Nat.zero_add] at this
            have k3':∀ i,k'≤i→i < nb3→o.lt (G a na4) (G b i):=fun i hi hi2=>by have:=k3' i hi hi2;rwa [Nat.zero_add] at this
            obtain ⟨kk',ek'⟩:∃ kk,nb3=k' + kk:=⟨nb3 - k',by omega⟩
            have m5:MH o a b (out3.push (G b nb3)++(b.extract k' nb3).reverse) (na4 + 1) k':=by
              have m4':=m4
              rw [show MH o a b (out3.push (G b nb3)) (na4 + 1) nb3=MH o a b (out3.push (G b nb3)) (na4 + 1) (k' + kk') by rw [← ek']] at m4'
              have:=MH.blockB g kk' _ m4' (by omega) fun i hi hi2=>above_a g (by omega) (k3' i hi (by omega))
              rwa [← ek'] at this
            dsimp -zeta only
            extract_lets -merge +onlyGivenNames c6 c7 ia4 jp3
            have hjp3:∀ nb4 out4,MH o a b out4 (na4 + 1) nb4→2≤nb4→nb4≤nb3→o.lt (G b (nb4 - 1)) (G a na4)→wpS (model prog w) A E s (jp3 () nb4 out4) (HS o a b st0 (na + nb - 1)) (setGal st3 mg):=by
              intro nb4 out4 m6 r1 r2 r3
              obtain ⟨nb5,rfl⟩:∃ k,nb4=k + 1:=⟨nb4 - 1,by omega⟩
              have m7:=m6.pushA g (by omega) (above_b g (by omega) r3)
              refine wpS_bind (wp_elem (xs:=a) (i:=na4) (by omega) (wp_ite (fun hb3=>?_) (fun hb3=>?_)))
              · have hb3:(na4 == 0)=true:=hb3
                exact wpS_pure (.inl ⟨al4,_,rfl,hdone _ na4 (nb5 + 1) m7 (.inl (by simpa using hb3))⟩)
              have hb3:¬ (na4 == 0)=true:=hb3
              have hb3:na4≠0:=by simpa using hb3
              refine wp_ite (fun _=>?_) (fun _=>?_)
              · exact wpS_pure (.inr ⟨al4,_,na4,nb5 + 1,_,_,_,rfl,m7,by omega,r1,by omega,by omega,by omega⟩)
              · exact wpS_pure ⟨al4,_,na4,nb5 + 1,_,_,_,rfl,m7,by omega,r1,by omega,by omega,by omega⟩
            clear_value jp3
            refine wp_ite (fun hk0=>?_) (fun hk0=>?_)
            · have hk0:nb3 - k' > 0:=hk0
              refine wp_ite (fun hb3=>?_) (fun hb3=>?_)
              · have hb3:(k' == 1)=true:=hb3
                exact wpS_pure (.inl ⟨al4,_,rfl,hfirst _ _ _ m5 (by simpa using hb3)⟩)
              have hb3:¬ (k' == 1)=true:=hb3
              have hb3:k'≠1:=by simpa using hb3
              refine wp_ite (fun hb4=>?_) (fun hb4=>?_)
              · have hb4:(k' == 0)=true:=hb4
                exact wpS_pure (.inl ⟨al4,_,rfl,hdone _ _ _ m5 (.inr (by simpa using hb4))⟩)
              have hb4:¬ (k' == 0)=true:=hb4
              have hb4:k'≠0:=by simpa using hb4
              exact hjp3 k' _ m5 (by omega) (by omega) (k2' (k' - 1) (by omega))
            · have hk0:¬ nb3 - k' > 0:=hk0
              exact hjp3 nb3 _ m4 (by omega) (by omega) (k2' (nb3 - 1) (by omega))
          clear_value jp2
          refine wp_ite (fun hk0=>?_) (fun hk0=>?_)
          · have hk0:na2 - k > 0:=hk0
            refine wp_ite (fun hb3=>?_) (fun hb3=>?_)
            · have hb3:(k == 0)=true:=hb3
              exact wpS_pure (.inl ⟨al4,_,rfl,hdone _ _ _ m2 (.inl (by simpa using hb3))⟩)
            have hb3:¬ (k == 0)=true:=hb3
            have hb3:k≠0:=by simpa using hb3
            exact hjp2 k _ m2 (by omega) (by omega) (k2 (k - 1) (by omega))
          · have hk0:¬ na2 - k > 0:=hk0
            exact hjp2 na2 _ m q1 (by omega) (k2 (na2 - 1) (by omega))
        clear_value jp
        refine wp_ite (fun _=>?_) (fun _=>?_)
        · exact wpS_mono (hjp (mg2 - 1) _ al2) fun r st' hr=>by cases r <;> exact hr
        · exact wpS_mono (hjp mg2 _ al2) fun r st' hr=>by cases r <;> exact hr
end
end Tim
end
section
namespace Tim
open PySem PyProof.Rows
variable {o:Od}
theorem wb_list (c:Nat):∀ (l:List Keyed) (n:Nat) (xs:Array Keyed),c + n + l.length≤xs.size →
    ((l.zipIdx n).foldl (fun a (p:Keyed×Nat)=>a.setIfInBounds (c + p.2) p.1) xs).toList=xs.toList.take (c + n)++l++xs.toList.drop (c + n + l.length)
  | [],n,xs,_=>by simp
  | p :: l,n,xs,h=>by
    rw [List.length_cons] at h
    rw [List.zipIdx_cons,List.foldl_cons]
    have hs:(xs.setIfInBounds (c + n) p).size=xs.size:=by simp
    rw [wb_list c l (n + 1) _ (by rw [hs];omega)]
    have hl:xs.toList.length=xs.size:=by simp
    have e:(xs.setIfInBounds (c + n) p).toList=xs.toList.set (c + n) p:=by simp
    dsimp only
    rw [e]
    have e1:(xs.toList.set (c + n) p).take (c + (n + 1))=xs.toList.take (c + n)++[p]:=by
      rw [show c + (n + 1)=c + n + 1 by omega,List.take_succ,List.getElem?_set_self (by omega),List.take_set_of_le (by omega)];rfl
    rw [e1,List.drop_set_of_lt (by omega),List.length_cons,List.append_assoc (xs.toList.take (c + n)) [p] l]
    rw [show c + (n + 1) + l.length=c + n + (l.length + 1) by omega]
    rfl
noncomputable def wback (c:Nat) (r xs:Array Keyed):Array Keyed:=r.toList.zipIdx.foldl (fun a (p:Keyed×Nat)=>a.setIfInBounds (c + p.2) p.1) xs
theorem wback_list {c:Nat} {r xs:Array Keyed} (h:c + r.size≤xs.size):(wback c r xs).toList=xs.toList.take c++r.toList++xs.toList.drop (c + r.size):=by
  have e:=wb_list c r.toList 0 xs (by simpa using h)
  rw [Nat.add_zero,Array.length_toList] at e
  exact e
theorem wback_G {c:Nat} {r xs:Array Keyed} (h:c + r.size≤xs.size) (i:Nat):G (wback c r xs) i=if c≤i∧i < c + r.size then G r (i - c) else G xs i:=by
  have hl:(xs.toList.take c).length=c:=by simp;omega
  have hr:r.toList.length=r.size:=by simp
  have e:(wback c r xs)[i]? = (xs.toList.take c++r.toList++xs.toList.drop (c + r.size))[i]?:=by
    rw [← wback_list h];simp
  unfold G
  rw [e]
  by_cases h1:i < c
  · rw [if_neg (by omega),List.append_assoc,List.getElem?_append_left (by omega),List.getElem?_take_of_lt h1];simp
  · by_cases h2:i < c + r.size
    · rw [if_pos (by omega),List.append_assoc,List.getElem?_append_right (by omega),List.getElem?_append_left (by omega),hl];simp
    · rw [if_neg (by omega),List.getElem?_append_right (by rw [List.length_append];omega),List.length_append,hl,hr,List.getElem?_drop]
      rw [show c + r.size + (i - (c + r.size))=i by omega];simp
theorem wback_perm {c d:Nat} {r xs:Array Keyed} (h:c + r.size≤xs.size) (hd:r.size=d) (hp:r.toList.Perm ((xs.toList.drop c).take d)):(wback c r xs).Perm xs:=by
  rw [Array.perm_iff_toList_perm,wback_list h]
  have e:xs.toList=xs.toList.take c++(xs.toList.drop c).take d++xs.toList.drop (c + d):=by
    rw [List.append_assoc,← List.drop_drop,List.take_append_drop,List.take_append_drop]
  refine List.Perm.trans ?_ (List.Perm.of_eq e.symm)
  rw [hd]
  exact List.Perm.append_right _ (List.Perm.append_left _ hp)
theorem ext_G {xs:Array Keyed} {a b i:Nat} (h:a + i < b) (hb:b≤xs.size):G (xs.extract a b) i=G xs (a + i):=by
  unfold G
  rw [Array.getElem?_extract,if_pos (by omega)]
theorem ext_size {xs:Array Keyed} {a b:Nat} (hab:a≤b) (hb:b≤xs.size):(xs.extract a b).size=b - a:=by simp;omega
theorem mem_ext {xs:Array Keyed} {a b:Nat} {x:Keyed} (hab:a≤b) (hb:b≤xs.size) (h:x∈(xs.extract a b).toList):∃ i,a≤i∧i < b∧x=G xs i:=by
  obtain ⟨i,_,h2,e⟩:=mem_drop_G (xs:=xs.extract a b) (j:=0) (x:=x) (by simpa using h)
  rw [ext_size hab hb] at h2
  rw [ext_G (by omega) hb] at e
  exact ⟨a + i,by omega,by omega,e⟩
theorem pw_of_G {xs:Array Keyed} (h:∀ i j,i < j→j < xs.size→o.lt (G xs i) (G xs j)):xs.toList.Pairwise o.lt:=by
  rw [List.pairwise_iff_getElem]
  intro i j hi hj hij
  have hj':j < xs.size:=by simpa using hj
  have q:=h i j hij hj'
  have e1:=G_at (xs:=xs) (i:=i) (by omega)
  have e2:=G_at (xs:=xs) (i:=j) hj'
  rw [getElem?_pos xs i (by omega)] at e1
  rw [getElem?_pos xs j hj'] at e2
  rw [← Option.some.inj e1,← Option.some.inj e2] at q
  simpa using q
theorem mergeAt'_eq (i:Nat):mergeAt' i=(do
  let s ← get
  let (some (sa,na,power),some (sb,nb,_)):=((pendingOf s)[i]?,(pendingOf s)[i + 1]?) | unsupported "internal:list.sort.pending"
  set (setPending s (((pendingOf s).setIfInBounds i (sa,na + nb,power)).eraseIdxIfInBounds (i + 1)))
  let some k ← gallop' false (← elem' (arrOf s) sb) (arrOf s) sa na 0 | return false
  let (sa,na):=(sa + k,na - k)
  if na == 0 then return true
  let some nb ← gallop' true (← elem' (arrOf s) (sa + na - 1)) (arrOf s) sb nb (nb - 1) | return false
  if nb == 0 then return true
  let x:=(arrOf s).extract sa sb
  let y:=(arrOf s).extract sb (sb + nb)
  let merged ← if na≤nb then mergeLo' x y else mergeHi' x y
  modify fun s=>setArr s (merged.toList.zipIdx.foldl (fun a (p,j)=>a.setIfInBounds (sa + j) p) (arrOf s))
  return (failedOf (← get)).isNone):=rfl
section
variable {prog:Program} {w:World} {A:Around} {E:Value→Shared→Prop} {s:Shared} {a0:Array Keyed} {kd:SortKind}
theorem wpS_set {σ:Type} {M:Model} {st':σ} {Q:PUnit→σ→Prop} {st:σ} (h:Q ⟨⟩ st'):wpS M A E s (set st':StateT σ Sem PUnit) Q st:=by
  unfold wpS
  rw [StateT.run_set]
  exact wpAny_pure ⟨rfl,h⟩
structure Two (o:Od) (xs:Array Keyed) (sa na nb:Nat):Prop where
  nA:1≤na
  nB:1≤nb
  sz:sa + na + nb≤xs.size
  sA:Srt o xs sa (sa + na)
  sB:Srt o xs (sa + na) (sa + na + nb)
  rA:Rng o xs sa (sa + na)
  rB:Rng o xs (sa + na) (sa + na + nb)
theorem Two.rk {xs:Array Keyed} {sa na nb i j:Nat} (t:Two o xs sa na nb) (h1:sa≤i) (h2:i < sa + na) (h3:sa + na≤j) (h4:j < sa + na + nb):o.rk (G xs i) < o.rk (G xs j):=by
  have:=(t.rA i h1 h2).2
  have:=(t.rB j h3 h4).1
  omega
theorem Two.rng {xs:Array Keyed} {sa na nb:Nat} (t:Two o xs sa na nb):Rng o xs sa (sa + na + nb):=fun i h1 h2=>by
  by_cases q:i < sa + na
  · have:=t.rA i h1 q;omega
  · have:=t.rB i (by omega) h2;omega
theorem Two.still {xs:Array Keyed} {sa na nb:Nat} (t:Two o xs sa na nb) (h:o.lt (G xs (sa + na - 1)) (G xs (sa + na))):Srt o xs sa (sa + na + nb):=fun i j h1 h2 h3=>by
  have nA:=t.nA
  by_cases q:j < sa + na
  · exact t.sA i j h1 h2 q
  · by_cases q2:sa + na≤i
    · exact t.sB i j q2 h2 h3
    · have l1:o.lt (G xs i) (G xs (sa + na)):=by
        by_cases q3:i=sa + na - 1
        · rw [q3];exact h
        · exact Od.lt_trans (t.sA i (sa + na - 1) h1 (by omega) (by omega)) h
      by_cases q4:j=sa + na
      · rw [q4];exact l1
      · exact Od.lt_trans l1 (t.sB _ j (Nat.le_refl _) (by omega) h3)
theorem wp_mergeAt (hO:LtOk prog w A s kd a0 o) {st:SortSt} {i sa na nb p q:Nat} {Q:Bool→SortSt→Prop} (hB:SB kd a0 st) (h1:(pendingOf st)[i]? = some (sa,na,p)) (h2:(pendingOf st)[i + 1]? = some (sa + na,nb,q))
    (t:Two o (arrOf st) sa na nb)
    (h:∀ st',SB kd a0 st'→pendingOf st'=((pendingOf st).setIfInBounds i (sa,na + nb,p)).eraseIdxIfInBounds (i + 1)→Srt o (arrOf st') sa (sa + na + nb)→Rng o (arrOf st') sa (sa + na + nb) →
      (∀ j,(j < sa∨sa + na + nb≤j)→G (arrOf st') j=G (arrOf st) j)→Q true st'):wpS (model prog w) A E s (mergeAt' i) Q st:=by
  have nA:=t.nA
  have nB:=t.nB
  have sz:=t.sz
  have hsz:=hB.size
  have mem:∀ j,j < sa + na + nb→G (arrOf st) j∈a0.toList:=fun j hj=>hB.mem (by omega)
  rw [mergeAt'_eq]
  refine wpS_bind (wpS_get ?_)
  rw [h1,h2]
  refine wpS_bind (wpS_set ?_)
  have hB1:SB kd a0 (setPending st (((pendingOf st).setIfInBounds i (sa,na + nb,p)).eraseIdxIfInBounds (i + 1))):=⟨hB.perm,hB.kind,hB.failed⟩
  have gF:∀ i,sa + i < sa + na→(gp o false (G (arrOf st) (sa + na)) (arrOf st) sa i=true↔o.lt (G (arrOf st) (sa + i)) (G (arrOf st) (sa + na))):=fun i hi=>by
    have r:=t.rk (i:=sa + i) (j:=sa + na) (by omega) hi (Nat.le_refl _) (by omega)
    unfold gp
    simp only [Bool.false_eq_true,if_false,Bool.not_eq_true']
    exact ⟨fun z=>Od.of_nb z r,fun z=>Od.le_of z⟩
  refine wpS_bind (wp_elem (xs:=arrOf st) (i:=sa + na) (by omega) (wpS_bind (wp_gallop hO hB1.kind (mem _ (by omega)) (fun i hi=>⟨by omega,mem _ (by omega)⟩) (by omega)
    (fun i j hi hj hz=>(gF i (by omega)).mpr (Od.lt_trans (t.sA _ _ (by omega) (by omega) (by omega)) ((gF j (by omega)).mp hz))) fun k k1 k2 k3=>?_)))
  have k2:∀ i,i < k→o.lt (G (arrOf st) (sa + i)) (G (arrOf st) (sa + na)):=fun i hi=>(gF i (by omega)).mp (k2 i hi)
  have k3:∀ i,k≤i→i < na→o.lt (G (arrOf st) (sa + na)) (G (arrOf st) (sa + i)):=fun i hi hi2=>by
    have z:=k3 i hi hi2
    unfold gp at z
    simp only [Bool.false_eq_true,if_false,Bool.not_eq_false'] at z
    exact Od.of_b z
  refine wp_ite (fun hz=>?_) (fun hz=>?_)
  · have hz:(na - k == 0)=true:=hz
    have hz:na - k=0:=by simpa using hz
    refine wpS_pure (h _ hB1 rfl (t.still ?_) t.rng fun _ _=>rfl)
    have:=k2 (na - 1) (by omega)
    rwa [show sa + (na - 1)=sa + na - 1 by omega] at this
  have hz:¬ (na - k == 0)=true:=hz
  have hz:na - k≠0:=by simpa using hz
  have gT:∀ i,sa + na + i < sa + na + nb→(gp o true (G (arrOf st) (sa + na - 1)) (arrOf st) (sa + na) i=true↔o.lt (G (arrOf st) (sa + na + i)) (G (arrOf st) (sa + na - 1))):=fun i hi=>by
    have r:=t.rk (i:=sa + na - 1) (j:=sa + na + i) (by omega) (by omega) (by omega) hi
    unfold gp
    simp only [if_true]
    exact ⟨fun z=>Od.of_b z,fun z=>Od.b_of r z⟩
  have el:sa + k + (na - k) - 1=sa + na - 1:=by omega
  refine wpS_bind (wp_elem (xs:=arrOf st) (i:=sa + k + (na - k) - 1) (by omega) ?_)
  rw [el]
  refine wpS_bind (wp_gallop hO hB1.kind (mem _ (by omega)) (fun i hi=>⟨by omega,mem _ (by omega)⟩) (by omega)
    (fun i j hi hj hz=>(gT i (by omega)).mpr (Od.lt_trans (t.sB _ _ (by omega) (by omega) (by omega)) ((gT j (by omega)).mp hz))) fun k' k1' k2' k3'=>?_)
  have k2':∀ i,i < k'→o.lt (G (arrOf st) (sa + na + i)) (G (arrOf st) (sa + na - 1)):=fun i hi=>(gT i (by omega)).mp (k2' i hi)
  have k3':∀ i,k'≤i→i < nb→o.lt (G (arrOf st) (sa + na - 1)) (G (arrOf st) (sa + na + i)):=fun i hi hi2=>by
    have z:=k3' i hi hi2
    have r:=t.rk (i:=sa + na - 1) (j:=sa + na + i) (by omega) (by omega) (by omega) (by omega)
    unfold gp at z
    simp only [if_true] at z
    exact Od.of_nb z r
  refine wp_ite (fun hz'=>?_) (fun hz'=>?_)
  · have hz':(k' == 0)=true:=hz'
    have hz':k'=0:=by simpa using hz'
    refine wpS_pure (h _ hB1 rfl (t.still ?_) t.rng fun _ _=>rfl)
    exact k3' 0 (by omega) (by omega)
  have hz':¬ (k' == 0)=true:=hz'
  have hz':k'≠0:=by simpa using hz'
  have sx:((arrOf st).extract (sa + k) (sa + na)).size=na - k:=by rw [ext_size (by omega) (by omega)];omega
  have sy:((arrOf st).extract (sa + na) (sa + na + k')).size=k':=by rw [ext_size (by omega) (by omega)];omega
  have Gx:∀ i,i < na - k→G ((arrOf st).extract (sa + k) (sa + na)) i=G (arrOf st) (sa + k + i):=fun i hi=>ext_G (by omega) (by omega)
  have Gy:∀ i,i < k'→G ((arrOf st).extract (sa + na) (sa + na + k')) i=G (arrOf st) (sa + na + i):=fun i hi=>ext_G (by omega) (by omega)
  have g:MG o a0 ((arrOf st).extract (sa + k) (sa + na)) ((arrOf st).extract (sa + na) (sa + na + k')):=by
    refine ⟨pw_of_G fun i j hij hj=>?_,pw_of_G fun i j hij hj=>?_,fun x hx y hy=>?_,fun x hx=>?_,fun x hx=>?_,by omega,by omega,fun x hx=>?_,fun y hy=>?_⟩
    · rw [sx] at hj
      rw [Gx i (by omega),Gx j hj];exact t.sA _ _ (by omega) (by omega) (by omega)
    · rw [sy] at hj
      rw [Gy i (by omega),Gy j hj];exact t.sB _ _ (by omega) (by omega) (by omega)
    · obtain ⟨i,i1,i2,rfl⟩:=mem_ext (by omega) (by omega) hx
      obtain ⟨j,j1,j2,rfl⟩:=mem_ext (by omega) (by omega) hy
      exact t.rk (by omega) i2 j1 (by omega)
    · obtain ⟨i,i1,i2,rfl⟩:=mem_ext (by omega) (by omega) hx
      exact mem i (by omega)
    · obtain ⟨i,i1,i2,rfl⟩:=mem_ext (by omega) (by omega) hx
      exact mem i (by omega)
    · obtain ⟨i,i1,i2,rfl⟩:=mem_ext (by omega) (by omega) hx
      rw [Gy 0 (by omega)]
      have:=k3 (i - sa) (by omega) (by omega)
      rwa [show sa + (i - sa)=i by omega] at this
    · obtain ⟨j,j1,j2,rfl⟩:=mem_ext (by omega) (by omega) hy
      rw [sx,Gx _ (by omega),show sa + k + (na - k - 1)=sa + na - 1 by omega]
      have:=k2' (j - (sa + na)) (by omega)
      rwa [show sa + na + (j - (sa + na))=j by omega] at this
  have fin:∀ r st2,MR o ((arrOf st).extract (sa + k) (sa + na)) ((arrOf st).extract (sa + na) (sa + na + k')) r →
      Al (setPending st (((pendingOf st).setIfInBounds i (sa,na + nb,p)).eraseIdxIfInBounds (i + 1))) st2 →
      wpS (model prog w) A E s (do
        modify fun s=>setArr s (r.toList.zipIdx.foldl (fun a (p:Keyed×Nat)=>a.setIfInBounds (sa + k + p.2) p.1) (arrOf s))
        return (failedOf (← get)).isNone) Q st2:=by
    intro r st2 mr al
    have ar:arrOf st2=arrOf st:=al.arr
    have fl:failedOf st2=none:=al.failed.trans hB.failed
    refine wpS_bind (wpS_modify (wpS_bind (wpS_get ?_)))
    have el':r.toList.length=((arrOf st).extract (sa + k) (sa + na)).toList.length + ((arrOf st).extract (sa + na) (sa + na + k')).toList.length:=by
      rw [mr.1.length_eq,List.length_append]
    have rs:r.size=na - k + k':=by
      have e1:r.toList.length=r.size:=by simp
      have e2:((arrOf st).extract (sa + k) (sa + na)).toList.length=na - k:=by rw [Array.length_toList,sx]
      have e3:((arrOf st).extract (sa + na) (sa + na + k')).toList.length=k':=by rw [Array.length_toList,sy]
      omega
    have hw:sa + k + r.size≤(arrOf st).size:=by omega
    have pm:(wback (sa + k) r (arrOf st)).Perm (arrOf st):=by
      refine wback_perm (d:=na - k + k') hw rs (mr.1.trans (List.Perm.of_eq ?_))
      rw [Array.toList_extract,Array.toList_extract,List.extract_eq_take_drop,List.extract_eq_take_drop]
      rw [show sa + na - (sa + k)=na - k by omega,show sa + na + k' - (sa + na)=k' by omega,List.take_add,List.drop_drop,show sa + k + (na - k)=sa + na by omega]
    have gw:=fun i=>wback_G (i:=i) hw
    have rmem:∀ j,j < r.size→∃ i,sa + k≤i∧i < sa + na + k'∧G r j=G (arrOf st) i:=fun j hj=>by
      have:=mr.1.mem_iff.mp (G_mem hj)
      rcases List.mem_append.mp this with q | q
      · obtain ⟨i,i1,i2,e⟩:=mem_ext (by omega) (by omega) q
        exact ⟨i,i1,by omega,e⟩
      · obtain ⟨i,i1,i2,e⟩:=mem_ext (by omega) (by omega) q
        exact ⟨i,by omega,i2,e⟩
    have lowA:∀ i j,sa≤i→i < sa + k→sa + k≤j→j < sa + na + nb→o.lt (G (arrOf st) i) (G (arrOf st) j):=fun i j a1 a2 a3 a4=>by
      by_cases q:j < sa + na
      · exact t.sA i j a1 (by omega) q
      · have l1:=k2 (i - sa) (by omega)
        rw [show sa + (i - sa)=i by omega] at l1
        by_cases q2:j=sa + na
        · rw [q2];exact l1
        · exact Od.lt_trans l1 (t.sB _ _ (Nat.le_refl _) (by omega) a4)
    have highB:∀ i j,sa≤i→i < sa + na + k'→sa + na + k'≤j→j < sa + na + nb→o.lt (G (arrOf st) i) (G (arrOf st) j):=fun i j a1 a2 a3 a4=>by
      by_cases q:sa + na≤i
      · exact t.sB i j q (by omega) a4
      · have l1:=k3' (j - (sa + na)) (by omega) (by omega)
        rw [show sa + na + (j - (sa + na))=j by omega] at l1
        by_cases q2:i=sa + na - 1
        · rw [q2];exact l1
        · exact Od.lt_trans (t.sA i (sa + na - 1) a1 (by omega) (by omega)) l1
    have res:∀ st3:SortSt,arrOf st3=wback (sa + k) r (arrOf st)→kindOf st3=kindOf st2→pendingOf st3=pendingOf st2→failedOf st3=failedOf st2→Q (failedOf st3).isNone st3:=by
      intro st3 e1 e2 e3 e4
      rw [e4,fl]
      refine h st3 ⟨?_,e2.trans (al.kind.trans hB.kind),e4.trans fl⟩ (e3.trans al.pend) ?_ ?_ ?_
      · rw [e1];exact pm.trans hB.perm
      · rw [e1]
        intro x y a1 a2 a3
        rw [gw,gw]
        by_cases qx:x < sa + k
        · rw [if_neg (by omega)]
          split
          · obtain ⟨j,j1,j2,e⟩:=rmem (y - (sa + k)) (by omega)
            rw [e];exact lowA _ _ a1 qx j1 (by omega)
          · by_cases qy:y < sa + k
            · exact t.sA _ _ a1 a2 (by omega)
            · exact lowA _ _ a1 qx (by omega) a3
        · by_cases qx2:x < sa + k + r.size
          · rw [if_pos (c:=sa + k≤x∧x < sa + k + r.size) (by omega)]
            split
            · exact pw_G mr.2 (by omega) (by omega)
            · obtain ⟨j,j1,j2,e⟩:=rmem (x - (sa + k)) (by omega)
              rw [e];exact highB _ _ (by omega) j2 (by omega) a3
          · rw [if_neg (by omega),if_neg (by omega)]
            exact t.sB _ _ (by omega) a2 a3
      · rw [e1]
        intro x a1 a2
        rw [gw]
        split
        · obtain ⟨j,j1,j2,e⟩:=rmem (x - (sa + k)) (by omega)
          rw [e];exact t.rng j (by omega) (by omega)
        · exact t.rng x a1 a2
      · intro j hj
        rw [e1,gw,if_neg (by omega)]
    refine wpS_pure (res _ ?_ rfl rfl rfl)
    show wback (sa + k) r (arrOf st2)=_
    rw [ar]
  refine wp_ite (fun _=>?_) (fun _=>?_)
  · exact wpS_bind (wp_mergeLo hO g hB1.kind fun r st2 mr al=>fin r st2 mr al)
  · exact wpS_bind (wp_mergeHi hO g hB1.kind fun r st2 mr al=>fin r st2 mr al)
end
end Tim
end
section
namespace Tim
open PySem PyProof.Rows
variable {o:Od}
noncomputable abbrev Pn:=Nat×Nat×Nat
noncomputable def Runs (o:Od) (xs:Array Keyed):List Pn→Nat→Nat→Prop
  | [],a,z=>a=z
  | (s,n,_) :: r,a,z=>s=a∧1≤n∧Srt o xs a (a + n)∧Rng o xs a (a + n)∧Runs o xs r (a + n) z
theorem Runs.le {xs:Array Keyed}:∀ {ps:List Pn} {a z:Nat},Runs o xs ps a z→a + ps.length≤z
  | [],a,z,h=>by have h:a=z:=h;simp;omega
  | (s,n,p) :: r,a,z,h=>by
    obtain ⟨_,h1,_,_,h2⟩:=h
    have:=h2.le
    rw [List.length_cons];omega
theorem Runs.congr {xs ys:Array Keyed}:∀ {ps:List Pn} {a z:Nat},Runs o xs ps a z→(∀ j,a≤j→j < z→G ys j=G xs j)→Runs o ys ps a z
  | [],a,z,h,_=>h
  | (s,n,p) :: r,a,z,h,e=>by
    obtain ⟨h1,h2,h3,h4,h5⟩:=h
    have hz:=h5.le
    refine ⟨h1,h2,fun i j a1 a2 a3=>?_,fun i a1 a2=>?_,h5.congr fun j a1 a2=>e j (by omega) a2⟩
    · rw [e i a1 (by omega),e j (by omega) (by omega)];exact h3 i j a1 a2 a3
    · rw [e i a1 (by omega)];exact h4 i a1 a2
theorem Runs.snoc {xs:Array Keyed}:∀ {ps:List Pn} {a z n p:Nat},Runs o xs ps a z→1≤n→Srt o xs z (z + n)→Rng o xs z (z + n)→Runs o xs (ps++[(z,n,p)]) a (z + n)
  | [],a,z,n,p,h,h1,h2,h3=>by
    have h:a=z:=h
    subst h
    exact ⟨rfl,h1,h2,h3,rfl⟩
  | (s,m,q) :: r,a,z,n,p,h,h1,h2,h3=>by
    obtain ⟨g1,g2,g3,g4,g5⟩:=h
    exact ⟨g1,g2,g3,g4,g5.snoc h1 h2 h3⟩
theorem Runs.same {xs:Array Keyed}:∀ {ps qs:List Pn} {a z:Nat},Runs o xs ps a z→qs.map (fun p=>(p.1,p.2.1))=ps.map (fun p=>(p.1,p.2.1))→Runs o xs qs a z
  | [],[],a,z,h,_=>h
  | [],_ :: _,_,_,_,e=>by simp at e
  | _ :: _,[],_,_,_,e=>by simp at e
  | (s,n,p) :: r,(s',n',p') :: r',a,z,h,e=>by
    simp only [List.map_cons,List.cons.injEq,Prod.mk.injEq] at e
    obtain ⟨⟨e1,e2⟩,e3⟩:=e
    obtain ⟨g1,g2,g3,g4,g5⟩:=h
    subst e1 e2
    exact ⟨g1,g2,g3,g4,g5.same e3⟩
theorem Runs.two {xs:Array Keyed}:∀ {ps:List Pn} {a z i:Nat} {x y:Pn},Runs o xs ps a z→z≤xs.size→ps[i]? = some x→ps[i + 1]? = some y →
    y.1=x.1 + x.2.1∧Two o xs x.1 x.2.1 y.2.1∧a≤x.1∧x.1 + x.2.1 + y.2.1≤z ∧
    ∀ ys:Array Keyed,Srt o ys x.1 (x.1 + x.2.1 + y.2.1)→Rng o ys x.1 (x.1 + x.2.1 + y.2.1)→(∀ j,(j < x.1∨x.1 + x.2.1 + y.2.1≤j)→G ys j=G xs j) →
      Runs o ys ((ps.set i (x.1,x.2.1 + y.2.1,x.2.2)).eraseIdx (i + 1)) a z
  | [],_,_,_,_,_,_,_,h,_=>by simp at h
  | [_],_,_,i,_,_,_,_,_,h=>by simp at h
  | (s,n,p) :: (s',n',p') :: r,a,z,0,x,y,h,hz,h1,h2=>by
    simp only [List.getElem?_cons_zero,Option.some.injEq] at h1
    simp only [Nat.zero_add,List.getElem?_cons_succ,List.getElem?_cons_zero,Option.some.injEq] at h2
    subst h1 h2
    obtain ⟨rfl,g2,g3,g4,rfl,k2,k3,k4,k5⟩:=h
    have hz':=k5.le
    dsimp only
    refine ⟨rfl,⟨g2,k2,by omega,g3,k3,g4,k4⟩,Nat.le_refl _,by omega,fun ys q1 q2 q3=>?_⟩
    refine ⟨rfl,by omega,?_,?_,?_⟩
    · rw [show s + (n + n')=s + n + n' by omega];exact q1
    · rw [show s + (n + n')=s + n + n' by omega];exact q2
    · rw [show s + (n + n')=s + n + n' by omega];exact k5.congr fun j j1 j2=>q3 j (.inr j1)
  | (s,n,p) :: r,a,z,i + 1,x,y,h,hz,h1,h2=>by
    rw [List.getElem?_cons_succ] at h1 h2
    obtain ⟨rfl,g2,g3,g4,g5⟩:=h
    obtain ⟨t1,t2,t3,t4,t5⟩:=g5.two hz h1 h2
    refine ⟨t1,t2,by omega,t4,fun ys q1 q2 q3=>?_⟩
    have nA:=t2.nA
    refine ⟨rfl,g2,fun i j a1 a2 a3=>?_,fun i a1 a2=>?_,t5 ys q1 q2 q3⟩
    · rw [q3 i (.inl (by omega)),q3 j (.inl (by omega))];exact g3 i j a1 a2 a3
    · rw [q3 i (.inl (by omega))];exact g4 i a1 a2
section
variable {prog:Program} {w:World} {A:Around} {E:Value→Shared→Prop} {s:Shared} {a0:Array Keyed} {kd:SortKind}
structure Bt (o:Od) (kd:SortKind) (a0:Array Keyed) (lo:Nat) (st:SortSt):Prop where
  sb:SB kd a0 st
  le:lo≤a0.size
  runs:Runs o (arrOf st) (pendingOf st).toList 0 lo
  rest:Rest o (arrOf st) lo
theorem wp_mergeBt (hO:LtOk prog w A s kd a0 o) {lo i:Nat} {st:SortSt} {Q:Bool→SortSt→Prop} (hB:SB kd a0 st) (hle:lo≤a0.size) (runs:Runs o (arrOf st) (pendingOf st).toList 0 lo) (hi:i + 1 < (pendingOf st).size)
    (h:∀ st',SB kd a0 st'→Runs o (arrOf st') (pendingOf st').toList 0 lo→(pendingOf st').size + 1=(pendingOf st).size→(∀ j,lo≤j→G (arrOf st') j=G (arrOf st) j)→Q true st'):wpS (model prog w) A E s (mergeAt' i) Q st:=by
  obtain ⟨x,hx⟩:∃ x,(pendingOf st)[i]? = some x:=⟨_,getElem?_pos _ i (by omega)⟩
  obtain ⟨y,hy⟩:∃ y,(pendingOf st)[i + 1]? = some y:=⟨_,getElem?_pos _ (i + 1) hi⟩
  have hsz:=hB.size
  have hx':(pendingOf st).toList[i]? = some x:=by rw [← hx];simp
  have hy':(pendingOf st).toList[i + 1]? = some y:=by rw [← hy];simp
  obtain ⟨t1,t2,t3,t4,t5⟩:=runs.two (by omega) hx' hy'
  obtain ⟨sa,na,p⟩:=x
  obtain ⟨sb,nb,q⟩:=y
  dsimp only at t1 t2 t3 t4 t5
  subst t1
  refine wp_mergeAt hO hB hx hy t2 fun st' b' hp q1 q2 q3=>h st' b' ?_ ?_ fun j hj=>q3 j (.inr (by omega))
  · rw [hp]
    have e:(((pendingOf st).setIfInBounds i (sa,na + nb,p)).eraseIdxIfInBounds (i + 1)).toList=((pendingOf st).toList.set i (sa,na + nb,p)).eraseIdx (i + 1):=by simp
    rw [e]
    exact t5 _ q1 q2 q3
  · rw [hp]
    have e:(((pendingOf st).setIfInBounds i (sa,na + nb,p)).eraseIdxIfInBounds (i + 1)).toList.length=(pendingOf st).toList.length - 1:=by
      rw [Array.toList_eraseIdxIfInBounds,Array.toList_setIfInBounds,List.length_eraseIdx,List.length_set,if_pos (by rw [Array.length_toList];exact hi)]
    rw [Array.length_toList,Array.length_toList] at e
    omega
structure Nw (o:Od) (kd:SortKind) (a0:Array Keyed) (lo n:Nat) (st:SortSt):Prop where
  sb:SB kd a0 st
  runs:Runs o (arrOf st) (pendingOf st).toList 0 lo
  srt:Srt o (arrOf st) lo (lo + n)
  rng:Rng o (arrOf st) lo (lo + n)
  rest:Rest o (arrOf st) (lo + n)
theorem Nw.on {lo n:Nat} {st st':SortSt} (h:Nw o kd a0 lo n st) (b:SB kd a0 st') (r:Runs o (arrOf st') (pendingOf st').toList 0 lo) (e:∀ j,lo≤j→G (arrOf st') j=G (arrOf st) j):Nw o kd a0 lo n st' :=
  ⟨b,r,fun i j a1 a2 a3=>by rw [e i a1,e j (by omega)];exact h.srt i j a1 a2 a3,fun i a1 a2=>by rw [e i a1];exact h.rng i a1 a2,fun i a1 a2=>by
    rw [e i (by omega)];exact h.rest i a1 (by rw [h.sb.size];rw [b.size] at a2;exact a2)⟩
theorem Nw.put {lo n:Nat} {st:SortSt} (h:Nw o kd a0 lo n st) (n1:1≤n) (n2:lo + n≤a0.size):Bt o kd a0 (lo + n) (setPending st ((pendingOf st).push (lo,n,0))):=by
  refine ⟨⟨h.sb.perm,h.sb.kind,h.sb.failed⟩,n2,?_,h.rest⟩
  show Runs o (arrOf st) ((pendingOf st).push (lo,n,0)).toList 0 (lo + n)
  rw [Array.toList_push]
  exact h.runs.snoc n1 h.srt h.rng
theorem Nw.pow {lo n k:Nat} {st:SortSt} {f:Pn→Pn} (hf:∀ p,(f p).1=p.1∧(f p).2.1=p.2.1) (h:Nw o kd a0 lo n st):Nw o kd a0 lo n (setPending st ((pendingOf st).modify k f)):=by
  refine ⟨⟨h.sb.perm,h.sb.kind,h.sb.failed⟩,?_,h.srt,h.rng,h.rest⟩
  show Runs o (arrOf st) ((pendingOf st).modify k f).toList 0 lo
  refine h.runs.same ?_
  rw [Array.toList_modify]
  apply List.ext_getElem?
  intro i
  rw [List.getElem?_map,List.getElem?_map,List.getElem?_modify]
  cases (pendingOf st).toList[i]? with
  | none=>rfl
  | some p =>
    by_cases q:k=i
    · simp [q,hf p]
    · simp [q]
theorem wp_sortRuns (hO:LtOk prog w A s kd a0 o) {st:SortSt} {Q:Unit→SortSt→Prop} (hB:SB kd a0 st) (hr:Rest o (arrOf st) 0) (hp:pendingOf st = #[]) (h1:1≤a0.size)
    (h:∀ st',SB kd a0 st'→Srt o (arrOf st') 0 a0.size→Q () st'):wpS (model prog w) A E s sortRuns' Q st:=by
  rw [sortRuns'_eq]
  refine wpS_bind (wpS_get ?_)
  have hsz:=hB.size
  extract_lets +onlyGivenNames size minrun
  have hsize:size=a0.size:=hsz
  clear_value size minrun
  have b0:Bt o kd a0 0 st:=⟨hB,Nat.zero_le _,by rw [hp];rfl,hr⟩
  refine wpS_bind (wpS_mono (wpS_forRange
    (I:=fun t c st=>∃ lo,c=((none,lo):Option Unit×Nat)∧Bt o kd a0 lo st∧min t a0.size≤lo)
    (Q:=fun c st=>∃ lo,c=((none,lo):Option Unit×Nat)∧Bt o kd a0 a0.size st) ?step ?fin ⟨0,rfl,b0,by omega⟩) ?post)
  case fin =>
    rintro c st ⟨lo,rfl,b,h2⟩
    have:=b.le
    have e:lo=a0.size:=by omega
    subst e
    exact ⟨_,rfl,b⟩
  case step =>
    rintro t c st _ ht ⟨lo,rfl,b,h2⟩
    have hle:=b.le
    refine wp_ite (fun hge=>?_) (fun hge=>?_)
    · have hge:lo ≥ size:=hge
      have e:lo=a0.size:=by omega
      subst e
      exact wpS_pure ⟨_,rfl,b⟩
    have hge:¬ lo ≥ size:=hge
    refine wpS_bind (wp_countRun hO (nrem:=size - lo) (lo:=lo) (by omega) (by omega) b.sb b.rest fun m st2 m1 m2 ran=>?_)
    dsimp -zeta only
    extract_lets -merge +onlyGivenNames n0 jp
    have hjp:∀ (n:Nat) (st3:SortSt),1≤n→lo + n≤a0.size→Ran o kd a0 st st3 lo n→wpS (model prog w) A E s (jp () n) (fun r st'=>match r with
        | .done c=>∃ lo,c=((none,lo):Option Unit×Nat)∧Bt o kd a0 a0.size st'
        | .yield c=>∃ lo,c=((none,lo):Option Unit×Nat)∧Bt o kd a0 lo st'∧min (t + 1) a0.size≤lo) st3:=by
      intro n st3 n1 n2 r3
      have psame:pendingOf st3=pendingOf st:=r3.pend
      have runs3:Runs o (arrOf st3) (pendingOf st3).toList 0 lo:=by
        rw [psame];exact b.runs.congr fun j _ hj=>r3.low j hj
      have nw:Nw o kd a0 lo n st3:=⟨r3.sb,runs3,r3.srt,r3.rng,r3.rest⟩
      refine wpS_bind (wpS_get ?_)
      extract_lets -merge +onlyGivenNames lo2 jp2
      have hjp2:∀ st4,Nw o kd a0 lo n st4→wpS (model prog w) A E s (jp2 ()) (fun r st'=>match r with
          | .done c=>∃ lo,c=((none,lo):Option Unit×Nat)∧Bt o kd a0 a0.size st'
          | .yield c=>∃ lo,c=((none,lo):Option Unit×Nat)∧Bt o kd a0 lo st'∧min (t + 1) a0.size≤lo) st4:=fun st4 g =>
        wpS_bind (wpS_modify (wpS_pure ⟨lo + n,rfl,g.put n1 n2,by omega⟩))
      clear_value jp2
      cases hb:(pendingOf st3).back? with
      | none=>exact wpS_mono (hjp2 st3 nw) fun r st' hr=>by cases r <;> exact hr
      | some x =>
        obtain ⟨s1,nn1,p1⟩:=x
        dsimp -zeta only
        extract_lets -merge +onlyGivenNames pw
        refine wpS_bind (wpS_mono (wpS_forRange (I:=fun _ c st4=>c=((none,()):Option Unit×Unit)∧Nw o kd a0 lo n st4) (Q:=fun c st4=>c=((none,()):Option Unit×Unit)∧Nw o kd a0 lo n st4) ?stp ?fn ⟨rfl,nw⟩) ?pst)
        case fn=>exact fun _ _ z=>z
        case stp =>
          rintro x c st4 _ _ ⟨rfl,nw4⟩
          refine wpS_bind (wpS_get ?_)
          dsimp only
          by_cases hp1:(pendingOf st4).size > 1
          · rw [if_pos hp1]
            obtain ⟨y,hy⟩:∃ y,(pendingOf st4)[(pendingOf st4).size - 2]? = some y:=⟨_,getElem?_pos _ _ (by omega)⟩
            rw [hy]
            obtain ⟨y1,y2,y3⟩:=y
            refine wp_ite (fun _=>wpS_pure ⟨rfl,nw4⟩) (fun _=>?_)
            refine wpS_bind (wp_mergeBt hO nw4.sb hle nw4.runs (by omega) fun st5 c1 c2 c3 c4=>?_)
            exact wpS_pure ⟨rfl,nw4.on c1 c2 c4⟩
          · rw [if_neg hp1]
            exact wpS_pure ⟨rfl,nw4⟩
        case pst =>
          rintro c st4 ⟨rfl,nw4⟩
          refine wpS_bind (wpS_modify ?_)
          exact wpS_mono (hjp2 _ (nw4.pow fun p=>⟨rfl,rfl⟩)) fun r st' hr=>by cases r <;> exact hr
    clear_value jp
    refine wp_ite (fun hlt=>?_) (fun hlt=>?_)
    · have hlt:m < minrun:=hlt
      refine wpS_bind (wpS_lift (wpAny_rule ⟨rfl,?_⟩))
      refine wpS_bind (wp_binarySort hO (lo:=lo) (n:=min (size - lo) minrun) (ok:=m) (by omega) (by omega) m1 ran fun st3 r3=>?_)
      exact wpS_mono (hjp (min (size - lo) minrun) st3 (by omega) (by omega) r3) fun r st' hr=>by cases r <;> exact hr
    · exact wpS_mono (hjp m st2 m1 (by omega) ran) fun r st' hr=>by cases r <;> exact hr
  case post =>
    rintro c st2 ⟨lo,rfl,b⟩
    refine wpS_bind (wpS_mono (wpS_forRange (I:=fun t c st4=>c=((none,()):Option Unit×Unit)∧SB kd a0 st4∧Runs o (arrOf st4) (pendingOf st4).toList 0 a0.size∧(pendingOf st4).size≤max 1 (a0.size - t))
      (Q:=fun c st4=>c=((none,()):Option Unit×Unit)∧SB kd a0 st4∧Runs o (arrOf st4) (pendingOf st4).toList 0 a0.size∧(pendingOf st4).size≤1) ?stp ?fn ?ini) ?pst)
    case ini =>
      refine ⟨rfl,b.sb,b.runs,?_⟩
      have:=b.runs.le
      rw [Array.length_toList] at this
      omega
    case fn =>
      rintro c st4 ⟨rfl,c1,c2,c3⟩
      exact ⟨rfl,c1,c2,by omega⟩
    case pst =>
      rintro c st4 ⟨rfl,c1,c2,c3⟩
      refine wpS_pure (h st4 c1 ?_)
      have hl:(pendingOf st4).toList.length≤1:=by rw [Array.length_toList];exact c3
      cases hq:(pendingOf st4).toList with
      | nil =>
        rw [hq] at c2
        have e:0=a0.size:=c2
        omega
      | cons x r =>
        rw [hq] at c2 hl
        cases r with
        | cons y r=>simp at hl
        | nil =>
          obtain ⟨x1,x2,x3⟩:=x
          obtain ⟨e1,e2,e3,e4,e5⟩:=c2
          have e5:0 + x2=a0.size:=e5
          rw [e5] at e3
          exact e3
    case stp =>
      rintro x c st4 _ hx ⟨rfl,c1,c2,c3⟩
      refine wpS_bind (wpS_get ?_)
      refine wp_ite (fun hp1=>wpS_pure ⟨rfl,c1,c2,hp1⟩) (fun hp1=>?_)
      have hp1:¬ (pendingOf st4).size≤1:=hp1
      have go:∀ i,i + 1 < (pendingOf st4).size→wpS (model prog w) A E s (do
          let r ← mergeAt' i
          if (!r)=true then pure (ForInStep.done ((some (),()):Option Unit×Unit)) else pure (ForInStep.yield (none,()))) (fun r st'=>match r with
          | .done c=>c=((none,()):Option Unit×Unit)∧SB kd a0 st'∧Runs o (arrOf st') (pendingOf st').toList 0 a0.size∧(pendingOf st').size≤1
          | .yield c=>c=((none,()):Option Unit×Unit)∧SB kd a0 st'∧Runs o (arrOf st') (pendingOf st').toList 0 a0.size∧(pendingOf st').size≤max 1 (a0.size - (x + 1))) st4:=fun i hi =>
        wpS_bind (wp_mergeBt hO c1 (Nat.le_refl _) c2 hi fun st5 d1 d2 d3 _=>wpS_pure ⟨rfl,d1,d2,by omega⟩)
      refine wpS_mono (go _ ?_) fun r st' hr=>by cases r <;> exact hr
      repeat' split
      all_goals omega
end
end Tim
end
section
namespace Tim
open PySem PyProof.Rows
open Classical in
noncomputable def rkOf (a0:Array Keyed) (p:Keyed):Nat:=if h:∃ i,i < a0.size∧G a0 i=p then h.choose else 0
theorem rkOf_at {a0:Array Keyed} (h:a0.toList.Nodup) {i:Nat} (hi:i < a0.size):rkOf a0 (G a0 i)=i:=by
  unfold rkOf
  have ex:∃ j,j < a0.size∧G a0 j=G a0 i:=⟨i,hi,rfl⟩
  rw [dif_pos ex]
  obtain ⟨h1,h2⟩:=ex.choose_spec
  have e1:=G_at h1
  have e2:=G_at hi
  rw [getElem?_pos a0 _ h1] at e1
  rw [getElem?_pos a0 _ hi] at e2
  have e:a0.toList[ex.choose]'(by simpa using h1)=a0.toList[i]'(by simpa using hi):=by
    rw [Array.getElem_toList,Array.getElem_toList,Option.some.inj e1,Option.some.inj e2,h2]
  exact (List.getElem_inj h).mp e
noncomputable abbrev odOf (O:KeyOrd) (key:Keyed→O.α) (a0:Array Keyed):Od:=⟨O,key,rkOf a0⟩
theorem rest_od {O:KeyOrd} {key:Keyed→O.α} {a0:Array Keyed} (h:a0.toList.Nodup):Rest (odOf O key a0) a0 0:=fun i _ hi=>rkOf_at h hi
theorem nodup_zip {ks vs:List Value} (h:vs.Nodup) (hl:ks.length=vs.length):(ks.zip vs).Nodup:=by
  have e:((ks.zip vs).map Prod.snd).Nodup:=by rw [List.map_snd_zip (by omega)];exact h
  have e:((ks.zip vs).map Prod.snd).Pairwise (·≠·):=e
  rw [List.pairwise_map] at e
  exact e.imp fun hab q=>hab (by rw [q])
section
variable {prog:Program} {w:World} {A:Around} {E:Value→Shared→Prop} {s:Shared}
theorem sort_run {β:Type} {O:KeyOrd} {key:Keyed→O.α} {keys:Array Value} {vs:List Value} {kd:SortKind} {k:PUnit×SortSt→Sem β} {P:β→Shared→Prop} (hl:keys.size=vs.length) (hnd:vs.Nodup)
    (hO:LtOk prog w A s kd (keys.zip vs.toArray) (odOf O key (keys.zip vs.toArray)))
    (hkk:2≤vs.length→∀ (E:Value→Shared→Prop) (Q:SortKind→Shared→Prop),Q kd s→wpAny (model prog w) A (keyKind' keys) Q E s)
    (h:∀ st':SortSt,(arrOf st').Perm (keys.zip vs.toArray)→failedOf st'=none→Srt (odOf O key (keys.zip vs.toArray)) (arrOf st') 0 vs.length→wpAny (model prog w) A (k ((),st')) P E s) :
    wpAny (model prog w) A (if vs.toArray.size < 2 then pure general' >>= fun kind=>(if vs.toArray.size < 2 then pure () else sortRuns').run (SortSt.mk' kind (keys.zip vs.toArray) #[] 7 none) >>= k
      else keyKind' keys >>= fun kind=>(if vs.toArray.size < 2 then pure () else sortRuns').run (SortSt.mk' kind (keys.zip vs.toArray) #[] 7 none) >>= k) P E s:=by
  have hsz:vs.toArray.size=vs.length:=by simp
  have hps:(keys.zip vs.toArray).size=vs.length:=by simp;omega
  have hdist:(keys.zip vs.toArray).toList.Nodup:=by
    have e:(keys.zip vs.toArray).toList=keys.toList.zip vs:=by simp
    rw [e];exact nodup_zip hnd (by simpa using hl)
  by_cases h2:vs.toArray.size < 2
  · rw [if_pos h2,if_pos h2]
    refine wpAny_bind (wpAny_pure (wpAny_bind ?_))
    rw [StateT.run_pure]
    exact wpAny_pure (h (SortSt.mk' general' (keys.zip vs.toArray) #[] 7 none) (Array.Perm.refl _) rfl fun i j _ h3 h4=>by omega)
  · rw [if_neg h2,if_neg h2]
    refine wpAny_bind (hkk (by omega) _ _ (wpAny_bind ?_))
    refine wpAny_mono (wp_sortRuns hO (st:=SortSt.mk' kd (keys.zip vs.toArray) #[] 7 none)
      (Q:=fun _ st'=>SB kd (keys.zip vs.toArray) st'∧Srt (odOf O key (keys.zip vs.toArray)) (arrOf st') 0 (keys.zip vs.toArray).size)
      ⟨Array.Perm.refl _,rfl,rfl⟩ (rest_od hdist) rfl (by omega) fun st' b q=>⟨b,q⟩) ?_ fun _ _ e=>e
    rintro ⟨⟨⟩,st'⟩ s' ⟨rfl,hb,hs⟩
    exact h st' hb.perm hb.failed (by rw [hps] at hs;exact hs)
theorem ltOk_str {a0:Array Keyed} {rk:Keyed→Nat} (h:∀ p∈a0.toList,∃ x t,p.1 = .str x t):LtOk prog w A s oneType' a0 ⟨strKind.toKeyOrd,fun p=>(strOf p.1).cps.toList,rk⟩:=by
  intro x y E Q hx hy q
  obtain ⟨a,t,ea⟩:=h x hx
  obtain ⟨b,u,eb⟩:=h y hy
  rw [keyLt'_oneType,ea,eb]
  refine oneLt_str ?_
  have e:Od.b ⟨strKind.toKeyOrd,fun p=>(strOf p.1).cps.toList,rk⟩ x y=decide (a.cps.toList < b.cps.toList):=by
    show decide ((strOf x.1).cps.toList < (strOf y.1).cps.toList)=_
    rw [ea,eb];rfl
  rw [e] at q
  exact q
noncomputable def intOrd:KeyOrd where
  α:=Int
  blt a b:=decide (a < b)
  irrefl a:=by simp
  trans a b c h1 h2:=by simp only [decide_eq_true_eq] at *;omega
  negTrans a b c h:=by simp only [decide_eq_true_eq] at *;omega
  total a b h1 h2:=by simp only [decide_eq_false_iff_not] at *;omega
theorem ltOk_int {a0:Array Keyed} {rk:Keyed→Nat} (h:∀ p∈a0.toList,∃ x t,p.1 = .int x t):LtOk prog w A s oneType' a0 ⟨intOrd,fun p=>numOf p.1,rk⟩:=by
  intro x y E Q hx hy q
  obtain ⟨a,t,ea⟩:=h x hx
  obtain ⟨b,u,eb⟩:=h y hy
  rw [keyLt'_oneType,ea,eb]
  refine oneLt_int ?_
  have e:Od.b ⟨intOrd,fun p=>numOf p.1,rk⟩ x y=decide (a < b):=by
    show decide (numOf x.1 < numOf y.1)=_
    rw [ea,eb];rfl
  rw [e] at q
  exact q
end
noncomputable def pairOrd:KeyOrd where
  α:=Int×List Nat
  blt a b:=decide (a.1 < b.1) || (decide (a.1=b.1) && decide (a.2 < b.2))
  irrefl a:=by simp [List.lt_irrefl]
  trans a b c h1 h2:=by
    simp only [Bool.or_eq_true,Bool.and_eq_true,decide_eq_true_eq] at *
    rcases h1 with h1 | ⟨h1,g1⟩
    · rcases h2 with h2 | ⟨h2,g2⟩
      · exact .inl (by omega)
      · exact .inl (by omega)
    · rcases h2 with h2 | ⟨h2,g2⟩
      · exact .inl (by omega)
      · exact .inr ⟨by omega,List.lt_trans g1 g2⟩
  negTrans a b c h:=by
    simp only [Bool.or_eq_true,Bool.and_eq_true,decide_eq_true_eq] at *
    by_cases h1:a.1 < b.1
    · exact .inl (.inl h1)
    by_cases h2:b.1 < c.1
    · exact .inr (.inl h2)
    rcases h with h | ⟨h,g⟩
    · omega
    · have e1:a.1=b.1:=by omega
      have e2:b.1=c.1:=by omega
      by_cases hab:a.2 < b.2
      · exact .inl (.inr ⟨e1,hab⟩)
      · exact .inr (.inr ⟨e2,List.lt_of_le_of_lt (List.not_lt.mp hab) g⟩)
  total a b h1 h2:=by
    simp only [Bool.or_eq_false_iff,Bool.and_eq_false_iff,decide_eq_false_iff_not] at *
    have e:a.1=b.1:=by omega
    have h3:=h1.2.resolve_left (fun z=>z e)
    have h4:=h2.2.resolve_left (fun z=>z e.symm)
    exact Prod.ext e (List.le_antisymm (List.not_lt.mp h4) (List.not_lt.mp h3))
end Tim
end
section
namespace Tim
open PySem PyProof.Rows
theorem keyLt'_tuples (b:Bool) (x y:Value):keyLt' (tuples' b) x y=(do
    let xs ← Builtin.List.listItems x;let ys ← Builtin.List.listItems y
    for ((p,q),i) in (xs.toList.zip ys.toList).zipIdx do
      if !(← eqBool p q) then return ← oneLt' (b && i == 0) p q
    return xs.size < ys.size):=rfl
noncomputable def PairAt (h:Heap) (v:Value) (n:Int) (x:Str):Prop:=∃ a o t u e,v = .ref a∧h.get? a=some o∧o.cls = .type "tuple"∧o.data = .seq #[.int n t,.str x u] e
open Classical in
noncomputable def pairKey (h:Heap) (p:Keyed):Int×List Nat:=if q:∃ nx:Int×Str,PairAt h p.1 nx.1 nx.2 then (q.choose.1,q.choose.2.cps.toList) else (0,[])
theorem PairAt.inj {h:Heap} {v:Value} {n m:Int} {x y:Str} (a:PairAt h v n x) (b:PairAt h v m y):n=m∧x=y:=by
  obtain ⟨a1,o1,t1,u1,e1,rfl,g1,_,d1⟩:=a
  obtain ⟨a2,o2,t2,u2,e2,q,g2,_,d2⟩:=b
  cases q
  rw [g1] at g2
  cases g2
  rw [d1] at d2
  injection d2 with d3 _
  have d4:=congrArg Array.toList d3
  injection d4 with d5 d6
  injection d5 with d7 _
  injection d6 with d8 _
  injection d8 with d9 _
  exact ⟨d7,d9⟩
theorem pairKey_of {h:Heap} {p:Keyed} {n:Int} {x:Str} (a:PairAt h p.1 n x):pairKey h p=(n,x.cps.toList):=by
  unfold pairKey
  have q:∃ nx:Int×Str,PairAt h p.1 nx.1 nx.2:=⟨(n,x),a⟩
  rw [dif_pos q]
  obtain ⟨e1,e2⟩:=q.choose_spec.inj a
  rw [e1,e2]
theorem str_eq_cps {x y:Str} (h:x.cps.toList=y.cps.toList):x=y:=by
  cases x;cases y
  have:=Array.toList_inj.mp h
  simp at this
  rw [this]
section
variable {prog:Program} {w:World} {A:Around} {E:Value→Shared→Prop} {s:Shared}
theorem oneLt_strF {a b:Str} {t u:Tok} {Q:Bool→Shared→Prop} (h:Q (decide (a.cps.toList < b.cps.toList)) s):wpAny (model prog w) A (oneLt' false (.str a t) (.str b u)) Q E s:=by
  rw [oneLt'_eq]
  simp only [Bool.false_eq_true,if_false]
  refine wpAny_bind (m:=richCompare .Lt (.str a t) (.str b u)) ?_
  exact lt_str (wpAny_truthy_bool h)
theorem ltOk_pair {a0:Array Keyed} {rk:Keyed→Nat} (h:∀ p∈a0.toList,∃ n x,PairAt s.heap p.1 n x):LtOk prog w A s (tuples' true) a0 ⟨pairOrd,pairKey s.heap,rk⟩:=by
  intro x y E Q hx hy q
  obtain ⟨n,sx,ax⟩:=h x hx
  obtain ⟨m,sy,ay⟩:=h y hy
  have e:Od.b ⟨pairOrd,pairKey s.heap,rk⟩ x y=(decide (n < m) || (decide (n=m) && decide (sx.cps.toList < sy.cps.toList))):=by
    show (decide ((pairKey s.heap x).1 < (pairKey s.heap y).1) || (decide ((pairKey s.heap x).1=(pairKey s.heap y).1) && decide ((pairKey s.heap x).2 < (pairKey s.heap y).2)))=_
    rw [pairKey_of ax,pairKey_of ay]
  rw [e] at q
  obtain ⟨a1,o1,t1,u1,e1,ea,g1,_,d1⟩:=ax
  obtain ⟨a2,o2,t2,u2,e2,eb,g2,_,d2⟩:=ay
  rw [keyLt'_tuples,ea,eb]
  refine wpAny_bind (listItems_at g1 d1 (wpAny_bind (listItems_at g2 d2 ?_)))
  show wpAny _ _ (bind (forIn [((Value.int n t1,Value.int m t2),0),((Value.str sx u1,Value.str sy u2),1)] _ _) _) _ _ _
  refine wpAny_bind ?_
  rw [List.forIn_cons]
  refine wpAny_bind (wpAny_bind (wpAny_eqBool_int ?_))
  by_cases hnm:n=m
  · subst hnm
    simp only [beq_self_eq_true,Bool.not_true,Bool.false_eq_true,if_false]
    refine wpAny_pure ?_
    dsimp only
    rw [List.forIn_cons]
    refine wpAny_bind (wpAny_bind (wpAny_eqBool_str ?_))
    have hnn:¬ n < n:=by omega
    by_cases hs:sx=sy
    · subst hs
      simp only [decide_true,Bool.not_true,Bool.false_eq_true,if_false]
      refine wpAny_pure ?_
      dsimp only
      rw [List.forIn_nil]
      refine wpAny_pure (wpAny_pure ?_)
      have e:(decide (n < n) || decide (n=n) && decide (sx.cps.toList < sx.cps.toList))=false:=by simp [List.lt_irrefl]
      rw [e] at q
      exact q
    · simp only [decide_eq_false hs,Bool.not_false,if_true]
      refine wpAny_bind (oneLt_strF (wpAny_pure (wpAny_pure (wpAny_pure ?_))))
      have e:(decide (n < n) || decide (n=n) && decide (sx.cps.toList < sy.cps.toList))=decide (sx.cps.toList < sy.cps.toList):=by simp
      rw [e] at q
      exact q
  · have e0:(n == m)=false:=by simpa using hnm
    simp only [e0,Bool.not_false,if_true]
    refine wpAny_bind (oneLt_int (wpAny_pure (wpAny_pure (wpAny_pure ?_))))
    have e:(decide (n < m) || decide (n=m) && decide (sx.cps.toList < sy.cps.toList))=decide (n < m):=by simp [hnm]
    rw [e] at q
    exact q
theorem firstOfTuple'_eq (v:Value):firstOfTuple' v=(do
  if (← typeOf v) != .type "tuple" then return none
  return (← Builtin.List.listItems v)[0]?):=rfl
theorem first_pair {v:Value} {n:Int} {x:Str} (h:PairAt s.heap v n x) {Q:Option Value→Shared→Prop} (q:∀ t,Q (some (.int n t)) s):wpAny (model prog w) A (firstOfTuple' v) Q E s:=by
  obtain ⟨a,o,t,u,e,rfl,g,c,d⟩:=h
  rw [firstOfTuple'_eq]
  refine wpAny_bind (wpAny_typeOf (T:="tuple") ⟨o,g,c⟩ ?_)
  rw [if_neg (by decide)]
  exact wpAny_bind (listItems_at g d (wpAny_pure (q t)))
theorem firsts_pair:∀ (vs:List Value),(∀ v∈vs,∃ n x,PairAt s.heap v n x)→∀ {Q:List (Option Value)→Shared→Prop},(∀ us ns,IntsAre us ns→us.length=vs.length→Q (us.map some) s) →
    wpAny (model prog w) A (vs.mapM firstOfTuple') Q E s
  | [],_,Q,q=>by
    rw [List.mapM_nil]
    exact wpAny_pure (q [] [] .nil rfl)
  | v :: vs,h,Q,q=>by
    rw [List.mapM_cons]
    obtain ⟨n,x,a⟩:=h v (List.mem_cons_self ..)
    refine wpAny_bind (first_pair a fun t=>wpAny_bind (firsts_pair vs (fun u hu=>h u (List.mem_cons_of_mem _ hu)) fun us ns hi hl=>wpAny_pure ?_))
    exact q (.int n t :: us) (n :: ns) (.cons n t hi) (by simp [hl])
theorem kind_pair {keys:Array Value} (h:∀ v∈keys.toList,∃ n x,PairAt s.heap v n x) (h2:2≤keys.size) {Q:SortKind→Shared→Prop} (q:Q (tuples' true) s):wpAny (model prog w) A (keyKind' keys) Q E s:=by
  rw [keyKind'_eq]
  have e:keys=keys.toList.toArray:=by simp
  rw [e,List.mapM_toArray]
  refine wpAny_bind ?_
  rw [map_eq_pure_bind]
  refine wpAny_bind (firsts_pair keys.toList h fun us ns hi hl=>wpAny_pure ?_)
  have hall:((us.map some).toArray.all fun x=>x.isSome)=true:=by simp
  rw [if_pos hall]
  refine wpAny_bind (wpAny_rule ?_)
  have ef:(us.map some).toArray.filterMap id=us.toArray:=by simp
  rw [ef,oneTypeOnly'_eq,List.mapM_toArray,mapM_typeOf_ints hi]
  have hne:us≠[]:=by
    intro z
    rw [z] at hl
    have:keys.toList.length=keys.size:=by simp
    simp at hl
    omega
  obtain ⟨u0,ur,rfl⟩:∃ u0 ur,us=u0 :: ur:=by
    cases us with
    | nil=>exact absurd rfl hne
    | cons a b=>exact ⟨a,b,rfl⟩
  simp only [map_pure,pure_bind]
  have ha:((List.map (fun _=>Value.type "int") (u0 :: ur)).toArray.all fun x=>x == Value.type "int")=true:=by
    simp only [List.all_toArray,List.all_map,List.all_eq_true]
    intro _ _
    rfl
  have h0:(List.map (fun _=>Value.type "int") (u0 :: ur)).toArray[0]? = some (Value.type "int"):=by simp
  rw [h0]
  simp only [ha,if_true,pure_bind]
  exact wpAny_pure q
end
end Tim
end
section
namespace Tim
open PySem PyProof.Rows
noncomputable def Slt (x y:Str):Prop:=x.cps.toList < y.cps.toList
noncomputable def Wlt (x y:Str):Prop:=x.length < y.length∨(x.length=y.length∧Slt x y)
theorem strs_get {vs:List Value} {ss:List Str} (h:StrsAre vs ss) {i:Nat} {v:Value} (e:vs[i]? = some v):∃ x t,v = .str x t∧ss[i]? = some x:=by
  induction h generalizing i with
  | nil=>simp at e
  | cons x t h ih =>
    cases i with
    | zero=>simp at e;subst e;exact ⟨x,t,rfl,rfl⟩
    | succ i=>rw [List.getElem?_cons_succ] at e ⊢;exact ih e
theorem strs_nodup {vs:List Value} {ss:List Str} (h:StrsAre vs ss) (hn:ss.Nodup):vs.Nodup:=by
  have e:=h.strs
  rw [← e] at hn
  have hn:(vs.map strOf).Pairwise (·≠·):=hn
  rw [List.pairwise_map] at hn
  exact hn.imp fun hab q=>hab (by rw [q])
theorem zip_at {keys:Array Value} {vs:List Value} {p:Keyed} (hl:keys.size=vs.length) (h:p∈(keys.zip vs.toArray).toList):∃ i,i < vs.length∧G (keys.zip vs.toArray) i=p∧keys[i]? = some p.1∧vs[i]? = some p.2:=by
  have hz:(keys.zip vs.toArray).size=vs.length:=by simp;omega
  obtain ⟨i,_,h2,e⟩:=mem_drop_G (xs:=keys.zip vs.toArray) (j:=0) (x:=p) (by simpa using h)
  rw [hz] at h2
  refine ⟨i,h2,e.symm,?_⟩
  have q:=G_at (xs:=keys.zip vs.toArray) (i:=i) (by omega)
  rw [← e] at q
  have e2:(keys.zip vs.toArray).toList[i]? = some p:=by rw [Array.getElem?_toList];exact q
  have e3:(keys.zip vs.toArray).toList=keys.toList.zip vs:=by simp
  rw [e3,List.getElem?_zip_eq_some] at e2
  exact ⟨by simpa using e2.1,e2.2⟩
theorem sortedOut {o:Od} {keys:Array Value} {vs:List Value} {ss:List Str} {arr:Array Keyed} {R:Str→Str→Prop} (hS:StrsAre vs ss) (hl:keys.size=vs.length) (hp:arr.Perm (keys.zip vs.toArray)) (hs:Srt o arr 0 vs.length)
    (hR:∀ p q,p∈(keys.zip vs.toArray).toList→q∈(keys.zip vs.toArray).toList→o.lt p q→R (strOf p.2) (strOf q.2)):∃ ss',StrsAre (arr.map (·.2)).toList ss'∧ss'.Perm ss∧ss'.Pairwise R:=by
  have hpl:arr.toList.Perm (keys.zip vs.toArray).toList:=Array.perm_iff_toList_perm.mp hp
  have hz:(keys.zip vs.toArray).toList=keys.toList.zip vs:=by simp
  have hsz:arr.size=vs.length:=by rw [hp.size_eq];simp;omega
  have hkl:vs.length≤keys.toList.length:=by
    have e:keys.toList.length=keys.size:=by simp
    omega
  refine ⟨arr.toList.map fun p=>strOf p.2,?_,?_,?_⟩
  · have h1:=strsAre_map (arr.toList.map (·.2)) (by
      intro v hv
      obtain ⟨p,hp',rfl⟩:=List.mem_map.mp hv
      obtain ⟨i,_,_,_,e⟩:=zip_at hl (hpl.mem_iff.mp hp')
      obtain ⟨x,t,e1,_⟩:=strs_get hS e
      exact ⟨x,t,e1⟩)
    rw [List.map_map] at h1
    rw [Array.toList_map]
    exact h1
  · have h1:=hpl.map fun p:Keyed=>strOf p.2
    rw [hz] at h1
    have e2:(keys.toList.zip vs).map (fun p=>strOf p.2)=ss:=by
      have:(keys.toList.zip vs).map (fun p=>strOf p.2)=((keys.toList.zip vs).map Prod.snd).map strOf:=by rw [List.map_map];rfl
      rw [this,List.map_snd_zip hkl,hS.strs]
    rwa [e2] at h1
  · rw [List.pairwise_map]
    have pw:arr.toList.Pairwise o.lt:=pw_of_G fun i j hij hj=>hs i j (Nat.zero_le _) hij (by omega)
    exact pw.imp_of_mem fun ha hb hab=>hR _ _ (hpl.mem_iff.mp ha) (hpl.mem_iff.mp hb) hab
theorem same_of_str {keys:Array Value} {vs:List Value} {ss:List Str} {p q:Keyed} (hS:StrsAre vs ss) (hn:ss.Nodup) (hl:keys.size=vs.length) (hp:p∈(keys.zip vs.toArray).toList) (hq:q∈(keys.zip vs.toArray).toList) (e:strOf p.2=strOf q.2):p=q:=by
  obtain ⟨i,i1,i2,i3,i4⟩:=zip_at hl hp
  obtain ⟨j,j1,j2,j3,j4⟩:=zip_at hl hq
  obtain ⟨x,t,e1,e2⟩:=strs_get hS i4
  obtain ⟨y,u,e3,e4⟩:=strs_get hS j4
  rw [e1,e3] at e
  have e:x=y:=e
  subst e
  obtain ⟨a1,a2⟩:=List.getElem?_eq_some_iff.mp e2
  obtain ⟨b1,b2⟩:=List.getElem?_eq_some_iff.mp e4
  have:i=j:=(List.getElem_inj hn).mp (a2.trans b2.symm)
  subst this
  rw [← i2,← j2]
section
variable {prog:Program} {w:World} {A:Around} {E:Value→Shared→Prop} {s:Shared}
theorem kind_strs {vs:List Value} {ss:List Str} (hS:StrsAre vs ss) (h2:2≤vs.length):keyKind' vs.toArray=pure oneType':=by
  match vs,h2,hS with
  | v1 :: v2 :: rest,_,hS=>exact keyKind_strs hS
theorem sort_strs {a:Addr} {vs:List Value} {ss:List Str} {n:Nat} {P:PySem.Fin→Shared→Prop} (ho:s.heap.get? a=some (seqObj "list" vs.toArray n)) (hS:StrsAre vs ss) (hn:ss.Nodup) (hz:vs.length≤sizeLine)
    (h:∀ (out:Array Value) (ss':List Str),StrsAre out.toList ss'→ss'.Perm ss→ss'.Pairwise Slt→P (.done (.ret .none)) { s with heap:=sortedHeap s.heap a vs out }) :
    wpAny (model prog w) A (Builtin.«list.sort» ⟨[.ref a],[]⟩) P E s:=by
  rw [list_sort_plain]
  have ha:a < s.heap.objs.size:=Heap.lt_size ho
  have hsz0:vs.toArray.size≤sizeLine:=by rw [List.size_toArray];exact hz
  refine wpAny_bind (listItems_at ho rfl (wpAny_bind (listUpdate_at ho rfl ?_ hsz0)))
  obtain ⟨e1,ho1⟩:∃ e1,(s.heap.update a (Obj.mapSeq fun _=>#[])).get? a=some (seqObj "list" #[] e1):=⟨_,get?_update_seq ho (fun _=>#[])⟩
  refine wpAny_bind (seqEpoch_at ho1 rfl (wpAny_bind (wpAny_newTuple (wpAny_bind (wpAny_newList (wpAny_holding ?_))) (hsz:=hz))))
  have ho6:(((s.heap.update a (Obj.mapSeq fun _=>#[])).push (seqObj "tuple" vs.toArray 0)).push (seqObj "list" #[] 0)).get? a=some (seqObj "list" #[] e1):=by
    rw [Heap.get?_push_ne _ _ _ (by rw [size_push',Heap.size_update];exact Nat.ne_of_lt (Nat.lt_succ_of_lt ha)),Heap.get?_push_ne _ _ _ (by rw [Heap.size_update];exact Nat.ne_of_lt ha)];exact ho1
  dsimp only
  refine sort_run (keys:=vs.toArray) (vs:=vs) (O:=strKind.toKeyOrd) (key:=fun p=>(strOf p.1).cps.toList) (kd:=oneType') (by simp) (strs_nodup hS hn) (ltOk_str fun p hp=>?_) (fun h2 E Q q=>?_) fun st' hp hf hs=>?_
  · obtain ⟨i,_,_,e,_⟩:=zip_at (by simp) hp
    obtain ⟨x,t,e1,_⟩:=strs_get hS (by simpa using e)
    exact ⟨x,t,e1⟩
  · rw [kind_strs hS h2];exact wpAny_pure q
  · have hR:∀ p q:Keyed,p∈(vs.toArray.zip vs.toArray).toList→q∈(vs.toArray.zip vs.toArray).toList→Od.lt (odOf strKind.toKeyOrd (fun p=>(strOf p.1).cps.toList) (vs.toArray.zip vs.toArray)) p q→Slt (strOf p.2) (strOf q.2):=fun p q hp' hq' hlt=>by
      have pp:p.1=p.2:=by
        obtain ⟨i,_,_,e1,e2⟩:=zip_at (by simp) hp'
        have e1:vs[i]? = some p.1:=by simpa using e1
        rw [e1] at e2;exact Option.some.inj e2
      have qq:q.1=q.2:=by
        obtain ⟨i,_,_,e1,e2⟩:=zip_at (by simp) hq'
        have e1:vs[i]? = some q.1:=by simpa using e1
        rw [e1] at e2;exact Option.some.inj e2
      rcases hlt with hlt | ⟨h1,h2⟩
      · have hlt:decide ((strOf p.1).cps.toList < (strOf q.1).cps.toList)=true:=hlt
        rw [pp,qq] at hlt
        have z:(strOf p.2).cps.toList < (strOf q.2).cps.toList:=of_decide_eq_true hlt
        exact z
      · have h1:decide ((strOf q.1).cps.toList < (strOf p.1).cps.toList)=false:=h1
        rw [pp,qq] at h1
        have h3:=of_decide_eq_false h1
        by_cases e:(strOf p.2).cps.toList < (strOf q.2).cps.toList
        · exact e
        · have e2:=List.le_antisymm (List.not_lt.mp h3) (List.not_lt.mp e)
          have e3:=same_of_str hS hn (by simp) hp' hq' (str_eq_cps e2)
          rw [e3] at h2
          exact absurd h2 (Nat.lt_irrefl _)
    obtain ⟨ss',q1,q2,q3⟩:=sortedOut (R:=Slt) hS (by simp) hp hs hR
    have hout:((arrOf st').map (·.2)).size≤sizeLine + 1:=by
      rw [Array.size_map,hp.size_eq];simp;omega
    refine wpAny_bind (seqEpoch_at ho6 rfl (wpAny_bind (listUpdate_at ho6 rfl ?_ (Nat.zero_le _) hout)))
    rw [hf]
    simp only [bne_self_eq_false,Bool.false_eq_true,if_false]
    exact wpAny_pure (h _ ss' q1 q2 q3)
theorem lt_len {keys:Array Value} {vs:List Value} {ss:List Str} (hS:StrsAre vs ss) (hl:keys.size=vs.length) (hso:ss.Pairwise Slt) (hk:∀ (i:Nat) x k,ss[i]? = some x→keys[i]? = some k→numOf k=(x.length:Int))
    (hnd:vs.Nodup) {p q:Keyed} (hp:p∈(keys.zip vs.toArray).toList) (hq:q∈(keys.zip vs.toArray).toList) (hlt:Od.lt (odOf intOrd (fun p=>numOf p.1) (keys.zip vs.toArray)) p q):Wlt (strOf p.2) (strOf q.2):=by
  obtain ⟨i,i1,i2,i3,i4⟩:=zip_at hl hp
  obtain ⟨j,j1,j2,j3,j4⟩:=zip_at hl hq
  obtain ⟨x,t,e1,e2⟩:=strs_get hS i4
  obtain ⟨y,u,e3,e4⟩:=strs_get hS j4
  have k1:=hk i x p.1 e2 i3
  have k2:=hk j y q.1 e4 j3
  have sp:strOf p.2=x:=by rw [e1];rfl
  have sq:strOf q.2=y:=by rw [e3];rfl
  rw [sp,sq]
  have hz:(keys.zip vs.toArray).size=vs.length:=by simp;omega
  have hdist:(keys.zip vs.toArray).toList.Nodup:=by
    have e:(keys.zip vs.toArray).toList=keys.toList.zip vs:=by simp
    rw [e];exact nodup_zip hnd (by simpa using hl)
  rcases hlt with hlt | ⟨h1,h2⟩
  · have hlt:decide (numOf p.1 < numOf q.1)=true:=hlt
    have:=of_decide_eq_true hlt
    exact .inl (by omega)
  · have h1:decide (numOf q.1 < numOf p.1)=false:=h1
    have h3:=of_decide_eq_false h1
    have h2:rkOf (keys.zip vs.toArray) p < rkOf (keys.zip vs.toArray) q:=h2
    rw [← i2,← j2,rkOf_at hdist (by omega),rkOf_at hdist (by omega)] at h2
    obtain ⟨a1,a2⟩:=List.getElem?_eq_some_iff.mp e2
    obtain ⟨b1,b2⟩:=List.getElem?_eq_some_iff.mp e4
    have h4:=List.pairwise_iff_getElem.mp hso i j a1 b1 h2
    rw [a2,b2] at h4
    by_cases z:x.length < y.length
    · exact .inl z
    · exact .inr ⟨by omega,h4⟩
theorem lt_pair {h:Heap} {keys:Array Value} {vs:List Value} {ss:List Str} (hS:StrsAre vs ss) (hn:ss.Nodup) (hl:keys.size=vs.length) (hk:∀ (i:Nat) x k,ss[i]? = some x→keys[i]? = some k→PairAt h k (x.length:Int) x)
    {p q:Keyed} (hp:p∈(keys.zip vs.toArray).toList) (hq:q∈(keys.zip vs.toArray).toList) (hlt:Od.lt (odOf pairOrd (pairKey h) (keys.zip vs.toArray)) p q):Wlt (strOf p.2) (strOf q.2):=by
  obtain ⟨i,i1,i2,i3,i4⟩:=zip_at hl hp
  obtain ⟨j,j1,j2,j3,j4⟩:=zip_at hl hq
  obtain ⟨x,t,e1,e2⟩:=strs_get hS i4
  obtain ⟨y,u,e3,e4⟩:=strs_get hS j4
  have k1:=pairKey_of (p:=p) (hk i x p.1 e2 i3)
  have k2:=pairKey_of (p:=q) (hk j y q.1 e4 j3)
  have sp:strOf p.2=x:=by rw [e1];rfl
  have sq:strOf q.2=y:=by rw [e3];rfl
  have bl:∀ a b:Keyed,Od.b (odOf pairOrd (pairKey h) (keys.zip vs.toArray)) a b=(decide ((pairKey h a).1 < (pairKey h b).1) || (decide ((pairKey h a).1=(pairKey h b).1) && decide ((pairKey h a).2 < (pairKey h b).2))):=fun a b=>rfl
  rw [sp,sq]
  rcases hlt with hlt | ⟨h1,h2⟩
  · rw [bl,k1,k2] at hlt
    simp only [Bool.or_eq_true,Bool.and_eq_true,decide_eq_true_eq] at hlt
    rcases hlt with z | ⟨z1,z2⟩
    · exact .inl (by omega)
    · exact .inr ⟨by omega,z2⟩
  · rw [bl,k1,k2] at h1
    simp only [Bool.or_eq_false_iff,Bool.and_eq_false_iff,decide_eq_false_iff_not] at h1
    by_cases z:x.length < y.length
    · exact .inl z
    · have ez:x.length=y.length:=by omega
      refine .inr ⟨ez,?_⟩
      have h3:=h1.2.resolve_left (fun z=>z (by omega))
      by_cases e:x.cps.toList < y.cps.toList
      · exact e
      · have e2:=List.le_antisymm (List.not_lt.mp h3) (List.not_lt.mp e)
        have e3:=same_of_str hS hn hl hp hq (by rw [sp,sq];exact str_eq_cps e2)
        rw [e3] at h2
        exact absurd h2 (Nat.lt_irrefl _)
end
end Tim
end
section
namespace Wm
variable {α:Type} [DecidableEq α]
noncomputable abbrev D (α:Type):=List (α×Int)
noncomputable def look (d:D α) (w:α):Option Int:=(d.find? fun p=>decide (p.1=w)).map (·.2)
noncomputable def val (d:D α) (w:α):Int:=(look d w).getD 0
noncomputable def put (d:D α) (w:α) (c:Int):D α:=if (d.any fun p=>decide (p.1=w))=true then d.map (fun p=>if p.1=w then (p.1,c) else p) else d++[(w,c)]
noncomputable def drp (d:D α) (w:α):D α:=d.filter fun p=>decide (p.1≠w)
noncomputable def keys (d:D α):List α:=d.map (·.1)
theorem look_nil (w:α):look ([]:D α) w=none:=rfl
theorem look_pos {p:α×Int} {r:D α} {w:α} (e:p.1=w):look (p :: r) w=some p.2:=by simp [look,List.find?_cons,e]
theorem look_neg {p:α×Int} {r:D α} {w:α} (e:¬ p.1=w):look (p :: r) w=look r w:=by simp [look,List.find?_cons,e]
theorem look_any (w:α):∀ d:D α,(d.any fun p=>decide (p.1=w))=(look d w).isSome
  | []=>rfl
  | p :: r=>by
    rw [List.any_cons]
    by_cases e:p.1=w
    · rw [look_pos e,decide_eq_true e];rfl
    · rw [look_neg e,decide_eq_false e,Bool.false_or];exact look_any w r
theorem look_map (w x:α) (c:Int):∀ d:D α,look (d.map fun p=>if p.1=w then (p.1,c) else p) x=(look d x).map fun v=>if x=w then c else v
  | []=>rfl
  | p :: r=>by
    have ih:=look_map w x c r
    rw [List.map_cons]
    by_cases h:p.1=w
    · rw [if_pos h]
      by_cases e:p.1=x
      · rw [look_pos (p:=(p.1,c)) e,look_pos e,Option.map_some,if_pos (e.symm.trans h)]
      · rw [look_neg (p:=(p.1,c)) e,look_neg e,ih]
    · rw [if_neg h]
      by_cases e:p.1=x
      · rw [look_pos (p:=p) e,look_pos e,Option.map_some,if_neg (fun z=>h (e.trans z))]
      · rw [look_neg (p:=p) e,look_neg e,ih]
theorem look_snoc (w x:α) (c:Int):∀ d:D α,look d w=none→look (d++[(w,c)]) x=if x=w then some c else look d x
  | [],_=>by
    by_cases e:w=x
    · rw [if_pos e.symm];exact look_pos (p:=(w,c)) e
    · rw [if_neg (fun z=>e z.symm)];exact look_neg (p:=(w,c)) e
  | p :: r,hn=>by
    rw [List.cons_append]
    have hk:¬ p.1=w:=fun z=>by rw [look_pos z] at hn;cases hn
    rw [look_neg hk] at hn
    have ih:=look_snoc w x c r hn
    by_cases e:p.1=x
    · rw [look_pos e,look_pos e,if_neg (fun z=>hk (e.trans z))]
    · rw [look_neg e,look_neg e,ih]
theorem look_put (d:D α) (w x:α) (c:Int):look (put d w c) x=if x=w then some c else look d x:=by
  unfold put
  by_cases a:(d.any fun p=>decide (p.1=w))=true
  · rw [if_pos a,look_map]
    rw [look_any] at a
    by_cases e:x=w
    · obtain ⟨y,hy⟩:=Option.isSome_iff_exists.mp a
      rw [if_pos e,e,hy,Option.map_some,if_pos rfl]
    · rw [if_neg e]
      cases look d x with
      | none=>rfl
      | some y=>rw [Option.map_some,if_neg e]
  · rw [if_neg a]
    refine look_snoc w x c d ?_
    rw [look_any] at a
    cases q:look d w with
    | none=>rfl
    | some y=>rw [q] at a;exact (a rfl).elim
theorem look_drp (w x:α):∀ d:D α,look (drp d w) x=if x=w then none else look d x
  | []=>by simp [drp,look_nil]
  | p :: r=>by
    have ih:=look_drp w x r
    unfold drp at ih ⊢
    rw [List.filter_cons]
    by_cases e:p.1=w
    · rw [if_neg (by simp [e]),ih]
      by_cases h:x=w
      · rw [if_pos h,if_pos h]
      · rw [if_neg h,if_neg h,look_neg (fun z=>h (z.symm.trans e))]
    · rw [if_pos (by simp [e])]
      by_cases h:p.1=x
      · rw [look_pos h,look_pos h,if_neg (fun z=>e (h.trans z))]
      · rw [look_neg h,look_neg h,ih]
theorem val_put (d:D α) (w x:α) (c:Int):val (put d w c) x=if x=w then c else val d x:=by
  unfold val;rw [look_put];split <;> rfl
theorem val_drp (d:D α) (w x:α):val (drp d w) x=if x=w then 0 else val d x:=by
  unfold val;rw [look_drp];split <;> rfl
theorem mem_of_look {d:D α} {w:α} {c:Int} (h:look d w=some c):(w,c)∈d:=by
  unfold look at h
  obtain ⟨p,h1,h2⟩:=Option.map_eq_some_iff.mp h
  have h3:=List.find?_some h1
  have h4:=List.mem_of_find?_eq_some h1
  have e:p.1=w:=of_decide_eq_true h3
  have:p=(w,c):=Prod.ext e h2
  rw [← this];exact h4
theorem look_of_mem:∀ {d:D α} {w:α} {c:Int},(keys d).Nodup→(w,c)∈d→look d w=some c
  | [],_,_,_,h=>by simp at h
  | p :: r,w,c,hn,h=>by
    have hn:(p.1 :: keys r).Nodup:=hn
    obtain ⟨h1,h2⟩:=List.nodup_cons.mp hn
    rcases List.mem_cons.mp h with e | h
    · subst e;exact look_pos rfl
    · have hw:¬ p.1=w:=fun e=>h1 (by rw [e];exact List.mem_map.mpr ⟨(w,c),h,rfl⟩)
      rw [look_neg hw];exact look_of_mem h2 h
theorem look_none {d:D α} {w:α}:look d w=none↔w ∉ keys d:=by
  constructor
  · intro h m
    obtain ⟨p,hp,e⟩:=List.mem_map.mp m
    have q:(d.any fun p=>decide (p.1=w))=true:=List.any_eq_true.mpr ⟨p,hp,decide_eq_true e⟩
    rw [look_any,h] at q;cases q
  · intro h
    cases q:look d w with
    | none=>rfl
    | some c=>exact absurd (List.mem_map.mpr ⟨(w,c),mem_of_look q,rfl⟩) h
theorem keys_put (d:D α) (w:α) (c:Int):keys (put d w c)=if w∈keys d then keys d else keys d++[w]:=by
  unfold put
  by_cases a:(d.any fun p=>decide (p.1=w))=true
  · rw [if_pos a]
    have hw:w∈keys d:=by
      obtain ⟨p,hp,e⟩:=List.any_eq_true.mp a
      exact List.mem_map.mpr ⟨p,hp,of_decide_eq_true e⟩
    rw [if_pos hw]
    unfold keys
    rw [List.map_map]
    apply List.map_congr_left
    intro p _
    show (if p.1=w then (p.1,c) else p).1=p.1
    split <;> rfl
  · rw [if_neg a]
    have hw:w ∉ keys d:=by
      apply look_none.mp
      rw [look_any] at a
      cases q:look d w with
      | none=>rfl
      | some y=>rw [q] at a;exact (a rfl).elim
    rw [if_neg hw]
    unfold keys;rw [List.map_append];rfl
theorem nd_put {d:D α} (h:(keys d).Nodup) (w:α) (c:Int):(keys (put d w c)).Nodup:=by
  rw [keys_put]
  split
  · exact h
  · rename_i hw
    rw [List.nodup_append]
    refine ⟨h,by simp,?_⟩
    intro a ha b hb e
    rw [List.mem_singleton] at hb
    exact hw (by rw [← hb,← e];exact ha)
theorem nd_filter {d:D α} (h:(keys d).Nodup) (f:α×Int→Bool):(keys (d.filter f)).Nodup:=by
  unfold keys at h ⊢
  exact h.sublist (List.Sublist.map _ List.filter_sublist)
theorem nd_drp {d:D α} (h:(keys d).Nodup) (w:α):(keys (drp d w)).Nodup:=nd_filter h _
theorem len_put (d:D α) (w:α) (c:Int):(put d w c).length≤d.length + 1:=by
  unfold put
  split
  · rw [List.length_map];omega
  · rw [List.length_append];simp
theorem nd_of_keys {d:D α} (h:(keys d).Nodup):d.Nodup:=by
  have h:(d.map (·.1)).Pairwise (·≠·):=h
  rw [List.pairwise_map] at h
  exact h.imp fun hab e=>hab (by rw [e])
noncomputable def NZ (d:D α):Prop:=∀ p∈d,p.2≠0
theorem perm_of_val {d e:D α} (hd:(keys d).Nodup) (he:(keys e).Nodup) (nd:NZ d) (ne:NZ e) (h:∀ w,val d w=val e w):d.Perm e:=by
  have hdn:d.Nodup:=nd_of_keys hd
  have hen:e.Nodup:=nd_of_keys he
  refine (List.perm_ext_iff_of_nodup hdn hen).mpr fun p=>?_
  have one:∀ {d e:D α},(keys d).Nodup→NZ d→(∀ w,val d w=val e w)→p∈d→p∈e:=fun {d e} hd nd h hp=>by
    have l:=look_of_mem hd (w:=p.1) (c:=p.2) hp
    have v:val e p.1=p.2:=by rw [← h];unfold val;rw [l];rfl
    have nz:=nd p hp
    cases q:look e p.1 with
    | none=>unfold val at v;rw [q] at v;exact absurd v.symm nz
    | some c =>
      have:c=p.2:=by unfold val at v;rw [q] at v;exact v
      subst this
      exact mem_of_look q
  exact ⟨one hd nd h,one he ne fun w=>(h w).symm⟩
noncomputable def isum:List Int→Int
  | []=>0
  | x :: r=>x + isum r
theorem isum_append:∀ a b:List Int,isum (a++b)=isum a + isum b
  | [],b=>by simp [isum]
  | x :: r,b=>by rw [List.cons_append,isum,isum,isum_append r b];omega
theorem isum_perm {a b:List Int} (h:a.Perm b):isum a=isum b:=by
  induction h with
  | nil=>rfl
  | cons x _ ih=>simp only [isum];rw [ih]
  | swap x y l=>simp only [isum];omega
  | trans _ _ i1 i2=>exact i1.trans i2
theorem isum_map_congr {β:Type} {f g:β→Int}:∀ {l:List β},(∀ p∈l,f p=g p)→isum (l.map f)=isum (l.map g)
  | [],_=>rfl
  | x :: r,h=>by
    simp only [List.map_cons,isum]
    rw [h x (List.mem_cons_self ..),isum_map_congr fun p hp=>h p (List.mem_cons_of_mem _ hp)]
noncomputable def add (d:D α) (w:α) (c:Int):D α:=put d w (val d w + c)
theorem val_add (d:D α) (w x:α) (c:Int):val (add d w c) x=val d x + if x=w then c else 0:=by
  unfold add;rw [val_put]
  by_cases e:x=w
  · rw [if_pos e,if_pos e,e]
  · rw [if_neg e,if_neg e];omega
noncomputable def lput (d:D α) (w:α) (c:Int):D α:=if val (put d w (val d w + c)) w=0 then drp (put d w (val d w + c)) w else put d w (val d w + c)
theorem val_lput (d:D α) (w x:α) (c:Int):val (lput d w c) x=val d x + if x=w then c else 0:=by
  unfold lput
  rw [val_put,if_pos rfl]
  split
  · rename_i h
    rw [val_drp]
    by_cases e:x=w
    · rw [if_pos e,if_pos e,e];omega
    · rw [if_neg e,val_put,if_neg e,if_neg e];omega
  · exact val_add d w x c
theorem nd_add {d:D α} (h:(keys d).Nodup) (w:α) (c:Int):(keys (add d w c)).Nodup:=nd_put h _ _
theorem nd_lput {d:D α} (h:(keys d).Nodup) (w:α) (c:Int):(keys (lput d w c)).Nodup:=by
  unfold lput
  split
  · exact nd_drp (nd_put h _ _) _
  · exact nd_put h _ _
theorem NZ.of_val {d:D α} (hn:(keys d).Nodup) (h:∀ w∈keys d,val d w≠0):NZ d:=fun p hp=>by
  have l:=look_of_mem hn (w:=p.1) (c:=p.2) hp
  have:=h p.1 (List.mem_map.mpr ⟨p,hp,rfl⟩)
  unfold val at this;rw [l] at this;exact this
theorem NZ.val {d:D α} (hn:(keys d).Nodup) (h:NZ d) {w:α} (hw:w∈keys d):val d w≠0:=by
  obtain ⟨p,hp,e⟩:=List.mem_map.mp hw
  have l:=look_of_mem hn (w:=p.1) (c:=p.2) hp
  unfold Wm.val;rw [← e,l];exact h p hp
theorem keys_drp {d:D α} {w x:α} (h:x∈keys (drp d w)):x∈keys d∧x≠w:=by
  obtain ⟨p,hp,e⟩:=List.mem_map.mp h
  have:=List.mem_filter.mp hp
  exact ⟨List.mem_map.mpr ⟨p,this.1,e⟩,by rw [← e];exact of_decide_eq_true this.2⟩
theorem nz_lput {d:D α} (hn:(keys d).Nodup) (h:NZ d) (w:α) (c:Int):NZ (lput d w c):=by
  refine NZ.of_val (nd_lput hn w c) fun x hx=>?_
  rw [val_lput]
  unfold lput at hx
  rw [val_put,if_pos rfl] at hx
  by_cases z:val d w + c=0
  · rw [if_pos z] at hx
    obtain ⟨h1,h2⟩:=keys_drp hx
    rw [if_neg h2]
    rw [keys_put] at h1
    have hx':x∈keys d:=by
      split at h1
      · exact h1
      · rcases List.mem_append.mp h1 with q | q
        · exact q
        · rw [List.mem_singleton] at q;exact absurd q h2
    have:=NZ.val hn h hx'
    omega
  · rw [if_neg z] at hx
    by_cases e:x=w
    · rw [if_pos e,e];exact z
    · rw [if_neg e]
      rw [keys_put] at hx
      have hx':x∈keys d:=by
        split at hx
        · exact hx
        · rcases List.mem_append.mp hx with q | q
          · exact q
          · rw [List.mem_singleton] at q;exact absurd q e
      have:=NZ.val hn h hx'
      omega
noncomputable def nz (d:D α):D α:=d.foldl (fun k p=>if p.2≠0 then put k p.1 p.2 else k) []
theorem put_new {d:D α} {w:α} (c:Int) (h:w ∉ keys d):put d w c=d++[(w,c)]:=by
  unfold put
  rw [look_any,look_none.mpr h]
  exact if_neg (by decide)
theorem nz_go:∀ (d k:D α),(keys (k++d)).Nodup→d.foldl (fun k p=>if p.2≠0 then put k p.1 p.2 else k) k=k++d.filter fun p=>decide (p.2≠0)
  | [],k,_=>by simp
  | p :: r,k,h=>by
    have e:keys (k++p :: r)=keys k++p.1 :: keys r:=by unfold keys;rw [List.map_append,List.map_cons]
    rw [e] at h
    rw [List.foldl_cons,List.filter_cons]
    have hp:p.1 ∉ keys k:=fun m=>by
      rw [List.nodup_append] at h
      exact h.2.2 _ m _ (List.mem_cons_self ..) rfl
    by_cases z:p.2=0
    · rw [if_neg (by simpa using z),if_neg (by simp [z])]
      refine nz_go r k ?_
      have e2:keys (k++r)=keys k++keys r:=by unfold keys;rw [List.map_append]
      rw [e2]
      exact h.sublist (List.Sublist.append_left (List.sublist_cons_self _ _) _)
    · rw [if_pos (by simpa using z),if_pos (by simp [z]),put_new _ hp]
      rw [nz_go r (k++[(p.1,p.2)]) (by
        have e2:keys (k++[(p.1,p.2)]++r)=keys k++p.1 :: keys r:=by unfold keys;simp
        rw [e2];exact h)]
      simp
theorem nz_eq {d:D α} (h:(keys d).Nodup):nz d=d.filter fun p=>decide (p.2≠0):=by
  unfold nz;rw [nz_go d [] (by simpa using h)];rfl
theorem nd_nz {d:D α} (h:(keys d).Nodup):(keys (nz d)).Nodup:=by rw [nz_eq h];exact nd_filter h _
theorem NZ_nz {d:D α} (h:(keys d).Nodup):NZ (nz d):=fun p hp=>by
  rw [nz_eq h] at hp
  exact of_decide_eq_true (List.mem_filter.mp hp).2
theorem look_filter {d:D α} (h:(keys d).Nodup) (w:α):val (d.filter fun p=>decide (p.2≠0)) w=val d w:=by
  cases q:look d w with
  | none =>
    have hw:w ∉ keys (d.filter fun p=>decide (p.2≠0)):=fun m=>by
      obtain ⟨p,hp,e⟩:=List.mem_map.mp m
      exact look_none.mp q (List.mem_map.mpr ⟨p,(List.mem_filter.mp hp).1,e⟩)
    unfold val;rw [q,look_none.mpr hw]
  | some c =>
    by_cases z:c=0
    · have hw:w ∉ keys (d.filter fun p=>decide (p.2≠0)):=fun m=>by
        obtain ⟨p,hp,e⟩:=List.mem_map.mp m
        have h1:=List.mem_filter.mp hp
        have h2:=look_of_mem h (w:=p.1) (c:=p.2) h1.1
        rw [e,q] at h2
        exact of_decide_eq_true h1.2 (by rw [← Option.some.inj h2];exact z)
      unfold val;rw [q,look_none.mpr hw,z];rfl
    · have hm:(w,c)∈d.filter fun p=>decide (p.2≠0):=List.mem_filter.mpr ⟨mem_of_look q,by simp [z]⟩
      unfold val;rw [q,look_of_mem (nd_filter h _) hm]
theorem val_nz {d:D α} (h:(keys d).Nodup) (w:α):val (nz d) w=val d w:=by rw [nz_eq h,look_filter h]
theorem val_fold {β:Type} {step:D α→β→D α} {g:β→α→Int} (hs:∀ d p x,val (step d p) x=val d x + g p x):∀ (l:List β) (d:D α) (x:α),val (l.foldl step d) x=val d x + isum (l.map fun p=>g p x)
  | [],d,x=>by simp [isum]
  | p :: r,d,x=>by
    rw [List.foldl_cons,val_fold hs r,hs,List.map_cons,isum];omega
theorem keep_fold {β:Type} {step:D α→β→D α} {P:D α→Prop} (hs:∀ d p,P d→P (step d p)):∀ (l:List β) (d:D α),P d→P (l.foldl step d)
  | [],d,h=>h
  | p :: r,d,h=>by rw [List.foldl_cons];exact keep_fold hs r _ (hs d p h)
variable (op:α→α→α)
noncomputable def gv (p q:α×Int) (x:α):Int:=(if x=op p.1 q.1 then p.2 * q.2 else 0) + if x=op q.1 p.1 then -(p.2 * q.2) else 0
noncomputable def stepP (p:α×Int) (d:D α) (q:α×Int):D α:=add (add d (op p.1 q.1) (p.2 * q.2)) (op q.1 p.1) (-(p.2 * q.2))
noncomputable def stepL (p:α×Int) (d:D α) (q:α×Int):D α:=lput (lput d (op p.1 q.1) (p.2 * q.2)) (op q.1 p.1) (0 - p.2 * q.2)
noncomputable def foldP (a b:D α):D α:=a.foldl (fun d p=>b.foldl (stepP op p) d) []
noncomputable def foldL (a b:D α):D α:=a.foldl (fun d p=>b.foldl (stepL op p) d) []
noncomputable def twP (a b:D α):D α:=nz (foldP op a b)
variable {op}
theorem val_stepP (p q:α×Int) (d:D α) (x:α):val (stepP op p d q) x=val d x + gv op p q x:=by
  unfold stepP gv;rw [val_add,val_add];omega
theorem val_stepL (p q:α×Int) (d:D α) (x:α):val (stepL op p d q) x=val d x + gv op p q x:=by
  unfold stepL gv;rw [val_lput,val_lput]
  have e:(0:Int) - p.2 * q.2 = -(p.2 * q.2):=by omega
  rw [e];omega
theorem val_foldP (a b:D α) (x:α):val (foldP op a b) x=isum (a.map fun p=>isum (b.map fun q=>gv op p q x)):=by
  have:=val_fold (step:=fun d p=>b.foldl (stepP op p) d) (g:=fun p x=>isum (b.map fun q=>gv op p q x)) (fun d p x=>val_fold (fun d q x=>val_stepP p q d x) b d x) a [] x
  unfold foldP;rw [this];unfold val;simp [look_nil]
theorem val_foldL (a b:D α) (x:α):val (foldL op a b) x=isum (a.map fun p=>isum (b.map fun q=>gv op p q x)):=by
  have:=val_fold (step:=fun d p=>b.foldl (stepL op p) d) (g:=fun p x=>isum (b.map fun q=>gv op p q x)) (fun d p x=>val_fold (fun d q x=>val_stepL p q d x) b d x) a [] x
  unfold foldL;rw [this];unfold val;simp [look_nil]
theorem nd_foldP (a b:D α):(keys (foldP op a b)).Nodup :=
  keep_fold (P:=fun d=>(keys d).Nodup) (fun d p h=>keep_fold (P:=fun d=>(keys d).Nodup) (fun d q h=>nd_add (nd_add h _ _) _ _) b d h) a [] List.nodup_nil
theorem good_foldL (a b:D α):(keys (foldL op a b)).Nodup∧NZ (foldL op a b) :=
  keep_fold (P:=fun d=>(keys d).Nodup∧NZ d) (fun d p h=>keep_fold (P:=fun d=>(keys d).Nodup∧NZ d) (fun d q h=>⟨nd_lput (nd_lput h.1 _ _) _ _,nz_lput (nd_lput h.1 _ _) (nz_lput h.1 h.2 _ _) _ _⟩) b d h) a [] ⟨List.nodup_nil,fun p hp=>by simp at hp⟩
theorem tw_perm {a a' b b':D α} (ha:a.Perm a') (hb:b.Perm b'):(twP op a b).Perm (foldL op a' b'):=by
  have n1:=nd_foldP (op:=op) a b
  have n2:=good_foldL (op:=op) a' b'
  refine perm_of_val (nd_nz n1) n2.1 (NZ_nz n1) n2.2 fun x=>?_
  unfold twP
  rw [val_nz n1,val_foldP,val_foldL]
  rw [isum_perm (ha.map _)]
  exact isum_map_congr fun p _=>isum_perm (hb.map _)
inductive Br (α:Type) where
  | leaf (x:α)
  | node (l r:Br α)
noncomputable def Br.wt:Br α→Nat
  | .leaf _=>1
  | .node l r=>l.wt + r.wt
variable (op)
noncomputable def cP:Br α→D α
  | .leaf x=>[(x,1)]
  | .node l r=>twP op (cP l) (cP r)
noncomputable def cL:Br α→D α
  | .leaf x=>[(x,1)]
  | .node l r=>foldL op (cL l) (cL r)
noncomputable def smP (t:List (Int×Br α)):D α:=nz (t.foldl (fun d p=>(cP op p.2).foldl (fun d q=>add d q.1 (p.1 * q.2)) d) [])
noncomputable def smL (t:List (Int×Br α)):D α:=t.foldl (fun d p=>(cL op p.2).foldl (fun d q=>lput d q.1 (p.1 * q.2)) d) []
variable {op}
theorem c_perm:∀ b:Br α,(cP op b).Perm (cL op b)
  | .leaf x=>List.Perm.refl _
  | .node l r=>tw_perm (c_perm l) (c_perm r)
theorem nd_cP:∀ b:Br α,(keys (cP op b)).Nodup
  | .leaf x=>by simp [cP,keys]
  | .node l r=>nd_nz (nd_foldP _ _)
theorem nd_cL:∀ b:Br α,(keys (cL op b)).Nodup
  | .leaf x=>by simp [cL,keys]
  | .node l r=>(good_foldL _ _).1
theorem nd_smP0 (t:List (Int×Br α)):(keys (t.foldl (fun d p=>(cP op p.2).foldl (fun d q=>add d q.1 (p.1 * q.2)) d) [])).Nodup :=
  keep_fold (P:=fun d=>(keys d).Nodup) (fun d p h=>keep_fold (P:=fun d=>(keys d).Nodup) (fun d q h=>nd_add h _ _) _ d h) t [] List.nodup_nil
theorem good_smL (t:List (Int×Br α)):(keys (smL op t)).Nodup∧NZ (smL op t) :=
  keep_fold (P:=fun d=>(keys d).Nodup∧NZ d) (fun d p h=>keep_fold (P:=fun d=>(keys d).Nodup∧NZ d) (fun d q h=>⟨nd_lput h.1 _ _,nz_lput h.1 h.2 _ _⟩) _ d h) t [] ⟨List.nodup_nil,fun p hp=>by simp at hp⟩
theorem sm_perm (t:List (Int×Br α)):(smP op t).Perm (smL op t):=by
  have n1:=nd_smP0 (op:=op) t
  have n2:=good_smL (op:=op) t
  refine perm_of_val (nd_nz n1) n2.1 (NZ_nz n1) n2.2 fun x=>?_
  unfold smP
  rw [val_nz n1]
  have e1:=val_fold (step:=fun d (p:Int×Br α)=>(cP op p.2).foldl (fun d q=>add d q.1 (p.1 * q.2)) d) (g:=fun p x=>isum ((cP op p.2).map fun q=>if x=q.1 then p.1 * q.2 else 0)) (fun d p x=>val_fold (g:=fun (q:α×Int) x=>if x=q.1 then p.1 * q.2 else 0) (fun d q x=>val_add d q.1 x _) _ d x) t [] x
  have e2:=val_fold (step:=fun d (p:Int×Br α)=>(cL op p.2).foldl (fun d q=>lput d q.1 (p.1 * q.2)) d) (g:=fun p x=>isum ((cL op p.2).map fun q=>if x=q.1 then p.1 * q.2 else 0)) (fun d p x=>val_fold (g:=fun (q:α×Int) x=>if x=q.1 then p.1 * q.2 else 0) (fun d q x=>val_lput d q.1 x _) _ d x) t [] x
  rw [e1]
  unfold smL
  rw [e2]
  congr 1
  exact isum_map_congr fun p _=>isum_perm ((c_perm p.2).map _)
theorem nd_smP (t:List (Int×Br α)):(keys (smP op t)).Nodup:=nd_nz (nd_smP0 t)
noncomputable def l1 (d:D α):Nat:=(d.map fun p=>p.2.natAbs).sum
theorem len_fold {β:Type} {step:D α→β→D α} {k:Nat} (hs:∀ d p,(step d p).length≤d.length + k):∀ (l:List β) (d:D α),(l.foldl step d).length≤d.length + l.length * k
  | [],d=>by simp
  | p :: r,d=>by
    rw [List.foldl_cons]
    have h1:=len_fold hs r (step d p)
    have h2:=hs d p
    rw [List.length_cons,Nat.add_mul,Nat.one_mul];omega
theorem len_add (d:D α) (w:α) (c:Int):(add d w c).length≤d.length + 1:=len_put _ _ _
theorem len_lput (d:D α) (w:α) (c:Int):(lput d w c).length≤d.length + 1:=by
  unfold lput
  split
  · exact Nat.le_trans (List.length_filter_le _ _) (len_put _ _ _)
  · exact len_put _ _ _
theorem len_stepP (p q:α×Int) (d:D α):(stepP op p d q).length≤d.length + 2:=by
  unfold stepP
  have h1:=len_add (add d (op p.1 q.1) (p.2 * q.2)) (op q.1 p.1) (-(p.2 * q.2))
  have h2:=len_add d (op p.1 q.1) (p.2 * q.2)
  omega
theorem len_stepL (p q:α×Int) (d:D α):(stepL op p d q).length≤d.length + 2:=by
  unfold stepL
  have h1:=len_lput (lput d (op p.1 q.1) (p.2 * q.2)) (op q.1 p.1) (0 - p.2 * q.2)
  have h2:=len_lput d (op p.1 q.1) (p.2 * q.2)
  omega
theorem len_nz {d:D α} (h:(keys d).Nodup):(nz d).length≤d.length:=by rw [nz_eq h];exact List.length_filter_le _ _
theorem len_foldP (a b:D α):(foldP op a b).length≤a.length * (b.length * 2):=by
  have:=len_fold (step:=fun d p=>b.foldl (stepP op p) d) (k:=b.length * 2) (fun d p=>len_fold (fun d q=>len_stepP p q d) b d) a []
  simpa [foldP] using this
theorem len_cP:∀ b:Br α,(cP op b).length≤2 ^ (b.wt - 1)∧1≤b.wt
  | .leaf x=>by simp [cP,Br.wt]
  | .node l r=>by
    obtain ⟨h1,h2⟩:=len_cP l
    obtain ⟨h3,h4⟩:=len_cP r
    refine ⟨?_,by simp only [Br.wt];omega⟩
    have h5:=len_foldP (op:=op) (cP op l) (cP op r)
    have h6:=len_nz (nd_foldP (op:=op) (cP op l) (cP op r))
    have h7:(cP op l).length * ((cP op r).length * 2)≤2 ^ (l.wt - 1) * (2 ^ (r.wt - 1) * 2):=Nat.mul_le_mul h1 (Nat.mul_le_mul_right 2 h3)
    have h8:2 ^ (l.wt - 1) * (2 ^ (r.wt - 1) * 2)=2 ^ (l.wt + r.wt - 1):=by
      rw [← Nat.pow_succ,← Nat.pow_add];congr 1;omega
    show (nz (foldP op (cP op l) (cP op r))).length≤2 ^ (l.wt + r.wt - 1)
    omega
theorem len_cL (b:Br α):(cL op b).length≤2 ^ (b.wt - 1):=by rw [← (c_perm b).length_eq];exact (len_cP b).1
theorem l1_nil:l1 ([]:D α)=0:=rfl
theorem l1_cons (p:α×Int) (d:D α):l1 (p :: d)=p.2.natAbs + l1 d:=by simp [l1]
theorem l1_append (d e:D α):l1 (d++e)=l1 d + l1 e:=by simp [l1]
theorem l1_filter (f:α×Int→Bool):∀ d:D α,l1 (d.filter f)≤l1 d
  | []=>Nat.le_refl _
  | p :: r=>by
    have ih:=l1_filter f r
    rw [List.filter_cons,l1_cons]
    split
    · rw [l1_cons];omega
    · omega
theorem mem_l1 {d:D α} {p:α×Int} (h:p∈d):p.2.natAbs≤l1 d:=by
  induction d with
  | nil=>simp at h
  | cons y r ih =>
    rw [l1_cons]
    rcases List.mem_cons.mp h with e | h
    · rw [← e];omega
    · have:=ih h;omega
theorem val_l1 (d:D α) (w:α):(val d w).natAbs≤l1 d:=by
  cases q:look d w with
  | none=>unfold val;rw [q];simp
  | some c=>unfold val;rw [q];exact mem_l1 (mem_of_look q)
theorem map_not {w:α} {c:Int}:∀ {r:D α},w ∉ keys r→(r.map fun p=>if p.1=w then (p.1,c) else p)=r
  | [],_=>rfl
  | q :: r,h=>by
    have hq:¬ q.1=w:=fun e=>h (List.mem_map.mpr ⟨q,List.mem_cons_self ..,e⟩)
    rw [List.map_cons,if_neg hq,map_not fun m=>h (List.mem_cons_of_mem _ m)]
theorem l1_map {w:α} {c:Int}:∀ {d:D α},(keys d).Nodup→l1 (d.map fun p=>if p.1=w then (p.1,c) else p)≤l1 d - (val d w).natAbs + c.natAbs
  | [],_=>by simp [l1]
  | p :: r,h=>by
    have h:(p.1 :: keys r).Nodup:=h
    obtain ⟨h1,h2⟩:=List.nodup_cons.mp h
    rw [List.map_cons,l1_cons,l1_cons]
    by_cases e:p.1=w
    · rw [if_pos e,map_not (by rw [← e];exact h1)]
      have:val (p :: r) w=p.2:=by unfold val;rw [look_pos e];rfl
      rw [this];dsimp only;omega
    · rw [if_neg e]
      have ih:=l1_map (w:=w) (c:=c) h2
      have:val (p :: r) w=val r w:=by unfold val;rw [look_neg e]
      rw [this]
      have hv:=val_l1 r w
      omega
theorem l1_put {d:D α} (h:(keys d).Nodup) (w:α) (c:Int):l1 (put d w c)≤l1 d - (val d w).natAbs + c.natAbs:=by
  unfold put
  split
  · exact l1_map h
  · rename_i a
    have hw:look d w=none:=by
      rw [look_any] at a
      cases q:look d w with
      | none=>rfl
      | some y=>rw [q] at a;exact (a rfl).elim
    rw [l1_append,l1_cons,l1_nil]
    unfold val;rw [hw];simp
theorem l1_add {d:D α} (h:(keys d).Nodup) (w:α) (c:Int):l1 (add d w c)≤l1 d + c.natAbs:=by
  have h1:=l1_put h w (val d w + c)
  have h2:=val_l1 d w
  unfold add
  have h3:(val d w + c).natAbs≤(val d w).natAbs + c.natAbs:=Int.natAbs_add_le _ _
  omega
theorem l1_foldP (a b:D α):l1 (foldP op a b)≤l1 a * (l1 b * 2):=by
  have inner:∀ (p:α×Int) (b:D α) (d:D α),(keys d).Nodup→(keys (b.foldl (stepP op p) d)).Nodup∧l1 (b.foldl (stepP op p) d)≤l1 d + p.2.natAbs * (l1 b * 2):=by
    intro p b
    induction b with
    | nil=>intro d h;exact ⟨h,by simp⟩
    | cons q r ih =>
      intro d h
      rw [List.foldl_cons]
      have n1:(keys (stepP op p d q)).Nodup:=nd_add (nd_add h _ _) _ _
      obtain ⟨i1,i2⟩:=ih (stepP op p d q) n1
      refine ⟨i1,?_⟩
      have e1:l1 (stepP op p d q)≤l1 d + (p.2 * q.2).natAbs + (p.2 * q.2).natAbs:=by
        unfold stepP
        have h1:=l1_add (nd_add h (op p.1 q.1) (p.2 * q.2)) (op q.1 p.1) (-(p.2 * q.2))
        have h2:=l1_add h (op p.1 q.1) (p.2 * q.2)
        rw [Int.natAbs_neg] at h1
        omega
      rw [Int.natAbs_mul] at e1
      rw [l1_cons]
      have e2:p.2.natAbs * ((q.2.natAbs + l1 r) * 2)=p.2.natAbs * q.2.natAbs + p.2.natAbs * q.2.natAbs + p.2.natAbs * (l1 r * 2):=by
        rw [Nat.add_mul,Nat.mul_add,Nat.mul_two,Nat.mul_add]
      omega
  have outer:∀ (a d:D α),(keys d).Nodup→l1 (a.foldl (fun d p=>b.foldl (stepP op p) d) d)≤l1 d + l1 a * (l1 b * 2):=by
    intro a
    induction a with
    | nil=>intro d h;simp [l1_nil]
    | cons p r ih =>
      intro d h
      rw [List.foldl_cons]
      obtain ⟨i1,i2⟩:=inner p b d h
      have:=ih _ i1
      rw [l1_cons,Nat.add_mul]
      omega
  have:=outer a [] List.nodup_nil
  simpa [foldP,l1_nil] using this
theorem l1_cP:∀ b:Br α,l1 (cP op b)≤2 ^ (b.wt - 1)
  | .leaf x=>by simp [cP,Br.wt,l1]
  | .node l r=>by
    have h1:=l1_cP l
    have h3:=l1_cP r
    have h2:=(len_cP (op:=op) l).2
    have h4:=(len_cP (op:=op) r).2
    have h5:=l1_foldP (op:=op) (cP op l) (cP op r)
    have h6:l1 (nz (foldP op (cP op l) (cP op r)))≤l1 (foldP op (cP op l) (cP op r)):=by rw [nz_eq (nd_foldP _ _)];exact l1_filter _ _
    have h7:l1 (cP op l) * (l1 (cP op r) * 2)≤2 ^ (l.wt - 1) * (2 ^ (r.wt - 1) * 2):=Nat.mul_le_mul h1 (Nat.mul_le_mul_right 2 h3)
    have h8:2 ^ (l.wt - 1) * (2 ^ (r.wt - 1) * 2)=2 ^ (l.wt + r.wt - 1):=by
      rw [← Nat.pow_succ,← Nat.pow_add];congr 1;omega
    show l1 (nz (foldP op (cP op l) (cP op r)))≤2 ^ (l.wt + r.wt - 1)
    omega
theorem abs_cP {b:Br α} {p:α×Int} (h:p∈cP op b):p.2.natAbs≤2 ^ (b.wt - 1):=Nat.le_trans (mem_l1 h) (l1_cP b)
theorem abs_cL {b:Br α} {p:α×Int} (h:p∈cL op b):p.2.natAbs≤2 ^ (b.wt - 1):=abs_cP ((c_perm b).mem_iff.mpr h)
end Wm
end
section
namespace L2
open PySem PySem.Spec PyProof.Rows
noncomputable abbrev Key:=Sum Int Str
noncomputable def keyIs:Key→Value→Bool
  | .inl k,v=>Value.isInt k v
  | .inr x,v=>Value.isStrOf x v
noncomputable def keyH (w:World):Key→Int
  | .inl k=>hashInt k
  | .inr x=>hashStr w x
theorem keyIs_shape:∀ {k:Key} {v:Value},keyIs k v=true→(∃ i t,k=Sum.inl i∧v=Value.int i t)∨(∃ x t,k=Sum.inr x∧v=Value.str x t)
  | .inl i,v,h=>by
    obtain ⟨t,e⟩:=Value.isInt_shape (k:=i) (v:=v) h
    exact .inl ⟨i,t,rfl,e⟩
  | .inr x,v,h=>by
    obtain ⟨t,e⟩:=Value.isStrOf_shape (x:=x) (v:=v) h
    exact .inr ⟨x,t,rfl,e⟩
theorem keyIs_int (i:Int) (t:Tok):keyIs (.inl i) (.int i t)=true:=by simp [keyIs,Value.isInt]
theorem keyIs_str (x:Str) (t:Tok):keyIs (.inr x) (.str x t)=true:=by simp [keyIs,Value.isStrOf]
theorem key_ll (a b:Int):decide ((Sum.inl a:Key)=Sum.inl b)=(a == b):=by
  by_cases e:a=b
  · subst e;simp
  · have h:¬ (Sum.inl a:Key)=Sum.inl b:=fun q=>e (Sum.inl.inj q)
    rw [decide_eq_false h]
    exact (beq_eq_false_iff_ne.mpr e).symm
theorem key_rr (a b:Str):decide ((Sum.inr a:Key)=Sum.inr b)=decide (a=b):=by
  by_cases e:a=b
  · subst e;simp
  · have h:¬ (Sum.inr a:Key)=Sum.inr b:=fun q=>e (Sum.inr.inj q)
    rw [decide_eq_false h,decide_eq_false e]
theorem key_lr (a:Int) (b:Str):decide ((Sum.inl a:Key)=Sum.inr b)=false:=decide_eq_false (fun q=>nomatch q)
theorem key_rl (a:Str) (b:Int):decide ((Sum.inr a:Key)=Sum.inl b)=false:=decide_eq_false (fun q=>nomatch q)
noncomputable def mixKind (prog:Program) (w:World):PySem.KeyKind prog w Key where
  is:=keyIs
  hash:=keyH w
  inj:=fun v a b ha hb=>by
    rcases keyIs_shape ha with ⟨i,t,rfl,rfl⟩ | ⟨x,t,rfl,rfl⟩
    · rcases keyIs_shape hb with ⟨j,u,rfl,e⟩ | ⟨y,u,rfl,e⟩
      · injection e with e1 _;rw [e1]
      · exact nomatch e
    · rcases keyIs_shape hb with ⟨j,u,rfl,e⟩ | ⟨y,u,rfl,e⟩
      · exact nomatch e
      · injection e with e1 _;rw [e1]
  byValue:=fun k v h=>by
    rcases keyIs_shape h with ⟨i,t,rfl,rfl⟩ | ⟨x,t,rfl,rfl⟩ <;> rfl
  pyHash:=fun hv h=>by
    rcases keyIs_shape hv with ⟨i,t,rfl,rfl⟩ | ⟨x,t,rfl,rfl⟩
    · exact wpAny_pyHash_int h
    · exact wpAny_pyHash_str h
  eqBool:=fun hu hv h=>by
    rcases keyIs_shape hu with ⟨i,t,rfl,rfl⟩ | ⟨x,t,rfl,rfl⟩
    · rcases keyIs_shape hv with ⟨j,u,rfl,rfl⟩ | ⟨y,u,rfl,rfl⟩
      · rw [key_ll] at h;exact wpAny_eqBool_int h
      · rw [key_lr] at h;exact SeqAt.EqAt.int_str i t y u _ _ _ _ h
    · rcases keyIs_shape hv with ⟨j,u,rfl,rfl⟩ | ⟨y,u,rfl,rfl⟩
      · rw [key_rl] at h;exact SeqAt.EqAt.str_int x t j u _ _ _ _ h
      · rw [key_rr] at h;exact wpAny_eqBool_str h
  «strs»:=fun k x t v h=>by
    rcases keyIs_shape h with ⟨i,u,rfl,e⟩ | ⟨y,u,rfl,e⟩
    · exact nomatch e
    · injection e with e1 _
      subst e1
      cases v <;> rfl
theorem mixKind_int (prog:Program) (w:World) (i:Int) (t:Tok):(mixKind prog w).is (.inl i) (.int i t)=true:=keyIs_int i t
theorem mixKind_str (prog:Program) (w:World) (x:Str) (t:Tok):(mixKind prog w).is (.inr x) (.str x t)=true:=keyIs_str x t
end L2
namespace L2
open PySem PySem.Spec PyProof.Rows
inductive V where
  | non | bl (b:Bool) | int (i:Int) | str (x:Str) | byt (b:Array UInt8) | flt (b:UInt64) | ref (a:Addr) | ty (n:String)
  deriving DecidableEq
noncomputable def RelV:V→Value→Prop
  | .non,u=>u=Value.none
  | .bl b,u=>u=Value.bool b
  | .int i,u=>∃ t,u=Value.int i t
  | .str x,u=>∃ t,u=Value.str x t
  | .byt b,u=>∃ t,u=Value.bytes b t
  | .flt b,u=>∃ t,u=Value.float b t
  | .ref a,u=>u=Value.ref a
  | .ty n,u=>u=Value.type n
noncomputable abbrev Vals:List V→List Value→Prop:=Paired RelV
theorem Vals.length {xs:List V} {us:List Value} (r:Vals xs us):xs.length=us.length:=Paired.length r
theorem Vals.get:∀ {xs:List V} {us:List Value} {i:Nat} {x:V},Vals xs us→xs[i]? = some x→∃ u,us[i]? = some u∧RelV x u
  | _,_,_,_,.nil,e=>by simp at e
  | _,_,0,_,.cons r _,e=>by simp at e;subst e;exact ⟨_,rfl,r⟩
  | _,_,i + 1,x,.cons _ t,e=>by
    obtain ⟨u,h1,h2⟩:=Vals.get (i:=i) (x:=x) t (by simpa using e)
    exact ⟨u,by simpa using h1,h2⟩
theorem Vals.set {x:V} {u:Value} (r:RelV x u):∀ {xs:List V} {us:List Value} (i:Nat),Vals xs us→Vals (xs.set i x) (us.set i u)
  | _,_,_,.nil=>.nil
  | _,_,0,.cons _ t=>.cons r t
  | _,_,i + 1,.cons q t=>.cons q (Vals.set r i t)
theorem Vals.append:∀ {xs ys:List V} {us ws:List Value},Vals xs us→Vals ys ws→Vals (xs++ys) (us++ws)
  | _,_,_,_,.nil,s=>s
  | _,_,_,_,.cons r t,s=>.cons r (Vals.append t s)
noncomputable def RelO:Option V→Option Value→Prop
  | some v,some u=>RelV v u
  | none,none=>True
  | _,_=>False
noncomputable def KV {κ:Type}:List (κ×V)→List (κ×Value)→Prop:=Paired fun (p:κ×V) (q:κ×Value)=>p.1=q.1∧RelV p.2 q.2
noncomputable def kV:Key→V
  | .inl i=>.int i
  | .inr x=>.str x
inductive HO where
  | lst (xs:List V)
  | tup (xs:List V)
  | dK (kvs:List (Key×V)) | dT (kvs:List (List Key×V))
  | set (S:Int→Bool) (n:Nat)
  | ins (C dx:Addr) (fs:List (Str×V))
  | own (x:Addr)
  | xd (fs:List (Str×V))
  | met (f x:Addr)
  | rng (lo hi:Int)
  | frz (o:Obj) (u:HO)
  | tbl (ps:Array Value)
  | ext (φ:Heap→Prop)
noncomputable abbrev Hp:=Addr→Option HO
noncomputable def upd (H:Hp) (a:Addr) (o:HO):Hp:=fun b=>if b=a then some o else H b
theorem upd_same {H:Hp} {a:Addr} {o:HO}:upd H a o a=some o:=by unfold upd;rw [if_pos rfl]
theorem upd_ne {H:Hp} {a b:Addr} {o:HO} (h:b≠a):upd H a o b=H b:=by unfold upd;rw [if_neg h]
theorem upd_upd {H:Hp} {a:Addr} {o u:HO}:upd (upd H a o) a u=upd H a u:=by
  funext b;unfold upd;split <;> rfl
theorem ne_of {H:Hp} {a b:Addr} {o u:HO} (h:H a=some o) (h':H b=some u) (d:o≠u):a≠b:=by
  intro e;subst e;rw [h] at h';exact d (Option.some.inj h')
theorem ne_of_none {H:Hp} {a b:Addr} {o:HO} (h:H a=some o) (h':H b=none):a≠b:=by
  intro e;subst e;rw [h] at h';cases h'
section
variable (P:Program) (w:World)
noncomputable def ObjOk (H:Hp) (h:Heap) (a:Addr):HO→Prop
  | .lst xs=>xs.length≤sizeLine∧∃ (its:List Value) (n:Nat),Vals xs its∧h.get? a=some { cls:=.type "list",data:=.seq its.toArray n }
  | .tup xs=>xs.length≤sizeLine∧∃ its:List Value,Vals xs its∧IsTup h a its.toArray
  | .dK kvs=>kvs.length≤sizeLine∧(a == sysModules)=false∧∃ vs,KV kvs vs∧h.DictOf (mixKind P w) a vs
  | .dT kvs=>kvs.length≤sizeLine∧(a == sysModules)=false∧∃ xs:List (List Key×Addr×Value),
      Paired (fun (p:List Key×V) (q:List Key×Addr×Value)=>p.1=q.1∧H q.2.1=some (.tup (p.1.map kV))∧RelV p.2 q.2.2) kvs xs ∧
      ∃ o es ep,h.get? a=some o∧o.ExactDict∧o.data = .dict es ep∧es.toList=xs.map (entryOfKey (tupleKind (mixKind P w)))∧(xs.map (·.1)).Nodup
  | .set S n=>h.SetOf (intKind P w) a S n
  | .ins C dx fs=>H dx=some (.own a)∧fs.length≤1000∧dx≠a∧h.get? a=some (PySem.W.instObj C dx) ∧
      ∃ mA,h.Ns1 dx mA∧(∀ f,RelO (fs.lookup f) (mA f))∧PySem.Within mA (fs.map (·.1))
  | .own _=>∃ o,h.get? a=some o
  | .xd fs=>∃ mA,h.Ns1 a mA∧∀ f,RelO (fs.lookup f) (mA f)
  | .rng lo hi=>∃ t u v,h.get? a=some { cls:=.type "range",data:=.fields #[.int lo t,.int hi u,.int 1 v] }
  | .frz o u=>h.get? a=some o∧ObjOk H h a u
  | .tbl ps=>h.get? a=some { cls:=.none,data:=.fields ps }
  | .met f x=>h.get? a=some (PySem.W.methodObj (.ref f) (.ref x))
  | .ext φ=>φ h∧(∃ o,h.get? a=some o)∧∀ h1 h2:Heap,φ h1→(∀ o,h1.get? a=some o→h2.get? a=some o)→φ h2
noncomputable def HOk (H:Hp) (h:Heap):Prop:=∀ a o,H a=some o→ObjOk P w H h a o
end
section
variable {P:Program} {w:World} {H H':Hp} {h h':Heap} {a:Addr} {o:HO}
theorem ObjOk.lt (x:ObjOk P w H h a o):a < h.objs.size:=by
  cases o with
  | lst xs=>obtain ⟨_,_,_,_,e⟩:=x;exact Heap.lt_size e
  | tup xs=>obtain ⟨_,_,_,p⟩:=x;exact p.lt
  | dK kvs=>obtain ⟨_,_,_,_,o,_,_,e,_⟩:=x;exact Heap.lt_size e
  | dT kvs=>obtain ⟨_,_,_,_,o,_,_,e,_⟩:=x;exact Heap.lt_size e
  | set S n=>obtain ⟨o,_,_,_,e,_⟩:=x;exact Heap.lt_size e
  | ins C dx fs=>obtain ⟨_,_,_,e,_⟩:=x;exact Heap.lt_size e
  | own y=>obtain ⟨_,e⟩:=x;exact Heap.lt_size e
  | xd fs=>obtain ⟨_,⟨_,_,_,e,_⟩,_⟩:=x;exact Heap.lt_size e
  | rng lo hi=>obtain ⟨_,_,_,e⟩:=x;exact Heap.lt_size e
  | frz ob u=>obtain ⟨e,_⟩:=x;exact Heap.lt_size e
  | tbl ps=>exact Heap.lt_size (show h.get? a=some _ from x)
  | met f y=>exact Heap.lt_size (show h.get? a=some _ from x)
  | ext φ=>obtain ⟨_,⟨_,e⟩,_⟩:=x;exact Heap.lt_size e
theorem Paired.mapP {α β:Type} {F G:α→β→Prop}:∀ {l₁:List α} {l₂:List β},Paired F l₁ l₂→(∀ a b,F a b→G a b)→Paired G l₁ l₂
  | _,_,.nil,_=>.nil
  | _,_,.cons r t,f=>.cons (f _ _ r) (Paired.mapP t f)
theorem ObjOk.stay (x:ObjOk P w H h a o) (k:∀ b u,(b=a∨H b=some (.own a))→h.get? b=some u→h'.get? b=some u)
    (ho:∀ b,H b=some (.own a)→H' b=some (.own a)) (ht:∀ b xs,H b=some (.tup xs)→H' b=some (.tup xs)):ObjOk P w H' h' a o:=by
  induction o with
  | lst xs=>obtain ⟨z,its,n,r,e⟩:=x;exact ⟨z,its,n,r,k _ _ (.inl rfl) e⟩
  | tup xs=>obtain ⟨z,its,r,ob,e,c⟩:=x;exact ⟨z,its,r,ob,k _ _ (.inl rfl) e,c⟩
  | dK kvs=>obtain ⟨z,y,vs,r,ob,es,ep,e,c⟩:=x;exact ⟨z,y,vs,r,ob,es,ep,k _ _ (.inl rfl) e,c⟩
  | dT kvs =>
    obtain ⟨z,y,xs,r,ob,es,ep,e,c⟩:=x
    exact ⟨z,y,xs,Paired.mapP r fun p q z=>⟨z.1,ht _ _ z.2.1,z.2.2⟩,ob,es,ep,k _ _ (.inl rfl) e,c⟩
  | set S n=>obtain ⟨ob,es,ep,t,e,c⟩:=x;exact ⟨ob,es,ep,t,k _ _ (.inl rfl) e,c⟩
  | ins C dx fs =>
    obtain ⟨d,z,ne,e,mA,⟨od,es,ep,e2,c⟩,r⟩:=x
    exact ⟨ho _ d,z,ne,k _ _ (.inl rfl) e,mA,⟨od,es,ep,k _ _ (.inr d) e2,c⟩,r⟩
  | own y=>obtain ⟨ob,e⟩:=x;exact ⟨ob,k _ _ (.inl rfl) e⟩
  | xd fs=>obtain ⟨mA,⟨od,es,ep,e,c⟩,r⟩:=x;exact ⟨mA,⟨od,es,ep,k _ _ (.inl rfl) e,c⟩,r⟩
  | rng lo hi=>obtain ⟨t,u,v,e⟩:=x;exact ⟨t,u,v,k _ _ (.inl rfl) e⟩
  | frz ob u ih=>obtain ⟨e,q⟩:=x;exact ⟨k _ _ (.inl rfl) e,ih q⟩
  | tbl ps =>
    have e:h.get? a=some { cls:=.none,data:=.fields ps }:=x
    show h'.get? a=some { cls:=.none,data:=.fields ps }
    exact k a _ (.inl rfl) e
  | met f y =>
    have e:h.get? a=some (PySem.W.methodObj (.ref f) (.ref y)):=x
    show h'.get? a=some (PySem.W.methodObj (.ref f) (.ref y))
    exact k a _ (.inl rfl) e
  | ext φ=>obtain ⟨p,⟨o,e⟩,st⟩:=x;exact ⟨st _ _ p fun o q=>k _ _ (.inl rfl) q,⟨o,k _ _ (.inl rfl) e⟩,st⟩
theorem HOk.lt (x:HOk P w H h) (e:H a=some o):a < h.objs.size:=(x a o e).lt
theorem HOk.fresh (x:HOk P w H h) (e:h.objs.size≤a):H a=none:=by
  cases q:H a with
  | none=>rfl
  | some u=>exact absurd (Nat.lt_of_lt_of_le (x.lt q) e) (Nat.lt_irrefl _)
theorem HOk.kept (x:HOk P w H h) (k:∀ b u,h.get? b=some u→h'.get? b=some u):HOk P w H h':=fun a o e =>
  (x a o e).stay (fun b u _ q=>k b u q) (fun _ q=>q) fun _ _ q=>q
theorem HOk.laid (x:HOk P w H h) (k:∀ b u,h.get? b=some u→h'.get? b=some u) (hp:h.objs.size≤a) (new:ObjOk P w (upd H a o) h' a o):HOk P w (upd H a o) h':=fun b u e=>by
  have hn:=x.fresh hp
  by_cases hb:b=a
  · subst hb;rw [upd_same] at e;cases e;exact new
  · rw [upd_ne hb] at e
    exact (x b u e).stay (fun c v _ q=>k c v q) (fun c q=>by rw [upd_ne (ne_of_none q hn)];exact q) fun c xs q=>by rw [upd_ne (ne_of_none q hn)];exact q
end
noncomputable def Rd (H:Hp) (a:Addr) (u:HO):Prop:=H a=some u∨∃ o,H a=some (.frz o u)
theorem Rd.ok {P:Program} {w:World} {H:Hp} {h:Heap} {a:Addr} {u:HO} (r:Rd H a u) (x:HOk P w H h):ObjOk P w H h a u:=by
  rcases r with r | ⟨o,r⟩
  · exact x a u r
  · obtain ⟨_,q⟩:=x a _ r
    exact q
noncomputable def Mut:Option HO→Prop
  | some (.lst _)=>True
  | some (.dK _)=>True
  | some (.dT _)=>True
  | some (.set _ _)=>True
  | some (.ins _ _ _)=>True
  | some (.ext _)=>True
  | _=>False
section
variable {P:Program} {w:World} {H:Hp} {h h':Heap} {x e:Addr} {o':HO}
theorem HOk.write (ok:HOk P w H h) (mu:Mut (H x)) (he:e=x∨H e=some (.own x)) (k:∀ b u,b≠e→h.get? b=some u→h'.get? b=some u) (heo:∃ u,h'.get? e=some u)
    (new:ObjOk P w (upd H x o') h' x o'):HOk P w (upd H x o') h':=fun b u q=>by
  have nown:∀ c y,H c=some (.own y)→c≠x:=fun c y r z=>by subst z;rw [r] at mu;exact mu
  have ntup:∀ c xs,H c=some (.tup xs)→c≠x:=fun c xs r z=>by subst z;rw [r] at mu;exact mu
  by_cases hb:b=x
  · subst hb;rw [upd_same] at q;cases q;exact new
  · rw [upd_ne hb] at q
    by_cases hbe:b=e
    · have q':H b=some (.own x):=by
        rcases he with z | z
        · exact absurd (hbe.trans z) hb
        · rw [hbe];exact z
      rw [q] at q';cases q'
      obtain ⟨v,hv⟩:=heo
      exact ⟨v,by rw [hbe];exact hv⟩
    · refine (ok b u q).stay (fun c v hc r=>k c v ?_ r) (fun c r=>by rw [upd_ne (nown c b r)];exact r) fun c xs r=>by rw [upd_ne (ntup c xs r)];exact r
      rcases hc with rfl | hc
      · exact hbe
      · rintro rfl
        rcases he with z | z
        · exact nown c b hc z
        · rw [hc] at z;cases z;exact hb rfl
end
structure Un (fs ex:List Addr) (H H':Hp) (h h':Heap):Prop where
  keep:∀ b o,h.get? b=some o→H b=none→b ∉ fs→b ∉ ex→h'.get? b=some o
  slot:∀ b o,h.get? b=some o→H b=none→b∈fs→b ∉ ex→∃ sl,h'.get? b=some { o with slots:=sl }
  free:∀ b o,h.get? b=some o→H b=none→b ∉ ex→H' b=none
  there:∀ b o,h.get? b=some o→b ∉ ex→∃ o',h'.get? b=some o'
  tups:∀ b xs,H b=some (.tup xs)→H' b=some (.tup xs)
  frzs:∀ b o u,H b=some (.frz o u)→H' b=some (.frz o u)
  tbls:∀ b ps,H b=some (.tbl ps)→∃ more,H' b=some (.tbl (ps++more))
section
variable {fs fs' ex ex':List Addr} {H H1 H2:Hp} {h h1 h2 h':Heap} {a x e:Addr} {o:HO}
theorem Un.any (u:Un fs ex H H1 h h1) {b:Addr} {ob:Obj} (q:h.get? b=some ob) (n:H b=none) (hx:b ∉ ex):∃ sl,h1.get? b=some { ob with slots:=sl }:=by
  by_cases hb:b∈fs
  · exact u.slot b ob q n hb hx
  · exact ⟨ob.slots,u.keep b ob q n hb hx⟩
theorem Un.trans (a:Un fs ex H H1 h h1) (b:Un fs ex H1 H2 h1 h2):Un fs ex H H2 h h2 where
  keep:=fun c ob q n hc hx=>b.keep c ob (a.keep c ob q n hc hx) (a.free c ob q n hx) hc hx
  slot:=fun c ob q n hc hx=>by
    obtain ⟨sl,e1⟩:=a.slot c ob q n hc hx
    obtain ⟨sl',e2⟩:=b.slot c _ e1 (a.free c ob q n hx) hc hx
    exact ⟨sl',e2⟩
  free:=fun c ob q n hx=>by
    obtain ⟨o',e1⟩:=a.there c ob q hx
    exact b.free c o' e1 (a.free c ob q n hx) hx
  there:=fun c ob q hx=>by
    obtain ⟨o',e1⟩:=a.there c ob q hx
    exact b.there c o' e1 hx
  tups:=fun c xs q=>b.tups c xs (a.tups c xs q)
  frzs:=fun c ob xs q=>b.frzs c ob xs (a.frzs c ob xs q)
  tbls:=fun c ps q=>by
    obtain ⟨m1,e1⟩:=a.tbls c ps q
    obtain ⟨m2,e2⟩:=b.tbls c _ e1
    exact ⟨m1++m2,by rw [e2,Array.append_assoc]⟩
theorem Un.kept (k:∀ b u,h.get? b=some u→h'.get? b=some u):Un fs ex H H h h' :=
  ⟨fun b ob q _ _ _=>k b ob q,fun b ob q _ _ _=>⟨ob.slots,k b ob q⟩,fun _ _ _ n _=>n,fun b ob q _=>⟨ob,k b ob q⟩,fun _ _ q=>q,fun _ _ _ q=>q,fun _ ps q=>⟨#[],by rw [q];simp⟩⟩
theorem Un.refl:Un fs ex H H h h:=Un.kept fun _ _ q=>q
theorem Un.laid (k:∀ b u,h.get? b=some u→h'.get? b=some u) (hp:h.objs.size≤a) (hn:H a=none):Un fs ex H (upd H a o) h h' where
  keep:=fun b u q _ _ _=>k b u q
  slot:=fun b u q _ _ _=>⟨u.slots,k b u q⟩
  free:=fun b u q n _=>by rw [upd_ne (Nat.ne_of_lt (Nat.lt_of_lt_of_le (Heap.lt_size q) hp))];exact n
  there:=fun b u q _=>⟨u,k b u q⟩
  tups:=fun b xs q=>by rw [upd_ne (ne_of_none q hn)];exact q
  frzs:=fun b u xs q=>by rw [upd_ne (ne_of_none q hn)];exact q
  tbls:=fun b ps q=>⟨#[],by rw [upd_ne (ne_of_none q hn),q];simp⟩
theorem Un.write (mu:Mut (H x)) (he:e=x∨H e=some (.own x)) (k:∀ b u,b≠e→h.get? b=some u→h'.get? b=some u) (heo:∃ u,h'.get? e=some u):Un fs ex H (upd H x o) h h':=by
  have hx:∀ b,H b=none→b≠x:=fun b n z=>by subst z;rw [n] at mu;exact mu
  have hb:∀ b,H b=none→b≠e:=fun b n z=>by
    subst z
    rcases he with r | r
    · exact hx b n r
    · rw [n] at r;cases r
  have hm:∀ b u,H b=some u→¬ Mut (some u)→b≠x:=fun b u q nm z=>by subst z;rw [q] at mu;exact nm mu
  refine ⟨fun b u q n _ _=>k b u (hb b n) q,fun b u q n _ _=>⟨u.slots,k b u (hb b n) q⟩,fun b u q n _=>by rw [upd_ne (hx b n)];exact n,fun b u q _=>?_,
    fun b xs q=>by rw [upd_ne (hm b _ q fun z=>z)];exact q,fun b u xs q=>by rw [upd_ne (hm b _ q fun z=>z)];exact q,fun b ps q=>⟨#[],by rw [upd_ne (hm b _ q fun z=>z),q];simp⟩⟩
  by_cases hbe:b=e
  · subst hbe;exact heo
  · exact ⟨u,k b u hbe q⟩
end
noncomputable def trk (h:Heap) (H:Hp):List Addr:=(List.range h.objs.size).filter fun a=>(H a).isSome
noncomputable def hidT (h:Heap) (H:Hp):Heap:=PySem.W.hideAll h (trk h H)
theorem hidT_size (h:Heap) (H:Hp):(hidT h H).objs.size=h.objs.size:=PySem.W.hideAll_size _ _
theorem hidT_get {h:Heap} {H:Hp} {b:Addr} {o:Obj} (e:h.get? b=some o) (n:H b=none):(hidT h H).get? b=some o :=
  PySem.W.hideAll_get _ e fun hm=>by
    have q:(H b).isSome=true:=(List.mem_filter.mp hm).2
    rw [n] at q;simp at q
theorem of_hidT {h:Heap} {H:Hp} {b:Addr} {o:Obj} (e:(hidT h H).get? b=some o):h.get? b=some o∧H b=none:=by
  have e':h.get? b=some o:=PySem.W.of_hideAll (trk h H) e
  refine ⟨e',?_⟩
  cases q:H b with
  | none=>rfl
  | some x =>
    have hm:b∈trk h H:=List.mem_filter.mpr ⟨List.mem_range.mpr (Heap.lt_size e'),by simp [q]⟩
    have z:(hidT h H).get? b=none:=PySem.W.hideAll_none (trk h H) hm
    rw [z] at e;cases e
noncomputable def allNews (g h:Heap) (L:Addr):List (Addr×Obj):=(List.range h.objs.size).filterMap fun a=>if a=L∨(g.get? a).isSome=true then none else (h.get? a).map fun o=>(a,o)
noncomputable def rest (g h:Heap) (L d:Addr):List (Addr×Obj):=(allNews g h L).filter fun p=>decide (p.1≠d)
end L2
namespace L2
open PySem PySem.Spec PyProof.Rows
structure Mod (K:PySem.W.Frag) (mg:Str→Option Value) (base:Heap):Prop where
  kin:K.In base
  glob:base.Ns mainGlobals mg
  blt:∃ mb,base.Ns builtinsNs mb∧∀ x:Str,x≠"__name__"→mb x=bootBuiltins x
  nolimit:base.NoLimit
structure Cx where
  prog:Program
  w:World
  K:PySem.W.Frag
  mg:Str→Option Value
  base:Heap
  A:Around
  N:List Str
  s₀:Shared
  H₀:Hp
  env:Env
  outer:List Env
  stack:List Env
  ex:List Addr
  fn:Str→Bool
  calm:Bool
  pn:List (Addr×Obj)
  xe:Value→Shared→Prop
noncomputable def frs (l:List Env):List Addr:=l.filterMap (·.frame)
noncomputable abbrev Cx.fs (X:Cx):List Addr:=frs X.outer
noncomputable def Vis (sc:Scope) (x:Str):Prop:=sc.names.lookup x=some .local∨sc.names.lookup x=some .cell∨sc.names.lookup x=some .free
noncomputable def Loc (sc:Scope) (x:Str):Prop:=sc.names.lookup x=some .local∨sc.names.lookup x=some .cell
noncomputable def Look (env:Env) (h:Heap) (m:Str→Option Value) (x:Str) (u:Value):Prop :=
  (env.kindOf x=some .local∧m x=some u)∨((env.kindOf x=some .cell∨env.kindOf x=some .free)∧∃ c,env.cells.lookup x=some c∧h.IsCell c (some u))
structure Cx.Ok (X:Cx):Prop where
  mod:Mod X.K X.mg X.base
  kind:X.env.scope.kind = .function
  glob:X.env.globals=mainGlobals
  blt:X.env.builtins=builtinsNs
  above:X.s₀.heap.objs.size≤X.env.locals
  inj:∀ x y c,X.env.cells.lookup x=some c→X.env.cells.lookup y=some c→x=y
  has:∀ x,(X.env.kindOf x=some .cell∨X.env.kindOf x=some .free)→∃ c,X.env.cells.lookup x=some c
  cab:∀ x c,X.fn x=true→X.env.cells.lookup x=some c→X.s₀.heap.objs.size≤c
  hd:X.calm=true→X.A.handled=none
  frames:X.A.frames=some X.stack
  stk:X.stack=X.outer∨(X.stack=X.env :: X.outer∧X.env.frame=some X.env.locals)
  exf:∀ b∈X.ex,b≠X.env.locals∧∀ x c,X.env.cells.lookup x=some c→c≠b
  bs:∀ b o,X.base.get? b=some o→X.s₀.heap.get? b=some o∧X.H₀ b=none
  bsz:X.base.objs.size≤X.s₀.heap.objs.size
  noex:∀ b o,X.base.get? b=some o→b ∉ X.ex
  exfs:∀ b∈X.ex,b ∉ X.fs
  funs:X.s₀.heap.FunFrames X.base X.outer
  frf:∀ b∈X.fs,X.H₀ b=none
structure Inv (X:Cx) (pins:List (Addr×Obj)) (σ:List (Option V)) (H:Hp) (s:Shared):Prop where
  ok:X.Ok
  os:s.os=X.s₀.os
  bare:AllBare s.gens
  base:Un X.fs X.ex X.H₀ H X.s₀.heap s.heap
  loc:∃ m,s.heap.Ns X.env.locals m∧∀ (i:Nat) (x:Str) (v:V),X.N[i]? = some x→σ[i]? = some (some v)→Vis X.env.scope x→∃ u,RelV v u∧Look X.env s.heap m x u
  cell:∀ x c,X.env.cells.lookup x=some c→∃ v,s.heap.IsCell c v
  free:H X.env.locals=none
  freeC:∀ x c,X.env.cells.lookup x=some c→H c=none
  pin:∀ p∈X.pn++pins,s.heap.get? p.1=some p.2∧H p.1=none∧p.1≠X.env.locals∧p.1 ∉ X.fs∧∀ v,p.2.data≠.cell v
  hok:HOk X.prog X.w H s.heap
  len:σ.length=X.N.length
section
variable {X:Cx} {pins:List (Addr×Obj)} {σ:List (Option V)} {H H':Hp} {s:Shared} {h':Heap}
theorem Cx.Ok.nofr (ok:X.Ok) {b:Addr} {o:Obj} (e:X.base.get? b=some o):b ∉ X.fs:=fun hb=>by
  have:=(ok.funs.mem hb).1
  rw [e] at this;cases this
theorem Inv.bs (I:Inv X pins σ H s):∀ b o,X.base.get? b=some o→s.heap.get? b=some o∧H b=none:=fun b o e =>
  ⟨I.base.keep b o (I.ok.bs b o e).1 (I.ok.bs b o e).2 (I.ok.nofr e) (I.ok.noex b o e),I.base.free b o (I.ok.bs b o e).1 (I.ok.bs b o e).2 (I.ok.noex b o e)⟩
theorem Inv.bk (I:Inv X pins σ H s):∀ b o,X.base.get? b=some o→s.heap.get? b=some o:=fun b o e=>(I.bs b o e).1
theorem Inv.mod (I:Inv X pins σ H s):Mod X.K X.mg X.base:=I.ok.mod
theorem Inv.kIn (I:Inv X pins σ H s):X.K.In s.heap:=I.ok.mod.kin.keeps I.bk
theorem Inv.lt (I:Inv X pins σ H s):X.env.locals < s.heap.objs.size:=let ⟨_,hn,_⟩:=I.loc;hn.lt
theorem Inv.sz (I:Inv X pins σ H s):X.s₀.heap.objs.size≤s.heap.objs.size:=Nat.le_trans I.ok.above (Nat.le_of_lt I.lt)
theorem Inv.nofs (I:Inv X pins σ H s) {a:Addr} (h:s.heap.objs.size≤a):a ∉ X.fs:=fun hb=>by
  obtain ⟨_,o,ho,_⟩:=I.ok.funs.mem hb
  exact absurd (Nat.lt_of_lt_of_le (Heap.lt_size ho) (Nat.le_trans I.sz h)) (Nat.lt_irrefl _)
theorem Inv.cne (I:Inv X pins σ H s):∀ x c,X.env.cells.lookup x=some c→c≠X.env.locals:=fun x c e z=>by
  obtain ⟨v,o,ho,hd⟩:=I.cell x c e
  obtain ⟨m,⟨o',es,ep,ho',hd',_⟩,_⟩:=I.loc
  rw [z,ho'] at ho;cases ho;rw [hd'] at hd;cases hd
theorem Inv.funs (I:Inv X pins σ H s):s.heap.FunFrames X.base X.outer:=by
  have all:∀ (l:List Env),(∀ b∈frs l,b∈X.fs)→X.s₀.heap.FunFrames X.base l→s.heap.FunFrames X.base l:=by
    intro l
    induction l with
    | nil=>intro _ _;trivial
    | cons env r ih =>
      intro hs hl
      obtain ⟨hk,⟨L,o,hf,hn,ho,hd⟩,hr⟩:=hl
      have hL:L∈X.fs:=hs L (by unfold frs;rw [List.filterMap_cons,hf];exact List.mem_cons_self)
      obtain ⟨sl,e⟩:=I.base.slot L o ho (I.ok.frf L hL) hL fun z=>I.ok.exfs L z hL
      exact ⟨hk,⟨L,_,hf,hn,e,hd⟩,ih (fun b hb=>hs b (by unfold frs;rw [List.filterMap_cons,hf];exact List.mem_cons_of_mem _ hb)) hr⟩
  exact all X.outer (fun _ hb=>hb) I.ok.funs
theorem Inv.stack (I:Inv X pins σ H s):s.heap.FunFrames X.base X.stack:=by
  rcases I.ok.stk with e | ⟨e,hf⟩
  · rw [e];exact I.funs
  · rw [e]
    obtain ⟨m,hn,_⟩:=I.loc
    refine .cons (by rw [I.ok.kind];decide) hf hn ?_ I.funs
    exact Heap.get?_none_of_le (Nat.le_trans I.ok.bsz I.ok.above)
theorem Inv.stkSub (I:Inv X pins σ H s):∀ b∈frs X.stack,b∈X.env.locals :: X.fs:=fun b hb=>by
  rcases I.ok.stk with e | ⟨e,hf⟩
  · rw [e] at hb;exact List.mem_cons_of_mem _ hb
  · rw [e] at hb
    unfold frs at hb
    rw [List.filterMap_cons,hf] at hb
    exact hb
theorem Inv.stkFree (I:Inv X pins σ H s):∀ b∈frs X.stack,H b=none:=fun b hb=>by
  rcases List.mem_cons.mp (I.stkSub b hb) with e | hb
  · rw [e];exact I.free
  · obtain ⟨_,o,ho,_⟩:=I.ok.funs.mem hb
    exact I.base.free b o ho (I.ok.frf b hb) fun z=>I.ok.exfs b z hb
theorem Inv.step {g':Array GenState} {t':Nat} {d':Drawn} {ch:List Addr} (I:Inv X pins σ H s)
    (hch:∀ b∈ch,(b∈X.ex∨X.s₀.heap.objs.size≤b)∧b≠X.env.locals∧(∀ x c,X.env.cells.lookup x=some c→c≠b)∧∀ p∈X.pn++pins,p.1≠b)
    (keep:∀ b o,b≠X.env.locals→b ∉ X.fs→b ∉ ch→s.heap.get? b=some o→H b=none→h'.get? b=some o)
    (slot:∀ b o,b≠X.env.locals→b∈X.fs→b ∉ ch→s.heap.get? b=some o→H b=none→∃ sl,h'.get? b=some { o with slots:=sl }) (free:∀ b o,b ∉ ch→s.heap.get? b=some o→H b=none→H' b=none)
    (there:∀ b o,b ∉ ch→s.heap.get? b=some o→∃ o',h'.get? b=some o')
    (tups:∀ b xs,H b=some (.tup xs)→H' b=some (.tup xs)) (frzs:∀ b o u,H b=some (.frz o u)→H' b=some (.frz o u)) (tbls:∀ b ps,H b=some (.tbl ps)→∃ more,H' b=some (.tbl (ps++more)))
    (ns:∀ m,s.heap.Ns X.env.locals m→h'.Ns X.env.locals m) (hok:HOk X.prog X.w H' h') (hg:AllBare g') :
    Inv X pins σ H' { s with heap:=h',gens:=g',drawn:=d',toks:=t' }:=by
  have neL:∀ b o,X.s₀.heap.get? b=some o→b≠X.env.locals:=fun b o e=>Nat.ne_of_lt (Nat.lt_of_lt_of_le (Heap.lt_size e) I.ok.above)
  have neC:∀ b o,X.s₀.heap.get? b=some o→b ∉ X.ex→b ∉ ch:=fun b o e hx hb=>by
    rcases (hch b hb).1 with z | z
    · exact hx z
    · exact absurd (Nat.lt_of_lt_of_le (Heap.lt_size e) z) (Nat.lt_irrefl _)
  have cellK:∀ x c,X.env.cells.lookup x=some c→∀ v,s.heap.IsCell c v→h'.IsCell c v:=fun x c e v ⟨o,ho,hd⟩=>by
    have nch:c ∉ ch:=fun z=>(hch c z).2.2.1 x c e rfl
    by_cases hc:c∈X.fs
    · obtain ⟨sl,q⟩:=slot c o (I.cne x c e) hc nch ho (I.freeC x c e)
      exact ⟨_,q,hd⟩
    · exact ⟨o,keep c o (I.cne x c e) hc nch ho (I.freeC x c e),hd⟩
  refine ⟨I.ok,I.os,hg,⟨fun b o e n hb hx=>?_,fun b o e n hb hx=>?_,fun b o e n hx=>?_,fun b o e hx=>?_,fun b xs e=>tups b xs (I.base.tups b xs e),fun b o xs e=>frzs b o xs (I.base.frzs b o xs e),fun b ps e=>?_⟩,?_,fun x c e=>?_,?_,fun x c e=>?_,fun p hp=>?_,hok,I.len⟩
  · exact keep b o (neL b o e) hb (neC b o e hx) (I.base.keep b o e n hb hx) (I.base.free b o e n hx)
  · obtain ⟨sl,e1⟩:=I.base.slot b o e n hb hx
    obtain ⟨sl',e2⟩:=slot b _ (neL b o e) hb (neC b o e hx) e1 (I.base.free b o e n hx)
    exact ⟨sl',e2⟩
  · obtain ⟨o',e1⟩:=I.base.there b o e hx
    exact free b o' (neC b o e hx) e1 (I.base.free b o e n hx)
  · obtain ⟨o',e1⟩:=I.base.there b o e hx
    exact there b o' (neC b o e hx) e1
  · obtain ⟨m1,e1⟩:=I.base.tbls b ps e
    obtain ⟨m2,e2⟩:=tbls b _ e1
    exact ⟨m1++m2,by rw [e2,Array.append_assoc]⟩
  · obtain ⟨m,hn,hl⟩:=I.loc
    refine ⟨m,ns m hn,fun i x v e1 e2 e3=>?_⟩
    obtain ⟨u,r,l⟩:=hl i x v e1 e2 e3
    refine ⟨u,r,?_⟩
    rcases l with l | ⟨k,c,e,z⟩
    · exact .inl l
    · exact .inr ⟨k,c,e,cellK x c e _ z⟩
  · obtain ⟨v,z⟩:=I.cell x c e
    exact ⟨v,cellK x c e v z⟩
  · obtain ⟨m,⟨o,_,_,ho,_⟩,_⟩:=I.loc
    exact free _ o (fun z=>(hch _ z).2.1 rfl) ho I.free
  · obtain ⟨v,o,ho,hd⟩:=I.cell x c e
    exact free c o (fun z=>(hch c z).2.2.1 x c e rfl) ho (I.freeC x c e)
  · obtain ⟨e,n,ne,nf,d⟩:=I.pin p hp
    have nch:p.1 ∉ ch:=fun z=>(hch p.1 z).2.2.2 p hp rfl
    exact ⟨keep p.1 p.2 ne nf nch e n,free p.1 p.2 nch e n,ne,nf,d⟩
theorem Inv.un {t':Nat} (I:Inv X pins σ H s) (u:Un X.fs [] H H' s.heap h') (hok:HOk X.prog X.w H' h'):Inv X pins σ H' { s with heap:=h',toks:=t' }:=by
  obtain ⟨m,⟨o,es,ep,ho,r⟩,_⟩:=id I.loc
  obtain ⟨sl,hL⟩:=u.any ho I.free (by simp)
  exact I.step (g':=s.gens) (d':=s.drawn) (ch:=[]) (fun _ z=>nomatch z) (fun b o _ hb _ e n=>u.keep b o e n hb (by simp)) (fun b o _ hb _ e n=>u.slot b o e n hb (by simp)) (fun b o _ e n=>u.free b o e n (by simp)) (fun b o _ e=>u.there b o e (by simp)) u.tups u.frzs u.tbls (fun m' hm=>by
    obtain ⟨o',es',ep',ho',r'⟩:=hm
    rw [ho] at ho';cases ho'
    exact ⟨_,es',ep',hL,r'⟩) hok I.bare
theorem Inv.call {g':Array GenState} {t':Nat} {d':Drawn} {ch:List Addr} (I:Inv X pins σ H s) (u:Un (frs X.stack) ch H H' s.heap h') (hok:HOk X.prog X.w H' h') (hg:AllBare g')
    (hch:∀ b∈ch,(b∈X.ex∨X.s₀.heap.objs.size≤b)∧b≠X.env.locals∧(∀ x c,X.env.cells.lookup x=some c→c≠b)∧∀ p∈X.pn++pins,p.1≠b) :
    Inv X pins σ H' { s with heap:=h',gens:=g',drawn:=d',toks:=t' }:=by
  obtain ⟨m,⟨o,es,ep,ho,r⟩,_⟩:=id I.loc
  obtain ⟨sl,hL⟩:=u.any ho I.free fun z=>(hch _ z).2.1 rfl
  exact I.step (ch:=ch) hch (fun b o hL hb hc e n=>u.keep b o e n (fun z=>(List.mem_cons.mp (I.stkSub b z)).elim hL hb) hc) (fun b o _ _ hc e n=>u.any e n hc) (fun b o hc e n=>u.free b o e n hc) (fun b o hc e=>u.there b o e hc) u.tups u.frzs u.tbls (fun m' hm=>by
    obtain ⟨o',es',ep',ho',r'⟩:=hm
    rw [ho] at ho';cases ho'
    exact ⟨_,es',ep',hL,r'⟩) hok hg
theorem Inv.turned {t':Nat} {it:Addr} (I:Inv X pins σ H s) (k:∀ b o,b≠it→s.heap.get? b=some o→h'.get? b=some o) (hn:H it=none) (hL:it≠X.env.locals)
    (h1:it∈X.ex∨X.s₀.heap.objs.size≤it) (h2:∀ x c,X.env.cells.lookup x=some c→c≠it) (h3:∀ p∈X.pn++pins,p.1≠it):Inv X pins σ H { s with heap:=h',toks:=t' }:=by
  have nit:∀ b u,H b=some u→b≠it:=fun b u e z=>by rw [z,hn] at e;cases e
  refine I.step (g':=s.gens) (d':=s.drawn) (ch:=[it]) (fun b hb=>?_) (fun b o _ _ hc e _=>k b o (fun z=>hc (by simp [z])) e) (fun b o _ _ hc e _=>⟨o.slots,k b o (fun z=>hc (by simp [z])) e⟩) (fun _ _ _ _ n=>n)
    (fun b o hc e=>⟨o,k b o (fun z=>hc (by simp [z])) e⟩) (fun _ _ e=>e) (fun _ _ _ e=>e) (fun b ps e=>⟨#[],by rw [e];simp⟩) (fun m hm=>?_) (fun b u e=>?_) I.bare
  · have e:b=it:=by simpa using hb
    subst e
    exact ⟨h1,hL,h2,h3⟩
  · obtain ⟨o,es,ep,ho,r⟩:=hm
    exact ⟨o,es,ep,k _ o (Ne.symm hL) ho,r⟩
  · refine (I.hok b u e).stay (fun c v hc q=>k c v ?_ q) (fun _ q=>q) fun _ _ q=>q
    rcases hc with z | z
    · rw [z];exact nit b u e
    · exact nit c _ z
theorem Inv.tok (I:Inv X pins σ H s) (t:Nat):Inv X pins σ H { s with toks:=t }:=I.un (h':=s.heap) (t':=t) Un.refl I.hok
theorem Inv.kept {t':Nat} (I:Inv X pins σ H s) (k:∀ b u,s.heap.get? b=some u→h'.get? b=some u):Inv X pins σ H { s with heap:=h',toks:=t' }:=I.un (Un.kept k) (I.hok.kept k)
theorem Inv.laid {a:Addr} {o:HO} {t':Nat} (I:Inv X pins σ H s) (k:∀ b u,s.heap.get? b=some u→h'.get? b=some u) (hp:s.heap.objs.size≤a) (new:ObjOk X.prog X.w (upd H a o) h' a o) :
    Inv X pins σ (upd H a o) { s with heap:=h',toks:=t' }:=I.un (Un.laid k hp (I.hok.fresh hp)) (I.hok.laid k hp new)
theorem Inv.write {x e:Addr} {o:HO} {t':Nat} (I:Inv X pins σ H s) (mu:Mut (H x)) (he:e=x∨H e=some (.own x)) (k:∀ b u,b≠e→s.heap.get? b=some u→h'.get? b=some u) (heo:∃ u,h'.get? e=some u)
    (new:ObjOk X.prog X.w (upd H x o) h' x o):Inv X pins σ (upd H x o) { s with heap:=h',toks:=t' }:=I.un (Un.write mu he k heo) (I.hok.write mu he k heo new)
theorem Inv.pins_of {pins':List (Addr×Obj)} (I:Inv X pins σ H s) (h:∀ p∈pins',s.heap.get? p.1=some p.2∧H p.1=none∧p.1≠X.env.locals∧p.1 ∉ X.fs∧∀ v,p.2.data≠.cell v):Inv X pins' σ H s :=
  ⟨I.ok,I.os,I.bare,I.base,I.loc,I.cell,I.free,I.freeC,fun p hp=>(List.mem_append.mp hp).elim (fun z=>I.pin p (List.mem_append_left _ z)) (h p),I.hok,I.len⟩
theorem nodup_ix {N:List Str} (hN:N.Nodup) {i j:Nat} {x:Str} (a:N[i]? = some x) (b:N[j]? = some x):i=j:=by
  obtain ⟨h1,e1⟩:=List.getElem?_eq_some_iff.mp a
  obtain ⟨h2,e2⟩:=List.getElem?_eq_some_iff.mp b
  exact (List.getElem_inj hN).mp (e1.trans e2.symm)
theorem store_ok2 {M:Model} {A:Around} {E:Value→Shared→Prop} {i:Nat} {x:Str} {v:V} {u:Value} {Q:Unit→Shared→Prop} (I:Inv X pins σ H s) (hN:X.N.Nodup) (hi:X.N[i]? = some x) (hx:Loc X.env.scope x) (r:RelV v u)
    (h:∀ s',Inv X pins (σ.set i (some v)) H s'→(∃ a,Heap.SameBut a s.heap s'.heap∧(a=X.env.locals∨X.env.cells.lookup x=some a))→Q () s') (hf:X.fn x=true∨X.env.scope.names.lookup x=some .local:=by first | exact .inl rfl | exact .inr rfl | assumption):wpAny M A (storeName X.env x u) Q E s:=by
  obtain ⟨m,hn,hl⟩:=id I.loc
  have hcls:(X.env.scope.kind == .class || (X.env.scope.kind == .module && X.env.locals != X.env.globals))=false:=by rw [I.ok.kind];rfl
  have hiσ:i < σ.length:=by rw [I.len];exact (List.getElem?_eq_some_iff.mp hi).1
  have cne:=I.cne
  have tracked:∀ {a:Addr} {h':Heap},(∃ o,s.heap.get? a=some o∧H a=none)→Heap.SameBut a s.heap h'→HOk X.prog X.w H h':=fun {a h'} ha hs b ob e=>by
    obtain ⟨_,_,hfree⟩:=ha
    refine (I.hok b ob e).stay (fun c w' hc q=>(hs.2 c ?_).trans q) (fun _ q=>q) fun _ _ q=>q
    rintro rfl
    rcases hc with rfl | hc
    · rw [hfree] at e;cases e
    · rw [hfree] at hc;cases hc
  rcases hx with hk | hk
  · refine wpAny_storeName_local hk hn (fun h' hn' hs=>?_) hcls
    obtain ⟨oL,_,_,hoL,_⟩:=id hn
    refine h _ ⟨I.ok,I.os,I.bare,⟨fun b o e n hb hx=>?_,fun b o e n hb hx=>?_,I.base.free,fun b o e hx=>?_,I.base.tups,I.base.frzs,I.base.tbls⟩,⟨_,hn',fun j y v' e1 e2 e3=>?_⟩,fun y c e=>?_,I.free,I.freeC,fun p hp=>?_,tracked ⟨oL,hoL,I.free⟩ hs,by simpa using I.len⟩ ⟨_,hs,.inl rfl⟩
    · exact (hs.2 b (Nat.ne_of_lt (Nat.lt_of_lt_of_le (Heap.lt_size e) I.ok.above))).trans (I.base.keep b o e n hb hx)
    · obtain ⟨sl,e1⟩:=I.base.slot b o e n hb hx
      exact ⟨sl,(hs.2 b (Nat.ne_of_lt (Nat.lt_of_lt_of_le (Heap.lt_size e) I.ok.above))).trans e1⟩
    · obtain ⟨o',e1⟩:=I.base.there b o e hx
      exact ⟨o',(hs.2 b (Nat.ne_of_lt (Nat.lt_of_lt_of_le (Heap.lt_size e) I.ok.above))).trans e1⟩
    · by_cases hj:j=i
      · subst hj
        rw [hi] at e1;cases e1
        rw [List.getElem?_set_self hiσ] at e2
        cases e2
        exact ⟨u,r,.inl ⟨hk,by simp⟩⟩
      · rw [List.getElem?_set_ne (Ne.symm hj)] at e2
        obtain ⟨u',r',q⟩:=hl j y v' e1 e2 e3
        refine ⟨u',r',?_⟩
        rcases q with ⟨k,e⟩ | ⟨k,c,e,z⟩
        · refine .inl ⟨k,?_⟩
          have:y≠x:=fun e=>hj (nodup_ix hN e1 (e ▸ hi))
          simp [this,e]
        · exact .inr ⟨k,c,e,z.sameBut hs (cne y c e)⟩
    · obtain ⟨w',z⟩:=I.cell y c e
      exact ⟨w',z.sameBut hs (cne y c e)⟩
    · obtain ⟨e,n,ne,nf,d⟩:=I.pin p hp
      exact ⟨(hs.2 p.1 ne).trans e,n,ne,nf,d⟩
  · have hfn:X.fn x=true:=by
      rcases hf with z | z
      · exact z
      · rw [z] at hk;cases hk
    obtain ⟨c,hc⟩:=I.ok.has x (.inl hk)
    obtain ⟨w',z⟩:=I.cell x c hc
    refine wpAny_storeName_cell I.ok.kind hk hc z (fun h' hc' hs=>?_)
    obtain ⟨oc,hoc,hocd⟩:=id z
    refine h { s with heap:=h' } ⟨I.ok,I.os,I.bare,⟨fun b o e n hb hx=>?_,fun b o e n hb hx=>?_,I.base.free,fun b o e hx=>?_,I.base.tups,I.base.frzs,I.base.tbls⟩,⟨m,hn.sameBut hs (Ne.symm (cne x c hc)),fun j y v' e1 e2 e3=>?_⟩,fun y c' e=>?_,I.free,I.freeC,fun p hp=>?_,tracked ⟨oc,hoc,I.freeC x c hc⟩ hs,by simpa using I.len⟩ ⟨c,hs,.inr hc⟩
    · exact (hs.2 b (Nat.ne_of_lt (Nat.lt_of_lt_of_le (Heap.lt_size e) (I.ok.cab x c hfn hc)))).trans (I.base.keep b o e n hb hx)
    · obtain ⟨sl,e1⟩:=I.base.slot b o e n hb hx
      exact ⟨sl,(hs.2 b (Nat.ne_of_lt (Nat.lt_of_lt_of_le (Heap.lt_size e) (I.ok.cab x c hfn hc)))).trans e1⟩
    · obtain ⟨o',e1⟩:=I.base.there b o e hx
      exact ⟨o',(hs.2 b (Nat.ne_of_lt (Nat.lt_of_lt_of_le (Heap.lt_size e) (I.ok.cab x c hfn hc)))).trans e1⟩
    · by_cases hj:j=i
      · subst hj
        rw [hi] at e1;cases e1
        rw [List.getElem?_set_self hiσ] at e2
        cases e2
        exact ⟨u,r,.inr ⟨.inl hk,c,hc,hc'⟩⟩
      · rw [List.getElem?_set_ne (Ne.symm hj)] at e2
        obtain ⟨u',r',q⟩:=hl j y v' e1 e2 e3
        refine ⟨u',r',?_⟩
        rcases q with q | ⟨k,c',e,z'⟩
        · exact .inl q
        · refine .inr ⟨k,c',e,z'.sameBut hs ?_⟩
          rintro rfl
          exact hj (nodup_ix hN e1 (I.ok.inj _ _ _ e hc ▸ hi))
    · by_cases hcc:c'=c
      · subst hcc;exact ⟨_,hc'⟩
      · obtain ⟨w2,z2⟩:=I.cell y c' e
        exact ⟨w2,z2.sameBut hs hcc⟩
    · obtain ⟨e,n,ne,nf,d⟩:=I.pin p hp
      refine ⟨(hs.2 p.1 ?_).trans e,n,ne,nf,d⟩
      intro q
      rw [q,hoc] at e
      have q':oc=p.2:=Option.some.inj e
      exact d w' (by rw [← q'];exact hocd)
theorem store_ok {M:Model} {A:Around} {E:Value→Shared→Prop} {i:Nat} {x:Str} {v:V} {u:Value} {Q:Unit→Shared→Prop} (I:Inv X pins σ H s) (hN:X.N.Nodup) (hi:X.N[i]? = some x) (hx:Loc X.env.scope x) (r:RelV v u)
    (h:∀ s',Inv X pins (σ.set i (some v)) H s'→Q () s') (hf:X.fn x=true∨X.env.scope.names.lookup x=some .local:=by first | exact .inl rfl | exact .inr rfl | assumption):wpAny M A (storeName X.env x u) Q E s :=
  store_ok2 I hN hi hx r (fun s' I' _=>h s' I') hf
theorem Inv.call' {s':Shared} {ch:List Addr} (I:Inv X pins σ H s) (ho:s'.os=s.os) (u:Un (frs X.stack) ch H H' s.heap s'.heap) (hok:HOk X.prog X.w H' s'.heap) (hg:AllBare s'.gens)
    (hch:∀ b∈ch,(b∈X.ex∨X.s₀.heap.objs.size≤b)∧b≠X.env.locals∧(∀ x c,X.env.cells.lookup x=some c→c≠b)∧∀ p∈X.pn++pins,p.1≠b):Inv X pins σ H' s':=by
  obtain ⟨h',g',d',t',o'⟩:=s'
  have e:o'=s.os:=ho
  subst e
  exact I.call (g':=g') (t':=t') (d':=d') u hok hg hch
end
noncomputable abbrev XK:=Value→Option Addr→Hp→Prop
noncomputable abbrev St:=List (Option V)
noncomputable abbrev VK:=V→Hp→Prop
noncomputable abbrev TE:=St→Hp→VK→Prop
noncomputable abbrev TT:=St→Hp→(Bool→Hp→Prop)→Prop
noncomputable abbrev TA:=St→Hp→(List V→Hp→Prop)→Prop
structure Ends where
  nx:St→Hp→Prop
  rt:VK
  bk:St→Hp→Prop:=fun _ _=>False
  ct:St→Hp→Prop:=fun _ _=>False
noncomputable abbrev TS:=Ends→St→Hp→Prop
noncomputable def EP (X:Cx) (pins:List (Addr×Obj)) (σ:St) (Q:VK) (u:Value) (s':Shared):Prop:=∃ v H',Inv X pins σ H' s'∧RelV v u∧Q v H'
noncomputable def TP (X:Cx) (pins:List (Addr×Obj)) (σ:St) (Q:Bool→Hp→Prop) (b:Bool) (s':Shared):Prop:=∃ H',Inv X pins σ H' s'∧Q b H'
noncomputable def AP (X:Cx) (pins:List (Addr×Obj)) (σ:St) (Q:List V→Hp→Prop) (us:List Value) (s':Shared):Prop:=∃ vs H',Inv X pins σ H' s'∧Vals vs us∧Q vs H'
noncomputable def SP (X:Cx) (pins:List (Addr×Obj)) (D:Ends) (f:Flow) (s':Shared):Prop :=
  match f with
  | .next=>∃ σ' H',Inv X pins σ' H' s'∧D.nx σ' H'
  | .brk=>∃ σ' H',Inv X pins σ' H' s'∧D.bk σ' H'
  | .cont=>∃ σ' H',Inv X pins σ' H' s'∧D.ct σ' H'
  | .ret u=>∃ v σ' H',Inv X pins σ' H' s'∧RelV v u∧D.rt v H'
noncomputable def PE (X:Cx) (e:Expr) (t:TE):Prop :=
  ∀ (pins:List (Addr×Obj)) (s:Shared) (σ:St) (H:Hp) (Q:VK),Inv X pins σ H s→t σ H Q→wpAny (model X.prog X.w) X.A (eval e X.env) (EP X pins σ Q) X.xe s
noncomputable def PT (X:Cx) (e:Expr) (t:TT):Prop :=
  ∀ (pins:List (Addr×Obj)) (s:Shared) (σ:St) (H:Hp) (Q:Bool→Hp→Prop),Inv X pins σ H s→t σ H Q→wpAny (model X.prog X.w) X.A (isTrue e X.env (eval e X.env)) (TP X pins σ Q) X.xe s
noncomputable def PW (X:Cx) (e:Expr) (t:TT):Prop :=
  ∀ (whole:Sem Value) (pins:List (Addr×Obj)) (s:Shared) (σ:St) (H:Hp) (Q:Bool→Hp→Prop),Inv X pins σ H s→t σ H Q→wpAny (model X.prog X.w) X.A (isTrue e X.env whole) (TP X pins σ Q) X.xe s
theorem PW.pt {X:Cx} {e:Expr} {t:TT} (h:PW X e t):PT X e t:=h _
noncomputable def PA (X:Cx) (es:List Expr) (t:TA):Prop :=
  ∀ (pos:Pos) (pins:List (Addr×Obj)) (s:Shared) (σ:St) (H:Hp) (Q:List V→Hp→Prop),Inv X pins σ H s→t σ H Q→wpAny (model X.prog X.w) X.A (spliced (backTo pos (starEach es X.env))) (AP X pins σ Q) X.xe s
noncomputable def PS (X:Cx) (st:Stmt) (t:TS):Prop :=
  ∀ (pins:List (Addr×Obj)) (s:Shared) (σ:St) (H:Hp) (D:Ends),Inv X pins σ H s→t D σ H→wpAny (model X.prog X.w) X.A (exec st X.env) (SP X pins D) X.xe s
noncomputable def PSs (X:Cx) (st:List Stmt) (t:TS):Prop :=
  ∀ (pins:List (Addr×Obj)) (s:Shared) (σ:St) (H:Hp) (D:Ends),Inv X pins σ H s→t D σ H→wpAny (model X.prog X.w) X.A (execs st X.env) (SP X pins D) X.xe s
theorem thn {α:Type} {t:Sem α} {Q Q':α→Shared→Prop} {M:Model} {A:Around} {E:Value→Shared→Prop} {s:Shared} (h:wpAny M A t Q E s) (hQ:∀ a s,Q a s→Q' a s):wpAny M A t Q' E s:=wpAny_mono h hQ fun _ _ x=>x
end L2
namespace L2
open PySem PySem.Spec PyProof.Rows
section
variable {X:Cx}
noncomputable def tVar (i:Nat):TE:=fun σ H Q=>∃ v,σ[i]? = some (some v)∧Q v H
noncomputable def tC (v:V):TE:=fun _ H Q=>Q v H
theorem pe_var {i:Nat} {x:Str} {pos:Pos} (hN:X.N[i]? = some x) (hv:Vis X.env.scope x) (hd:(x == ("__debug__":Str))=false:=by decide) (hcd:(x == ("__classdict__":Str))=false:=by decide):PE X (.Name x pos) (tVar i):=by
  intro pins s σ H Q I h
  obtain ⟨v,e,h⟩:=h
  obtain ⟨m,hn,hl⟩:=I.loc
  obtain ⟨u,r,l⟩:=hl i x v hN e hv
  have fin:EP X pins σ Q u s:=⟨v,H,I,r,h⟩
  rcases l with ⟨hk,hm⟩ | ⟨hk,c,hc,hcell⟩
  · exact wpAny_Name (wpAny_loadName_local I.ok.kind hk hn hm fin) hd
  · rcases hk with hk | hk
    · exact wpAny_Name (wpAny_loadName_cell I.ok.kind hk hc hcell fin) hd
    · exact wpAny_Name (wpAny_loadName_free I.ok.kind hk hc hcell fin hcd) hd
theorem pe_int {i j pos}:PE X (.Constant (.int i) j pos) (tC (.int i)):=fun _ _ _ H _ I h=>wpAny_Constant_int ⟨.int i,H,I.tok _,⟨_,rfl⟩,h⟩
theorem pe_bl {b j pos}:PE X (.Constant (.bool b) j pos) (tC (.bl b)):=fun _ _ _ H _ I h=>Constant_bool ⟨.bl b,H,I,rfl,h⟩
theorem pe_str {x j pos}:PE X (.Constant (.str x) j pos) (tC (.str x)):=fun _ _ _ H _ I h=>Calls.Constant_str ⟨.str x,H,I.tok _,⟨_,rfl⟩,h⟩
noncomputable def Gl (X:Cx) (x:Str):Prop:=X.env.kindOf x=some .globalImplicit
theorem ld_glob {E:Value→Shared→Prop} {pins:List (Addr×Obj)} {s:Shared} {σ:St} {H:Hp} {x:Str} {u:Value} {pos:Pos} {Q:Value→Shared→Prop} (I:Inv X pins σ H s) (hg:Gl X x) (hm:X.mg x=some u) (h:Q u s)
    (hd:(x == ("__debug__":Str))=false:=by decide):wpAny (model X.prog X.w) X.A (eval (.Name x pos) X.env) Q E s :=
  Calls.Name_function_global I.ok.kind hg (Calls.loadGlobal_global (by rw [I.ok.glob];exact I.mod.glob.keeps I.bk) hm h) hd
theorem ld_blt {E:Value→Shared→Prop} {pins:List (Addr×Obj)} {s:Shared} {σ:St} {H:Hp} {x:Str} {u:Value} {pos:Pos} {Q:Value→Shared→Prop} (I:Inv X pins σ H s) (hg:Gl X x) (hm:X.mg x=none) (hv:bootBuiltins x=some u) (h:Q u s)
    (hn:x≠"__name__":=by decide) (hd:(x == ("__debug__":Str))=false:=by decide):wpAny (model X.prog X.w) X.A (eval (.Name x pos) X.env) Q E s:=by
  obtain ⟨mb,h1,h2⟩:=I.mod.blt
  exact Calls.Name_function_global I.ok.kind hg (Calls.loadGlobal_builtin (by rw [I.ok.glob];exact I.mod.glob.keeps I.bk) hm (by rw [I.ok.blt];exact h1.keeps I.bk) ((h2 x hn).trans hv) h) hd
theorem pe_bltn {x:Str} {v:V} {u:Value} {pos:Pos} (hg:Gl X x) (hm:X.mg x=none) (hv:bootBuiltins x=some u) (r:RelV v u) (hn:x≠"__name__":=by decide) (hd:(x == ("__debug__":Str))=false:=by decide):PE X (.Name x pos) (tC v) :=
  fun _ _ _ H _ I h=>ld_blt I hg hm hv ⟨v,H,I,r,h⟩ hn hd
variable {a b:Expr} {ta tb:TE} {pos:Pos}
noncomputable def tB (t:TE):TT:=fun σ H Q=>t σ H fun x H1=>∃ c,x = .bl c∧Q c H1
theorem pt_val {e:Expr} {t:TE} (h:PE X e t) (he:∀ whole,isTrue e X.env whole=(do let v ← whole;standAt e.pos;holding [v] (truthy v)):=by intro _;rfl):PT X e (tB t):=by
  intro pins s σ H Q I hw
  refine isTrue_plain (thn (h pins s σ H _ I hw) fun v s1 hpq=>?_) (he _)
  obtain ⟨x,H1,I1,r1,q1⟩:=hpq
  obtain ⟨d,rfl,q⟩:=q1
  cases r1
  exact wpAny_truthy_bool ⟨H1,I1,q⟩
variable {tA tB':TT} {rest:List Expr}
noncomputable def tOr (t u:TT):TT:=fun σ H Q=>t σ H fun c H1=>if c=true then Q true H1 else u σ H1 Q
noncomputable def tNot (t:TT):TT:=fun σ H Q=>t σ H fun c H1=>Q (!c) H1
theorem pw_or1 (ha:PT X a tA):PW X (.BoolOp .Or [a] pos) tA:=by
  intro wh pins s σ H Q I h
  refine isTrue_or (thn (ha pins s σ H Q I h) fun c s1 e=>?_)
  cases c with
  | false=>exact isTrue_or_nil e
  | true=>exact e
theorem pw_or (ha:PT X a tA) (hb:PW X (.BoolOp .Or (b :: rest) pos) tB'):PW X (.BoolOp .Or (a :: b :: rest) pos) (tOr tA tB'):=by
  intro wh pins s σ H Q I h
  refine isTrue_or (thn (ha pins s σ H _ I h) fun c s1 hpq=>?_)
  obtain ⟨H1,I1,q1⟩:=hpq
  cases c with
  | true=>exact ⟨H1,I1,q1⟩
  | false=>exact hb wh pins s1 σ H1 Q I1 q1
theorem pt_not (ha:PT X a tA):PT X (.UnaryOp .Not a pos) (tNot tA):=by
  intro pins s σ H Q I h
  exact isTrue_not (ha pins s σ H (fun c H1=>Q (!c) H1) I h)
noncomputable def tAndV (ta tb:TE):TE:=fun σ H Q=>ta σ H fun x H1=>∃ c,x = .bl c∧if c=true then tb σ H1 Q else Q (.bl false) H1
noncomputable def tNotV (ta:TE):TE:=fun σ H Q=>ta σ H fun x H1=>∃ c,x = .bl c∧Q (.bl (!c)) H1
theorem pe_one {op} {t:TE} (h:PE X a t):PE X (.BoolOp op [a] pos) t:=fun pins s σ H Q I hw=>BoolOp_one (h pins s σ H Q I hw)
theorem pe_and (ha:PE X a ta) (hb:PE X (.BoolOp .And (b :: rest) pos) tb):PE X (.BoolOp .And (a :: b :: rest) pos) (tAndV ta tb):=by
  intro pins s σ H Q I h
  refine BoolOp_and (thn (ha pins s σ H _ I h) fun v s1 hpq=>?_)
  obtain ⟨x,H1,I1,r1,q1⟩:=hpq
  obtain ⟨c,rfl,q1⟩:=q1
  cases r1
  refine wpAny_truthy_bool ?_
  cases c with
  | true=>exact hb pins s1 σ H1 Q I1 q1
  | false=>exact ⟨.bl false,H1,I1,rfl,q1⟩
theorem pe_not (ha:PE X a ta):PE X (.UnaryOp .Not a pos) (tNotV ta):=by
  intro pins s σ H Q I h
  refine UnaryOp_ (thn (ha pins s σ H _ I h) fun v s1 hpq=>?_)
  obtain ⟨x,H1,I1,r1,q1⟩:=hpq
  obtain ⟨c,rfl,q1⟩:=q1
  cases r1
  exact not_of (wpAny_truthy_bool ⟨.bl (!c),H1,I1,rfl,q1⟩)
end
end L2
namespace L2
open PySem PySem.Spec PyProof.Rows
noncomputable def SqL (K:PySem.W.Frag) (H:Hp) (a:Addr) (xs:List V):Prop :=
  Rd H a (.lst xs) ∨
    ∃ (o:Obj) (its:Array Value) (n:Nat),K.lookup a=some o∧o.cls = .type "list"∧o.dict=none∧o.data = .seq its n∧its.size≤sizeLine∧Vals xs its.toList
noncomputable def SqT (K:PySem.W.Frag) (H:Hp) (a:Addr) (xs:List V):Prop :=
  Rd H a (.tup xs) ∨
    ∃ (o:Obj) (its:Array Value) (n:Nat),K.lookup a=some o∧o.cls = .type "tuple"∧o.data = .seq its n∧its.size≤sizeLine∧Vals xs its.toList
noncomputable def absV:Value→Option V
  | .none=>some .non
  | .bool b=>some (.bl b)
  | .int i _=>some (.int i)
  | .str x _=>some (.str x)
  | .bytes b _=>some (.byt b)
  | .float b _=>some (.flt b)
  | .ref a=>some (.ref a)
  | .type n=>some (.ty n)
  | _=>none
theorem RelV.abs {x:V} {u:Value} (r:RelV x u):absV u=some x:=by
  cases x with
  | non=>cases r;rfl
  | bl _=>cases r;rfl
  | int _=>obtain ⟨t,rfl⟩:=r;rfl
  | str _=>obtain ⟨t,rfl⟩:=r;rfl
  | byt _=>obtain ⟨t,rfl⟩:=r;rfl
  | flt _=>obtain ⟨t,rfl⟩:=r;rfl
  | ref _=>cases r;rfl
  | ty _=>cases r;rfl
theorem RelV.inj {x y:V} {u:Value} (r:RelV x u) (q:RelV y u):x=y:=Option.some.inj (r.abs.symm.trans q.abs)
theorem Vals.inj:∀ {xs ys:List V} {us:List Value},Vals xs us→Vals ys us→xs=ys
  | _,_,_,.nil,.nil=>rfl
  | _,_,_,.cons r t,.cons r' t'=>by rw [r.inj r',Vals.inj t t']
section
variable {X:Cx} {pins:List (Addr×Obj)} {σ:St} {H:Hp} {s:Shared} {a:Addr} {xs ys:List V}
theorem Inv.list (I:Inv X pins σ H s) (h:SqL X.K H a xs):∃ its:List Value,Vals xs its∧PlainL s.heap a its.toArray∧xs.length≤sizeLine:=by
  rcases h with h | ⟨o,its,n,hk,hc,hd,hs,hz,r⟩
  · obtain ⟨z,its,n,r,e⟩:=h.ok I.hok
    exact ⟨its,r,⟨_,n,e,rfl,rfl,rfl⟩,z⟩
  · refine ⟨its.toList,r,⟨o,n,I.kIn a o hk,hc,hd,by simpa using hs⟩,?_⟩
    have e:=r.length
    simp only [Array.length_toList] at e
    omega
theorem Inv.tuple (I:Inv X pins σ H s) (h:SqT X.K H a xs):∃ its:List Value,Vals xs its∧IsTup s.heap a its.toArray∧xs.length≤sizeLine:=by
  rcases h with h | ⟨o,its,n,hk,hc,hs,hz,r⟩
  · obtain ⟨z,its,r,p⟩:=h.ok I.hok
    exact ⟨its,r,p,z⟩
  · refine ⟨its.toList,r,⟨o,I.kIn a o hk,hc,n,by simpa using hs⟩,?_⟩
    have e:=r.length
    simp only [Array.length_toList] at e
    omega
theorem Inv.list_inj (I:Inv X pins σ H s) (h:SqL X.K H a xs) (h':SqL X.K H a ys):xs=ys:=by
  obtain ⟨its,r,⟨o,n,e,_,_,d⟩,_⟩:=I.list h
  obtain ⟨its',r',⟨o',n',e',_,_,d'⟩,_⟩:=I.list h'
  rw [e] at e';cases e'
  rw [d] at d'
  injection d' with d1 _
  have:its=its':=by simpa using congrArg Array.toList d1
  subst this
  exact r.inj r'
end
noncomputable abbrev Cx.wish (X:Cx) (E:Value→Shared→Prop):Cx:={ X with xe:=E }
noncomputable abbrev Cx.nox (X:Cx):Cx:=X.wish fun _ _=>False
theorem Cx.Ok.wish {X:Cx} (ok:X.Ok) (E:Value→Shared→Prop):(X.wish E).Ok :=
  ⟨ok.mod,ok.kind,ok.glob,ok.blt,ok.above,ok.inj,ok.has,ok.cab,ok.hd,ok.frames,ok.stk,ok.exf,ok.bs,ok.bsz,ok.noex,ok.exfs,ok.funs,ok.frf⟩
theorem Cx.Ok.unwish {X:Cx} {E:Value→Shared→Prop} (ok:(X.wish E).Ok):X.Ok :=
  ⟨ok.mod,ok.kind,ok.glob,ok.blt,ok.above,ok.inj,ok.has,ok.cab,ok.hd,ok.frames,ok.stk,ok.exf,ok.bs,ok.bsz,ok.noex,ok.exfs,ok.funs,ok.frf⟩
section
variable {X:Cx} {pins:List (Addr×Obj)} {σ:St} {H:Hp} {s:Shared} {E:Value→Shared→Prop}
theorem Inv.wish (I:Inv X pins σ H s) (E:Value→Shared→Prop):Inv (X.wish E) pins σ H s:=⟨I.ok.wish E,I.os,I.bare,I.base,I.loc,I.cell,I.free,I.freeC,I.pin,I.hok,I.len⟩
theorem Inv.unwish (I:Inv (X.wish E) pins σ H s):Inv X pins σ H s:=⟨I.ok.unwish,I.os,I.bare,I.base,I.loc,I.cell,I.free,I.freeC,I.pin,I.hok,I.len⟩
theorem SP.unwish {D:Ends} {f:Flow} {s':Shared} (h:SP (X.wish E) pins D f s'):SP X pins D f s':=by
  cases f with
  | next=>obtain ⟨σ',H',I,q⟩:=h;exact ⟨σ',H',I.unwish,q⟩
  | brk=>obtain ⟨σ',H',I,q⟩:=h;exact ⟨σ',H',I.unwish,q⟩
  | cont=>obtain ⟨σ',H',I,q⟩:=h;exact ⟨σ',H',I.unwish,q⟩
  | ret u=>obtain ⟨v,σ',H',I,r,q⟩:=h;exact ⟨v,σ',H',I.unwish,r,q⟩
theorem PSs.nox {st:List Stmt} {t:TS} (h:PSs X.nox st t):PSs X st t:=fun pins s σ H D I hw =>
  wpAny_mono (h pins s σ H D (I.wish _) hw) (fun _ _ q=>q.unwish) fun _ _ z=>False.elim z
end
section
variable {X:Cx} {st:Stmt} {rest:List Stmt} {t u:TS} {e:Expr} {te:TE} {pos:Pos}
noncomputable def tNext:TS:=fun D σ H=>D.nx σ H
noncomputable def tSeq (t u:TS):TS:=fun D σ H=>t { D with nx:=u D } σ H
theorem pss_nil:PSs X [] tNext:=fun _ _ σ H _ I h=>wpAny_execs_nil ⟨σ,H,I,h⟩
theorem pss_cons (h1:PS X st t) (h2:PSs X rest u):PSs X (st :: rest) (tSeq t u):=by
  intro pins s σ H D I h
  refine wpAny_execs_cons (thn (h1 pins s σ H { D with nx:=u D } I h) fun f s1 q=>?_)
  cases f with
  | next =>
    obtain ⟨σ',H',I',q⟩:=q
    exact h2 pins s1 σ' H' D I' q
  | ret v=>exact q
  | brk=>exact q
  | cont=>exact q
theorem pss_one (h1:PS X st t):PSs X [st] t:=by
  intro pins s σ H D I h
  refine wpAny_execs_cons (thn (h1 pins s σ H D I h) fun f s1 q=>?_)
  cases f with
  | next=>exact wpAny_execs_nil q
  | ret v=>exact q
  | brk=>exact q
  | cont=>exact q
theorem Inv.quiet {pins:List (Addr×Obj)} {σ:St} {H:Hp} {s:Shared} (I:Inv X pins σ H s):interactive X.env=false:=by simp [interactive,I.ok.kind]
noncomputable def tDrop (te:TE):TS:=fun D σ H=>te σ H fun _ H1=>D.nx σ H1
theorem ps_expr (he:PE X e te) (hs:swapsWith e none pos.line X.env=pure false:=by rfl):PS X (.Expr e pos) (tDrop te):=by
  intro pins s σ H D I h
  exact wpAny_Expr_any (thn (he pins s σ H _ I h) fun v s1 ⟨x,H1,I1,r1,q1⟩=>⟨σ,H1,I1,q1⟩) I.quiet hs
noncomputable def tRet (te:TE):TS:=fun D σ H=>te σ H D.rt
theorem ps_ret (he:PE X e te):PS X (.Return (some e) pos) (tRet te):=by
  intro pins s σ H D I h
  exact wpAny_Return_some (thn (he pins s σ H _ I h) fun v s1 ⟨x,H1,I1,r1,q1⟩=>⟨x,σ,H1,I1,r1,q1⟩)
noncomputable def tIfS (c:TT) (t u:TS):TS:=fun D σ H=>c σ H fun b H1=>if b=true then t D σ H1 else u D σ H1
theorem ps_if {c:Expr} {a b:List Stmt} {tc:TT} (hc:PT X c tc) (ha:PSs X a t) (hb:PSs X b u):PS X (.If c a b pos) (tIfS tc t u):=by
  intro pins s σ H D I h
  refine wpAny_If (thn (hc pins s σ H _ I h) fun d s1 hpq=>?_)
  obtain ⟨H1,I1,q1⟩:=hpq
  cases d with
  | true=>exact ha pins s1 σ H1 D I1 q1
  | false=>exact hb pins s1 σ H1 D I1 q1
end
noncomputable abbrev TG:=V→St→Hp→(St→Hp→Prop)→Prop
noncomputable abbrev TGs:=List V→St→Hp→(St→Hp→Prop)→Prop
noncomputable def PG (X:Cx) (target:Expr) (t:TG):Prop :=
  ∀ (pins:List (Addr×Obj)) (s:Shared) (σ:St) (H:Hp) (v:V) (u:Value) (Q:St→Hp→Prop),Inv X pins σ H s→RelV v u→t v σ H Q →
    wpAny (model X.prog X.w) X.A (assign target X.env u) (fun _ s'=>∃ σ' H',Inv X pins σ' H' s'∧Q σ' H') X.xe s
noncomputable def PGs (X:Cx) (ts:List Expr) (t:TGs):Prop :=
  ∀ (pins:List (Addr×Obj)) (s:Shared) (σ:St) (H:Hp) (vs:List V) (us:List Value) (Q:St→Hp→Prop),Inv X pins σ H s→Vals vs us→t vs σ H Q →
    wpAny (model X.prog X.w) X.A (assignInOrder ((assignEach ts X.env).map (·.2)) us) (fun _ s'=>∃ σ' H',Inv X pins σ' H' s'∧Q σ' H') X.xe s
section
variable {X:Cx} {pos:Pos}
noncomputable def gName (i:Nat):TG:=fun v σ H Q=>Q (σ.set i (some v)) H
theorem pg_name {i:Nat} {x:Str} (hN:X.N.Nodup) (hi:X.N[i]? = some x) (hx:Loc X.env.scope x) (hf:X.fn x=true∨X.env.scope.names.lookup x=some .local:=by first | exact .inl rfl | exact .inr rfl | assumption):PG X (.Name x pos) (gName i):=by
  intro pins s σ H v u Q I r h
  exact wpAny_assign_Name (store_ok I hN hi hx r (fun s' I'=>⟨_,H,I',h⟩) hf)
noncomputable def gNil:TGs:=fun vs σ H Q=>vs=[]∧Q σ H
noncomputable def gCons (t:TG) (u:TGs):TGs:=fun vs σ H Q=>∃ v r,vs=v :: r∧t v σ H fun σ' H'=>u r σ' H' Q
theorem pgs_nil:PGs X [] gNil:=by
  intro pins s σ H vs us Q I r h
  obtain ⟨e,h⟩:=h
  subst e
  cases r
  exact assignInOrder_nil ⟨σ,H,I,h⟩
theorem pgs_cons {e:Expr} {es:List Expr} {t:TG} {u:TGs} (h1:PG X e t) (h2:PGs X es u)
    (hs:(assignEach (e :: es) X.env).map (·.2)=assign e X.env :: (assignEach es X.env).map (·.2):=by rfl):PGs X (e :: es) (gCons t u):=by
  intro pins s σ H vs us Q I r h
  obtain ⟨v,vr,e1,h⟩:=h
  subst e1
  cases r with
  | cons r rr =>
    rw [hs]
    refine assignInOrder_cons (thn (h1 pins s σ H _ _ _ I r h) fun _ s1 hpq=>?_)
    obtain ⟨σ1,H1,I1,q1⟩:=hpq
    exact h2 pins s1 σ1 H1 _ _ Q I1 rr q1
noncomputable def gTup (K:PySem.W.Frag) (n:Nat) (t:TGs):TG:=fun v σ H Q=>∃ a xs,v = .ref a∧SqT K H a xs∧xs.length=n∧t xs σ H Q
theorem pg_tup {es:List Expr} {k:Nat} {t:TGs} {n:Nat} (hc:X.calm=true) (h:PGs X es t)
    (hn:(assignEach es X.env).length=n:=by rfl) (hst:(assignEach es X.env).findIdx? (·.1)=none:=by rfl):PG X (.Tuple es k pos) (gTup X.K n t):=by
  intro pins s σ H v u Q I r hw
  obtain ⟨a,xs,e1,hq,hl,hw⟩:=hw
  subst e1
  cases r
  obtain ⟨its,rv,ht,hz⟩:=I.tuple hq
  refine assign_Tuple_tuple (I.ok.hd hc) ht (by simp [hn,← hl,rv.length]) hst fun h' hx=>?_
  have I1:Inv X pins σ H { s with heap:=h' }:=I.kept (t':=s.toks) fun b o e=>hx b o (Nat.ne_of_lt (Heap.lt_size e)) e
  exact h pins _ σ H xs _ Q I1 (by simpa using rv) hw
noncomputable def tAsg (te:TE) (g:TG):TS:=fun D σ H=>te σ H fun x H1=>g x σ H1 D.nx
theorem ps_asg {tg e:Expr} {te:TE} {g:TG} (he:PE X e te) (hg:PG X tg g) (hs:swapsWithSole [tg] e pos.line X.env=pure false:=by rfl) (hw:swappedStores [tg] e X.env=pure none:=by rfl)
    (h1:(assignEach [tg] X.env).map (·.2)=[assign tg X.env]:=by rfl):PS X (.Assign [tg] e pos) (tAsg te g):=by
  intro pins s σ H D I h
  refine wpAny_Assign_stores (thn (he pins s σ H _ I h) fun v s1 hpq=>?_) hs hw
  obtain ⟨x,H1,I1,r1,q1⟩:=hpq
  rw [h1]
  exact thn (hg pins s1 σ H1 x v _ I1 r1 q1) fun _ s2 q=>q
theorem ps_set {i:Nat} {x:Str} {e:Expr} {te:TE} {pos':Pos} (hN:X.N.Nodup) (hi:X.N[i]? = some x) (hx:Loc X.env.scope x) (he:PE X e te) (hs:swapsWith e (some (.Name x pos')) pos.line X.env=pure false:=by rfl) (hf:X.fn x=true∨X.env.scope.names.lookup x=some .local:=by first | exact .inl rfl | exact .inr rfl | assumption) :
    PS X (.Assign [.Name x pos'] e pos) (tAsg te (gName i)):=by
  intro pins s σ H D I h
  refine wpAny_Assign_Name (thn (he pins s σ H _ I h) fun v s1 hpq=>?_) hs
  obtain ⟨y,H1,I1,r1,q1⟩:=hpq
  exact store_ok I1 hN hi hx r1 (fun s2 I2=>⟨_,H1,I2,q1⟩) hf
end
section
variable {X:Cx} {pos:Pos}
noncomputable def tWhile (c:TT) (tb:TS):TS:=fun D σ H=>∃ W:Nat→St→Hp→Prop,(∃ m,W m σ H)∧∀ m σ H,W m σ H →
  c σ H fun b H1=>if b=true then ∃ N:St→Hp→Prop,(∀ σ' H',N σ' H'→∃ m',m' < m∧W m' σ' H')∧tb { D with nx:=N,ct:=N,bk:=D.nx } σ H1 else D.nx σ H1
theorem ps_while {c:Expr} {body:List Stmt} {tc:TT} {tb:TS} (hp:PassesOwn (model X.prog X.w) X.A X.env X.xe) (hc:PT X c tc) (hb:PSs X body tb):PS X (.While c body [] pos) (tWhile tc tb):=by
  intro pins s σ H D I h
  obtain ⟨W,⟨m0,w0⟩,turn⟩:=h
  refine wpAny_While (codeAny_whileLoop (fun n s'=>∃ σ' H',Inv X pins σ' H' s'∧W n σ' H') ?_ m0 ⟨σ,H,I,w0⟩)
  rintro n s1 ⟨σ1,H1,I1,w1⟩
  refine wpAny_passesOwn hp (thn (hc pins s1 σ1 H1 _ I1 (turn n σ1 H1 w1)) fun b s2 hpq=>?_)
  obtain ⟨H2,I2,q2⟩:=hpq
  cases b with
  | true =>
    obtain ⟨N,hN,q2⟩:=q2
    rw [if_pos rfl]
    refine wpAny_passesOwn hp (thn (hb pins s2 σ1 H2 _ I2 q2) fun f s3 q3=>?_)
    cases f with
    | next =>
      obtain ⟨σ3,H3,I3,n3⟩:=q3
      obtain ⟨m',hm,w3⟩:=hN σ3 H3 n3
      exact ⟨m',hm,σ3,H3,I3,w3⟩
    | cont =>
      obtain ⟨σ3,H3,I3,n3⟩:=q3
      obtain ⟨m',hm,w3⟩:=hN σ3 H3 n3
      exact ⟨m',hm,σ3,H3,I3,w3⟩
    | brk=>exact q3
    | ret v=>exact q3
  | false =>
    rw [if_neg Bool.false_ne_true]
    exact wpAny_execs_nil ⟨σ1,H2,I2,q2⟩
end
structure It where
  go:Nat→Hp→Prop
  yld:Nat→Hp→V→Hp→Prop
  stop:Nat→Hp→Prop
noncomputable def FpOk (X:Cx) (pins:List (Addr×Obj)) (H:Hp) (b:Addr):Prop :=
  H b=none∧b≠X.env.locals∧b ∉ X.fs∧(b∈X.ex∨X.s₀.heap.objs.size≤b)∧(∀ x c,X.env.cells.lookup x=some c→c≠b)∧∀ p∈X.pn++pins,p.1≠b
theorem Inv.fpOk {X:Cx} {pins:List (Addr×Obj)} {σ:St} {H H':Hp} {s:Shared} {b:Addr} (I:Inv X pins σ H s) (hb:s.heap.objs.size≤b) (hn:H' b=none):FpOk X pins H' b:=by
  refine ⟨hn,Nat.ne_of_gt (Nat.lt_of_lt_of_le I.lt hb),I.nofs hb,.inr (Nat.le_trans I.sz hb),fun x c e z=>?_,fun p hp z=>?_⟩
  · obtain ⟨v,q⟩:=I.cell x c e
    exact absurd (Nat.lt_of_lt_of_le q.lt (by rw [z];exact hb)) (Nat.lt_irrefl _)
  · exact absurd (Nat.lt_of_lt_of_le (Heap.lt_size (I.pin p hp).1) (by rw [z];exact hb)) (Nat.lt_irrefl _)
structure Turn (P:Program) (w:World) (K:PySem.W.Frag) (tg:Expr) (J:It) (fp:List Addr) (it:Addr) (tn:Nat→Heap→Prop):Prop where
  mem:it∈fp
  obj:∀ i h,tn i h→∀ b∈fp,∃ o,h.get? b=some o∧∀ v,o.data≠.cell v
  keep:∀ i h h',tn i h→(∀ b∈fp,∀ o,h.get? b=some o→h'.get? b=some o)→tn i h'
  item:∀ (X:Cx),X.prog=P→X.w=w→X.K=K→X.calm=true→∀ (i:Nat) (pins:List (Addr×Obj)) (s:Shared) (σ:St) (H:Hp) (E:Value→Shared→Prop),Inv X pins σ H s→(∀ b∈fp,FpOk X pins H b)→tn i s.heap→J.go i H →
    wpAny (model P w) X.A (pyNext (.ref it)) (fun r s1=>∃ u,r=some u ∧
      wpAny (model P w) X.A (letOwnedTupleGo tg (.ref it) u) (fun _ s2=>∃ x H',Inv X pins σ H' s2∧RelV x u∧J.yld i H x H'∧tn (i + 1) s2.heap∧∀ b∈fp,H' b=none) E s1) E s
  done:∀ (X:Cx),X.prog=P→X.w=w→X.K=K→X.calm=true→∀ (i:Nat) (pins:List (Addr×Obj)) (s:Shared) (σ:St) (H:Hp) (E:Value→Shared→Prop),Inv X pins σ H s→(∀ b∈fp,FpOk X pins H b)→tn i s.heap→J.stop i H →
    wpAny (model P w) X.A (pyNext (.ref it)) (fun r s1=>r=none∧Inv X pins σ H s1) E s
  self:∀ (A:Around) (i:Nat) (s:Shared) (Q:Value→Shared→Prop) (E:Value→Shared→Prop),tn i s.heap→Q (.ref it) s→wpAny (model P w) A (pyIter (.ref it)) Q E s
noncomputable abbrev TI:=St→Hp→(It→Hp→Prop)→Prop
noncomputable def PIE (X:Cx) (pins:List (Addr×Obj)) (σ:St) (tg:Expr) (R:It→Hp→Prop) (itv:Value) (s2:Shared):Prop :=
  ∃ (it:Addr) (fp:List Addr) (tn:Nat→Heap→Prop) (J:It) (H':Hp),itv = .ref it∧Inv X pins σ H' s2∧Turn X.prog X.w X.K tg J fp it tn∧tn 0 s2.heap∧(∀ b∈fp,FpOk X pins H' b)∧R J H'
noncomputable def PI (X:Cx) (tg iter:Expr) (wi:TI):Prop :=
  ∀ (pins:List (Addr×Obj)) (s:Shared) (σ:St) (H:Hp) (R:It→Hp→Prop),Inv X pins σ H s→wi σ H R →
    wpAny (model X.prog X.w) X.A (eval iter X.env) (fun v s1=>wpAny (model X.prog X.w) X.A (pyIter v) (PIE X pins σ tg R) X.xe s1) X.xe s
theorem go_of {M:Model} {A:Around} {E:Value→Shared→Prop} {s:Shared} {tg:Expr} {it:Addr} {u:Value} {o:Obj} {n:String} {vs:Array Value} {Q:Unit→Shared→Prop} (ho:s.heap.get? it=some o) (hc:o.cls = .type n) (hd:o.data = .fields vs)
    (hn:["enumerate","zip","dict_itemiterator","dict_reverseitemiterator","odict_iterator","itertools.zip_longest","itertools.pairwise"].contains n=false) (hQ:Q () s):wpAny M A (letOwnedTupleGo tg (.ref it) u) Q E s:=by
  unfold letOwnedTupleGo
  cases tg <;> first
    | exact wpAny_pure hQ
    | (cases u <;> first
        | exact wpAny_pure hQ
        | (refine wpAny_bind (wpAny_load ho ?_)
           rw [hc,hd]
           show wpAny M A (if (["enumerate","zip","dict_itemiterator","dict_reverseitemiterator","odict_iterator","itertools.zip_longest","itertools.pairwise"].contains n && vs[0]? == some (rawInt _))=true then _ else _) Q E s
           rw [if_neg (by intro h;rw [hn,Bool.false_and] at h;cases h)]
           exact wpAny_pure hQ))
noncomputable def Itl (K:PySem.W.Frag) (a:Addr):It :=
  ⟨fun i H=>∃ xs x,SqL K H a xs∧xs[i]? = some x,fun i H x H'=>H'=H∧∀ xs,SqL K H a xs→xs[i]? = some x,fun i H=>∃ xs,SqL K H a xs∧xs.length≤i⟩
noncomputable def Itr (lo:Int) (n:Nat):It:=⟨fun i _=>i < n,fun i H x H'=>H'=H∧x = .int (lo + i),fun i _=>n≤i⟩
theorem turn_list {P:Program} {w:World} {K:PySem.W.Frag} {tg:Expr} (a it:Addr):Turn P w K tg (Itl K a) [it] it (fun i h=>h.IsListIter it a i) where
  mem:=by simp
  obj:=fun i h st b hb=>by
    have e:b=it:=by simpa using hb
    subst e
    obtain ⟨o,e,c,d⟩:=st
    exact ⟨o,e,fun v z=>by rw [d] at z;cases z⟩
  keep:=fun i h h' st k=>st.at fun o e=>k it (by simp) o e
  item:=by
    intro X hP hw hK hc i pins s σ H E I hf st hg
    subst hP hw hK
    obtain ⟨xs,x,hq,hx⟩:=hg
    obtain ⟨its,rv,p,hz⟩:=I.list hq
    obtain ⟨u,hu,ru⟩:=rv.get hx
    obtain ⟨f0,f1,f2,f3,f4,f5⟩:=hf it (by simp)
    refine wpAny_pyNext_list_item st p.isList (x:=u) (by simpa using hu) fun h' st' sb=>?_
    have I1:Inv X pins σ H { s with heap:=h' }:=I.turned (t':=s.toks) (fun b o hb e=>(sb.2 b hb).trans e) f0 f1 f3 f4 f5
    obtain ⟨o,e,c,d⟩:=id st'
    exact ⟨u,rfl,go_of (s:={ s with heap:=h' }) e c d (by decide) ⟨x,H,I1,ru,⟨rfl,fun ys hy=>by rw [I.list_inj hy hq];exact hx⟩,st',fun b hb=>(hf b hb).1⟩⟩
  done:=by
    intro X hP hw hK hc i pins s σ H E I hf st hg
    subst hP hw hK
    obtain ⟨xs,hq,hx⟩:=hg
    obtain ⟨its,rv,p,hz⟩:=I.list hq
    obtain ⟨f0,f1,f2,f3,f4,f5⟩:=hf it (by simp)
    have hl:=rv.length
    exact wpAny_pyNext_list_end (I.ok.hd hc) st p.isList (by simp;omega) fun h' eb=>⟨rfl,I.turned (t':=s.toks) (fun b o hb e=>eb b o hb e) f0 f1 f3 f4 f5⟩
  self:=fun _ _ _ _ _ st h=>wpAny_pyIter_listiter st h
theorem turn_range {P:Program} {w:World} {K:PySem.W.Frag} {tg:Expr} (it:Addr) (lo:Int) (n:Nat):Turn P w K tg (Itr lo n) [it] it (fun i h=>IsRangeIter h it (lo + (i:Nat) * 1) ((n:Int) - (i:Nat)) 1) where
  mem:=by simp
  obj:=fun i h st b hb=>by
    have e:b=it:=by simpa using hb
    subst e
    exact ⟨_,st,fun v z=>by
      have z':Data.fields _=Data.cell v:=z
      cases z'⟩
  keep:=fun i h h' st k=>k it (by simp) _ st
  item:=by
    intro X hP hw hK hc i pins s σ H E I hf st hg
    subst hP hw hK
    obtain ⟨f0,f1,f2,f3,f4,f5⟩:=hf it (by simp)
    have W:=Walks.range (prog:=X.prog) (w:=X.w) (I.ok.hd hc) it lo 1 n
    refine W.item i s _ _ hg st fun v h' tk hv st' kk=>?_
    obtain ⟨t,rfl⟩:=hv
    have I1:Inv X pins σ H { s with heap:=h',toks:=tk }:=I.turned (fun b o hb e=>kk b o (by simpa using hb) e) f0 f1 f3 f4 f5
    refine ⟨_,rfl,go_of (s:={ s with heap:=h',toks:=tk }) (n:="range_iterator") st' rfl rfl (by decide) ⟨.int (lo + i),H,I1,⟨t,?_⟩,⟨rfl,rfl⟩,st',fun b hb=>(hf b hb).1⟩⟩
    rw [Int.mul_one]
  done:=by
    intro X hP hw hK hc i pins s σ H E I hf st hg
    subst hP hw hK
    obtain ⟨f0,f1,f2,f3,f4,f5⟩:=hf it (by simp)
    exact wpAny_pyNext_range_end (I.ok.hd hc) st (by have:n≤i:=hg;omega) fun h' eb=>⟨rfl,I.turned (t':=s.toks) (fun b o hb e=>eb b o hb e) f0 f1 f3 f4 f5⟩
  self:=fun _ _ _ _ _ st h=>wpAny_pyIter_rangeiter st h
end L2
namespace L2
open PySem PySem.Spec PyProof.Rows
section
variable {X:Cx} {tg:Expr}
noncomputable def iList (K:PySem.W.Frag) (tl:TE):TI:=fun σ H R=>tl σ H fun x H1=>∃ a,x = .ref a∧(∃ xs,SqL K H1 a xs)∧R (Itl K a) H1
theorem pi_list {l:Expr} {tl:TE} (hl:PE X l tl):PI X tg l (iList X.K tl):=by
  intro pins s σ H R I h
  refine thn (hl pins s σ H _ I h) fun v s1 hpq=>?_
  obtain ⟨x,H1,I1,r1,q1⟩:=hpq
  obtain ⟨a,e,⟨xs,hq⟩,q⟩:=q1
  subst e
  cases r1
  obtain ⟨its,rv,p,hz⟩:=I1.list hq
  refine wpAny_pyIter_list p.isList ?_
  refine ⟨s1.heap.objs.size,[s1.heap.objs.size],_,_,H1,rfl,I1.kept (t':=s1.toks) fun b o e=>Heap.get?_push_of_some _ e,turn_list a _,⟨_,Heap.get?_push_size _ rfl,rfl,rfl⟩,fun b hb=>?_,q⟩
  have e:b=s1.heap.objs.size:=by simpa using hb
  subst e
  exact I1.fpOk (Nat.le_refl _) (I1.hok.fresh (Nat.le_refl _))
theorem range_it {pins:List (Addr×Obj)} {σ:St} {H:Hp} {s:Shared} {R:It→Hp→Prop} {E:Value→Shared→Prop} {lo hi:Int} {t u v:Tok} {tk:Nat} (I:Inv X pins σ H s) (h1:-(2 ^ 62)≤lo) (h2:lo < 2 ^ 62) (h3:-(2 ^ 62)≤hi) (h4:hi < 2 ^ 62)
    (q:R (Itr lo (hi - lo).toNat) H):wpAny (model X.prog X.w) X.A (pyIter (.ref s.heap.objs.size)) (PIE X pins σ tg R) E { s with heap:=s.heap.push { cls:=.type "range",data:=.fields #[.int lo t,.int hi u,.int 1 v] },toks:=tk }:=by
  refine wpAny_pyIter_range (IsRange.new ..) (small_one h1 h2 h3 h4) ?_
  have I1:Inv X pins σ H { s with heap:=s.heap.push { cls:=.type "range",data:=.fields #[.int lo t,.int hi u,.int 1 v] },toks:=tk }:=I.kept fun b o e=>Heap.get?_push_of_some _ e
  refine ⟨(s.heap.push { cls:=.type "range",data:=.fields #[.int lo t,.int hi u,.int 1 v] }).objs.size,[(s.heap.push { cls:=.type "range",data:=.fields #[.int lo t,.int hi u,.int 1 v] }).objs.size],_,_,H,rfl,
    I1.kept (t':=tk) fun b o e=>Heap.get?_push_of_some _ e,turn_range _ lo (hi - lo).toNat,?_,fun b hb=>?_,q⟩
  · have e1:lo + ((0:Nat):Int) * 1=lo:=by simp
    have e2:(((hi - lo).toNat:Nat):Int) - ((0:Nat):Int)=Builtin.Range.rangeSize lo hi 1:=by rw [rangeSize_one];split <;> omega
    show IsRangeIter _ _ (lo + ((0:Nat):Int) * 1) ((((hi - lo).toNat:Nat):Int) - ((0:Nat):Int)) 1
    rw [e1,e2]
    exact Heap.get?_push_size _ rfl
  · have e:b=(s.heap.push { cls:=.type "range",data:=.fields #[.int lo t,.int hi u,.int 1 v] }).objs.size:=by simpa using hb
    subst e
    exact I1.fpOk (Nat.le_refl _) (I1.hok.fresh (Nat.le_refl _))
noncomputable def iRng1 (ta:TA):TI:=fun σ H R=>ta σ H fun vs H1=>∃ j:Int,vs=[.int j]∧-(2 ^ 62)≤j∧j < 2 ^ 62∧R (Itr 0 j.toNat) H1
noncomputable def iRng2 (ta:TA):TI:=fun σ H R=>ta σ H fun vs H1=>∃ i j:Int,vs=[.int i,.int j]∧(-(2 ^ 62)≤i∧i < 2 ^ 62∧-(2 ^ 62)≤j∧j < 2 ^ 62)∧R (Itr i (j - i).toNat) H1
theorem pi_range1 {a:Expr} {ta:TA} {p pos:Pos} (hg:Gl X "range") (hm:X.mg "range" = none) (ha:PA X [a] ta) (hs:starEach [a] X.env=[(false,eval a X.env)]:=by rfl):PI X tg (.Call (.Name "range" p) [a] [] pos) (iRng1 ta):=by
  intro pins s σ H R I h
  refine Call_ (ld_blt I hg hm boot_range (PyProof.Rows.callWith_type1 (thn (ha pos pins s σ H _ I h) fun us s1 hpq=>?_) hs rfl))
  obtain ⟨vs,H1,I1,r1,q1⟩:=hpq
  obtain ⟨j,e,q1,q2,q⟩:=q1
  subst e
  cases r1 with
  | cons r rr =>
    cases rr
    obtain ⟨t,rfl⟩:=r
    exact call_range_1 (range_it I1 (by omega) (by omega) q1 q2 (by simpa using q))
theorem pi_range2 {a b:Expr} {ta:TA} {p pos:Pos} (hg:Gl X "range") (hm:X.mg "range" = none) (ha:PA X [a,b] ta) (hs:starEach [a,b] X.env=[(false,eval a X.env),(false,eval b X.env)]:=by rfl) (hs2:starEach [b] X.env=[(false,eval b X.env)]:=by rfl) :
    PI X tg (.Call (.Name "range" p) [a,b] [] pos) (iRng2 ta):=by
  intro pins s σ H R I h
  refine Call_ (ld_blt I hg hm boot_range (PyProof.Rows.callWith_type1 (thn (ha pos pins s σ H _ I h) fun us s1 hpq=>?_) (by rw [hs,hs2]) (by rw [hs2];rfl)))
  obtain ⟨vs,H1,I1,r1,q1⟩:=hpq
  obtain ⟨i,j,e,⟨q1,q2,q3,q4⟩,q⟩:=q1
  subst e
  cases r1 with
  | cons r rr =>
    cases rr with
    | cons r' rr =>
      cases rr
      obtain ⟨t,rfl⟩:=r
      obtain ⟨t',rfl⟩:=r'
      exact call_range_2 (range_it I1 q1 q2 q3 q4 q)
noncomputable def tFor (wi:TI) (g:TG) (tb:TS):TS:=fun D σ H=>wi σ H fun J H1=>∃ W:Nat→Nat→St→Hp→Prop,(∃ m,W 0 m σ H1)∧∀ i m σ H,W i m σ H →
  (J.stop i H∧D.nx σ H)∨(J.go i H∧∃ N:St→Hp→Prop,(∀ σ' H',N σ' H'→∃ m',m' < m∧W (i + 1) m' σ' H')∧∀ x H',J.yld i H x H'→g x σ H' fun σ2 H2=>tb { D with nx:=N,ct:=N,bk:=D.nx } σ2 H2)
noncomputable def pinsAt (fp:List Addr) (h:Heap):List (Addr×Obj):=fp.filterMap fun b=>(h.get? b).map fun o=>(b,o)
theorem mem_pinsAt {fp:List Addr} {h:Heap} {b:Addr} {o:Obj} (hb:b∈fp) (e:h.get? b=some o):(b,o)∈pinsAt fp h:=List.mem_filterMap.mpr ⟨b,hb,by rw [e];rfl⟩
theorem of_pinsAt {fp:List Addr} {h:Heap} {p:Addr×Obj} (hp:p∈pinsAt fp h):p.1∈fp∧h.get? p.1=some p.2:=by
  obtain ⟨b,hb,e⟩:=List.mem_filterMap.mp hp
  cases q:h.get? b with
  | none=>rw [q] at e;cases e
  | some o =>
    rw [q] at e
    have e':(b,o)=p:=Option.some.inj e
    subst e'
    exact ⟨hb,q⟩
theorem Inv.pinned {pins:List (Addr×Obj)} {σ:St} {H:Hp} {s:Shared} {fp:List Addr} (I:Inv X pins σ H s) (hf:∀ b∈fp,FpOk X pins H b) (ho:∀ b∈fp,∃ o,s.heap.get? b=some o∧∀ v,o.data≠.cell v):Inv X (pins++pinsAt fp s.heap) σ H s :=
  I.pins_of fun p hp=>(List.mem_append.mp hp).elim (fun z=>I.pin p (List.mem_append_right _ z)) fun z=>by
    obtain ⟨hb,e⟩:=of_pinsAt z
    obtain ⟨f0,f1,f2,_⟩:=hf p.1 hb
    obtain ⟨o,e',d⟩:=ho p.1 hb
    rw [e] at e';cases e'
    exact ⟨e,f0,f1,f2,d⟩
theorem Inv.unpinned {pins pl:List (Addr×Obj)} {σ:St} {H:Hp} {s:Shared} (I:Inv X (pins++pl) σ H s):Inv X pins σ H s:=I.pins_of fun p hp=>I.pin p (List.mem_append_right _ (List.mem_append_left _ hp))
theorem ps_for {iter:Expr} {body:List Stmt} {wi:TI} {g:TG} {tb:TS} {pos:Pos} (hp:PassesOwn (model X.prog X.w) X.A X.env X.xe) (hc:X.calm=true) (hi:PI X tg iter wi) (hg:PG X tg g) (hb:PSs X body tb)
    (hs:∀ x,foldedSetIterable iter X.env x=pure x:=by intro _;rfl):PS X (.For tg iter body [] pos) (tFor wi g tb):=by
  intro pins s σ H D I h
  refine wpAny_For (thn (hi pins s σ H _ I h) fun v s1 h1=>thn h1 fun itv s2 h2=>?_) hs
  obtain ⟨it,fp,tn,J,H2,e,I2,T,st2,f2,W,⟨m0,w0⟩,turn⟩:=h2
  subst e
  have stat:∀ {H':Hp},(∀ b∈fp,H' b=none)→∀ b∈fp,FpOk X pins H' b:=fun hn b hb=>⟨hn b hb,(f2 b hb).2⟩
  refine codeAny_forLoop_any (fun n s'=>∃ i σ' H',Inv X pins σ' H' s'∧tn i s'.heap∧(∀ b∈fp,H' b=none)∧W i n σ' H') ?_ m0 ⟨0,σ,H2,I2,st2,fun b hb=>(f2 b hb).1,w0⟩
  rintro n s3 ⟨i,σ3,H3,I3,st3,fr3,w3⟩
  rcases turn i n σ3 H3 w3 with ⟨stop,qn⟩ | ⟨go,N,hN,step⟩
  · refine wpAny_passesOwn hp (thn (T.done X rfl rfl rfl hc i pins s3 σ3 H3 X.xe I3 (stat fr3) st3 stop) fun r s4 ⟨hr,I4⟩=>?_)
    subst hr
    exact wpAny_execs_nil ⟨σ3,H3,I4,qn⟩
  · refine wpAny_passesOwn hp (thn (T.item X rfl rfl rfl hc i pins s3 σ3 H3 X.xe I3 (stat fr3) st3 go) fun r s4 hpq=>?_)
    obtain ⟨u,hr,h4⟩:=hpq
    subst hr
    refine wpAny_passesOwn hp (thn h4 fun _ s5 hpq=>?_)
    obtain ⟨x,H5,I5,r5,y5,st5,fr5⟩:=hpq
    have I5':=I5.pinned (stat fr5) (T.obj _ _ st5)
    refine wpAny_passesOwn hp (thn (hg _ s5 σ3 H5 x u _ I5' r5 (step x H5 y5)) fun _ s6 hpq=>?_)
    obtain ⟨σ6,H6,I6,q6⟩:=hpq
    refine wpAny_passesOwn hp (thn (hb _ s6 σ6 H6 _ I6 q6) fun f s7 q7=>?_)
    have again:∀ {σ7:St} {H7:Hp},Inv X (pins++pinsAt fp s5.heap) σ7 H7 s7→N σ7 H7→∃ m,m < n∧∃ i σ' H',Inv X pins σ' H' s7∧tn i s7.heap∧(∀ b∈fp,H' b=none)∧W i m σ' H':=fun {σ7 H7} I7 n7=>by
      obtain ⟨m',hm,w7⟩:=hN σ7 H7 n7
      refine ⟨m',hm,i + 1,σ7,H7,I7.unpinned,T.keep _ _ _ st5 fun b hb o e=>(I7.pin (b,o) (List.mem_append_right _ (List.mem_append_right _ (mem_pinsAt hb e)))).1,fun b hb=>?_,w7⟩
      obtain ⟨o,e,d⟩:=T.obj _ _ st5 b hb
      exact (I7.pin (b,o) (List.mem_append_right _ (List.mem_append_right _ (mem_pinsAt hb e)))).2.1
    cases f with
    | next=>obtain ⟨σ7,H7,I7,n7⟩:=q7;exact again I7 n7
    | cont=>obtain ⟨σ7,H7,I7,n7⟩:=q7;exact again I7 n7
    | brk=>obtain ⟨σ7,H7,I7,q7⟩:=q7;exact ⟨σ7,H7,I7.unpinned,q7⟩
    | ret v=>obtain ⟨x7,σ7,H7,I7,r7,q7⟩:=q7;exact ⟨x7,σ7,H7,I7.unpinned,r7,q7⟩
end
theorem for_list {K:PySem.W.Frag} {a:Addr} {xs:List V} {g:TG} {tb:TS} {D:Ends} {σ:St} {H:Hp} (Pv:Nat→St→Hp→Prop) (h0:Pv 0 σ H) (hl:∀ i σ H,i≤xs.length→Pv i σ H→SqL K H a xs)
    (hs:∀ i x σ H,xs[i]? = some x→Pv i σ H→g x σ H fun σ2 H2=>tb { D with nx:=Pv (i + 1),ct:=Pv (i + 1),bk:=D.nx } σ2 H2) (hd:∀ σ H,Pv xs.length σ H→D.nx σ H) :
    ∃ W:Nat→Nat→St→Hp→Prop,(∃ m,W 0 m σ H)∧∀ i m σ H,W i m σ H →
      ((Itl K a).stop i H∧D.nx σ H)∨((Itl K a).go i H∧∃ N:St→Hp→Prop,(∀ σ' H',N σ' H'→∃ m',m' < m∧W (i + 1) m' σ' H')∧∀ x H',(Itl K a).yld i H x H'→g x σ H' fun σ2 H2=>tb { D with nx:=N,ct:=N,bk:=D.nx } σ2 H2):=by
  refine ⟨fun i m σ H=>m=xs.length - i∧i≤xs.length∧Pv i σ H,⟨xs.length,by simp,Nat.zero_le _,h0⟩,?_⟩
  rintro i m σ H ⟨rfl,hi,p⟩
  have q:=hl i σ H hi p
  by_cases hlt:i < xs.length
  · refine .inr ⟨⟨xs,xs[i],q,by simp [hlt]⟩,Pv (i + 1),fun σ' H' p'=>⟨xs.length - (i + 1),by omega,rfl,hlt,p'⟩,fun x H' y=>?_⟩
    obtain ⟨e,y⟩:=y
    subst e
    exact hs i x σ _ (y xs q) p
  · have e:i=xs.length:=by omega
    subst e
    exact .inl ⟨⟨xs,q,Nat.le_refl _⟩,hd σ H p⟩
theorem for_range {lo:Int} {n:Nat} {g:TG} {tb:TS} {D:Ends} {σ:St} {H:Hp} (Pv:Nat→St→Hp→Prop) (h0:Pv 0 σ H)
    (hs:∀ i σ H,i < n→Pv i σ H→g (.int (lo + i)) σ H fun σ2 H2=>tb { D with nx:=Pv (i + 1),ct:=Pv (i + 1),bk:=D.nx } σ2 H2) (hd:∀ σ H,Pv n σ H→D.nx σ H) :
    ∃ W:Nat→Nat→St→Hp→Prop,(∃ m,W 0 m σ H)∧∀ i m σ H,W i m σ H →
      ((Itr lo n).stop i H∧D.nx σ H)∨((Itr lo n).go i H∧∃ N:St→Hp→Prop,(∀ σ' H',N σ' H'→∃ m',m' < m∧W (i + 1) m' σ' H')∧∀ x H',(Itr lo n).yld i H x H'→g x σ H' fun σ2 H2=>tb { D with nx:=N,ct:=N,bk:=D.nx } σ2 H2):=by
  refine ⟨fun i m σ H=>m=n - i∧i≤n∧Pv i σ H,⟨n,by simp,Nat.zero_le _,h0⟩,?_⟩
  rintro i m σ H ⟨rfl,hi,p⟩
  by_cases hlt:i < n
  · refine .inr ⟨hlt,Pv (i + 1),fun σ' H' p'=>⟨n - (i + 1),by omega,rfl,hlt,p'⟩,fun x H' y=>?_⟩
    obtain ⟨e,y⟩:=y
    subst e y
    exact hs i σ _ hlt p
  · have e:i=n:=by omega
    subst e
    exact .inl ⟨Nat.le_refl _,hd σ H p⟩
end L2
namespace L2
open PySem PySem.Spec PyProof.Rows
noncomputable abbrev R2:=V→V→Hp→VK→Prop
noncomputable def OpR (X:Cx) (f:Value→Value→Sem Value) (r:R2):Prop :=
  ∀ (pins:List (Addr×Obj)) (s:Shared) (σ:St) (H:Hp) (x y:V) (v u:Value) (Q:VK),Inv X pins σ H s→RelV x v→RelV y u→r x y H Q →
    wpAny (model X.prog X.w) X.A (f v u) (EP X pins σ Q) X.xe s
noncomputable def UnR (X:Cx) (f:Value→Sem Value) (r:V→Hp→VK→Prop):Prop :=
  ∀ (pins:List (Addr×Obj)) (s:Shared) (σ:St) (H:Hp) (x:V) (v:Value) (Q:VK),Inv X pins σ H s→RelV x v→r x H Q →
    wpAny (model X.prog X.w) X.A (f v) (EP X pins σ Q) X.xe s
noncomputable def CallR (X:Cx) (f:Value) (r:List V→Hp→VK→Prop):Prop :=
  ∀ (pins:List (Addr×Obj)) (s:Shared) (σ:St) (H:Hp) (xs:List V) (us:List Value) (Q:VK),Inv X pins σ H s→Vals xs us→r xs H Q →
    wpAny (model X.prog X.w) X.A (call f us) (EP X pins σ Q) X.xe s
noncomputable def tOp (r:R2) (ta tb:TE):TE:=fun σ H Q=>ta σ H fun x H1=>tb σ H1 fun y H2=>r x y H2 Q
noncomputable def tUn (r:V→Hp→VK→Prop) (ta:TE):TE:=fun σ H Q=>ta σ H fun x H1=>r x H1 Q
noncomputable def rI (C:Int→Int→Prop) (g:Int→Int→V):R2:=fun x y H Q=>∃ i j,x = .int i∧y = .int j∧C i j∧Q (g i j) H
noncomputable def rI0 (g:Int→Int→V):R2:=fun x y H Q=>∃ i j,x = .int i∧y = .int j∧Q (g i j) H
noncomputable def rU (g:Int→V):V→Hp→VK→Prop:=fun x H Q=>∃ i,x = .int i∧Q (g i) H
section
variable {X:Cx} {a b c:Expr} {ta tb tc:TE} {pos:Pos}
theorem binT (ha:PE X a ta) (hb:PE X b tb) {pins:List (Addr×Obj)} {s:Shared} {σ:St} {H:Hp} {R:V→V→Hp→Prop} (I:Inv X pins σ H s)
    (h:ta σ H fun x H1=>tb σ H1 fun y H2=>R x y H2) {Q:Value→Shared→Prop} {f:Value→Value→Sem Value}
    (hf:∀ v u s2 x y H2,Inv X pins σ H2 s2→RelV x v→RelV y u→R x y H2→wpAny (model X.prog X.w) X.A (f v u) Q X.xe s2) :
    wpAny (model X.prog X.w) X.A (eval a X.env) (fun v s₁=>wpAny (model X.prog X.w) X.A (eval b X.env) (fun u s₂=>wpAny (model X.prog X.w) X.A (f v u) Q X.xe s₂) X.xe s₁) X.xe s:=by
  refine thn (ha pins s σ H _ I h) fun v s1 hpq=>?_
  obtain ⟨x,H1,I1,r1,q1⟩:=hpq
  refine thn (hb pins s1 σ H1 _ I1 q1) fun u s2 hpq=>?_
  obtain ⟨y,H2,I2,r2,q2⟩:=hpq
  exact hf v u s2 x y H2 I2 r1 r2 q2
theorem pe_op {op:Operator} {r:R2} (ho:OpR X (binaryOp op) r) (ha:PE X a ta) (hb:PE X b tb):PE X (.BinOp a op b pos) (tOp r ta tb):=by
  intro pins s σ H Q I h
  exact wpAny_BinOp (binT ha hb I h fun v u s2 x y H2 I2 rx ry q=>ho pins s2 σ H2 x y v u Q I2 rx ry q)
theorem pe_un {op:UnaryOp} {r:V→Hp→VK→Prop} (ho:UnR X (unaryOp op) r) (ha:PE X a ta):PE X (.UnaryOp op a pos) (tUn r ta):=by
  intro pins s σ H Q I h
  exact UnaryOp_ (thn (ha pins s σ H _ I h) fun v s1 ⟨x,H1,I1,r1,q1⟩=>ho pins s1 σ H1 x v Q I1 r1 q1)
theorem opI {f:Value→Value→Sem Value} {C:Int→Int→Prop} {g:Int→Int→Int}
    (rule:∀ (i j:Int) (t u:Tok) (s:Shared) (Q:Value→Shared→Prop) (E:Value→Shared→Prop),C i j→Q (.int (g i j) s.toks) { s with toks:=s.toks + 1 }→wpAny (model X.prog X.w) X.A (f (.int i t) (.int j u)) Q E s) :
    OpR X f (rI C fun i j=>.int (g i j)):=by
  intro pins s σ H x y v u Q I rx ry h
  obtain ⟨i,j,rfl,rfl,hc,q⟩:=h
  obtain ⟨t,rfl⟩:=rx
  obtain ⟨t',rfl⟩:=ry
  exact rule i j t t' s _ _ hc ⟨.int (g i j),H,I.tok _,⟨_,rfl⟩,q⟩
theorem opI0 {f:Value→Value→Sem Value} {g:Int→Int→Int}
    (rule:∀ (i j:Int) (t u:Tok) (s:Shared) (Q:Value→Shared→Prop) (E:Value→Shared→Prop),Q (.int (g i j) s.toks) { s with toks:=s.toks + 1 }→wpAny (model X.prog X.w) X.A (f (.int i t) (.int j u)) Q E s) :
    OpR X f (rI0 fun i j=>.int (g i j)):=by
  intro pins s σ H x y v u Q I rx ry h
  obtain ⟨i,j,rfl,rfl,q⟩:=h
  obtain ⟨t,rfl⟩:=rx
  obtain ⟨t',rfl⟩:=ry
  exact rule i j t t' s _ _ ⟨.int (g i j),H,I.tok _,⟨_,rfl⟩,q⟩
theorem opB0 {f:Value→Value→Sem Value} {g:Int→Int→Bool}
    (rule:∀ (i j:Int) (t u:Tok) (s:Shared) (Q:Value→Shared→Prop) (E:Value→Shared→Prop),Q (.bool (g i j)) s→wpAny (model X.prog X.w) X.A (f (.int i t) (.int j u)) Q E s) :
    OpR X f (rI0 fun i j=>.bl (g i j)):=by
  intro pins s σ H x y v u Q I rx ry h
  obtain ⟨i,j,rfl,rfl,q⟩:=h
  obtain ⟨t,rfl⟩:=rx
  obtain ⟨t',rfl⟩:=ry
  exact rule i j t t' s _ _ ⟨.bl (g i j),H,I,rfl,q⟩
noncomputable def CDiv (i j:Int):Prop:=0 < j∧j < 1073741824
noncomputable def CPow (i j:Int):Prop:=0≤j∧j≤1000000∧i.natAbs < 2 ^ 64
noncomputable def CMul (i j:Int):Prop:=(-(2 ^ 64) < i∧i < 2 ^ 64)∨(-(2 ^ 64) < j∧j < 2 ^ 64)
theorem CMul.ok {i j:Int} (h:CMul i j):IntMulOk i j:=by
  rcases h with ⟨h1,h2⟩ | ⟨h1,h2⟩
  · exact .of_left (intBits_le_64 h1 h2)
  · exact .of_right (intBits_le_64 h1 h2)
theorem op_add:OpR X (binaryOp .Add) (rI0 fun i j=>.int (i + j)):=opI0 fun _ _ _ _ _ _ _ q=>add_int q
theorem op_sub:OpR X (binaryOp .Sub) (rI0 fun i j=>.int (i - j)):=opI0 fun _ _ _ _ _ _ _ q=>sub_int q
theorem op_mul:OpR X (binaryOp .Mult) (rI CMul fun i j=>.int (i * j)):=opI fun _ _ _ _ _ _ _ hc q=>mul_int q hc.ok
theorem op_fdiv:OpR X (binaryOp .FloorDiv) (rI CDiv fun i j=>.int (i / j)):=opI fun i j _ _ _ _ _ hc q=>by
  have h1:(0:Int) < j:=hc.1
  have h2:j < 1073741824:=hc.2
  exact floordiv_int (by omega) (by rw [Int.fdiv_eq_ediv_of_nonneg i (by omega)];exact q) (.inl (PyProof.noPylong_small (by omega)))
theorem op_mod:OpR X (binaryOp .Mod) (rI (fun _ j=>0 < j) fun i j=>.int (i % j)):=opI fun i j _ _ _ _ _ hc q=>by
  have h1:(0:Int) < j:=hc
  exact mod_int' (by omega) (by rw [Int.fmod_eq_emod_of_nonneg i (by omega)];exact q)
theorem op_pow:OpR X (binaryOp .Pow) (rI CPow fun i j=>.int (i ^ j.toNat)):=opI fun _ _ _ _ _ _ _ hc q=>pow_int_small hc.1 hc.2.1 hc.2.2 q
theorem unI {f:Value→Sem Value} {g:Int→Int}
    (rule:∀ (i:Int) (t:Tok) (s:Shared) (Q:Value→Shared→Prop) (E:Value→Shared→Prop),Q (.int (g i) s.toks) { s with toks:=s.toks + 1 }→wpAny (model X.prog X.w) X.A (f (.int i t)) Q E s) :
    UnR X f (rU fun i=>.int (g i)):=by
  intro pins s σ H x v Q I rx h
  obtain ⟨i,rfl,q⟩:=h
  obtain ⟨t,rfl⟩:=rx
  exact rule i t s _ _ ⟨.int (g i),H,I.tok _,⟨_,rfl⟩,q⟩
theorem un_neg:UnR X (unaryOp .USub) (rU fun i=>.int (-i)):=unI fun _ _ _ _ _ q=>neg_int q
end
noncomputable def scal:V→V→Bool
  | .non,.non=>true | .non,.int _=>true | .int _,.non=>true | .non,.bl _=>true | .bl _,.non=>true | .non,.str _=>true | .str _,.non=>true
  | .int _,.int _=>true | .bl _,.bl _=>true | .str _,.str _=>true | .byt _,.byt _=>true
  | .int _,.str _=>true | .str _,.int _=>true | .bl _,.str _=>true | .str _,.bl _=>true
  | _,_=>false
noncomputable def rEq:R2:=fun x y H Q=>scal x y=true∧Q (.bl (decide (x=y))) H
noncomputable def rNe:R2:=fun x y H Q=>scal x y=true∧Q (.bl (!decide (x=y))) H
theorem dec_int {i j:Int}:decide (V.int i=V.int j)=(i == j):=by
  rw [Bool.eq_iff_iff]
  simp
theorem dec_bl {i j:Bool}:decide (V.bl i=V.bl j)=(i == j):=by
  rw [Bool.eq_iff_iff]
  simp
theorem dec_str {i j:Str}:decide (V.str i=V.str j)=(i == j):=by
  rw [Bool.eq_iff_iff]
  simp
theorem dec_byt {i j:Array UInt8}:decide (V.byt i=V.byt j)=(i.toList == j.toList):=by
  rw [Bool.eq_iff_iff]
  cases i
  cases j
  simp
section
variable {X:Cx} {a b c:Expr} {ta tb tc:TE} {pos:Pos}
theorem fin_bl {pins:List (Addr×Obj)} {σ:St} {H:Hp} {s:Shared} {Q:VK} {k k':Bool} (I:Inv X pins σ H s) (q:Q (.bl k) H) (e:k=k'):EP X pins σ Q (.bool k') s:=by
  subst e
  exact ⟨.bl k,H,I,rfl,q⟩
theorem op_eq:OpR X (compareOp .Eq) rEq:=by
  intro pins s σ H x y v u Q I rx ry h
  obtain ⟨hs,q⟩:=h
  cases x with
  | non =>
    cases rx
    cases y with
    | non=>cases ry;exact PySem.EqNone.eq_none_none (fin_bl I q (by simp))
    | bl j=>cases ry;exact PySem.EqNone.eq_none_bool (fin_bl I q (by simp))
    | int j=>obtain ⟨t',rfl⟩:=ry;exact PySem.EqNone.eq_none_int (fin_bl I q (by simp))
    | str j=>obtain ⟨t',rfl⟩:=ry;exact PySem.EqNone.eq_none_str (fin_bl I q (by simp))
    | _=>exact absurd (show false=true from hs) Bool.false_ne_true
  | bl i =>
    cases rx
    cases y with
    | non=>cases ry;exact PySem.EqNone.eq_bool_none (fin_bl I q (by simp))
    | bl j=>cases ry;exact eq_bool (fin_bl I q dec_bl)
    | str j=>obtain ⟨t',rfl⟩:=ry;exact PySem.EqMixed.eq_bool_str (fin_bl I q (by simp))
    | _=>exact absurd (show false=true from hs) Bool.false_ne_true
  | int i =>
    obtain ⟨t,rfl⟩:=rx
    cases y with
    | non=>cases ry;exact PySem.EqNone.eq_int_none (fin_bl I q (by simp))
    | int j=>obtain ⟨t',rfl⟩:=ry;exact eq_int (fin_bl I q dec_int)
    | str j=>obtain ⟨t',rfl⟩:=ry;exact PySem.EqMixed.eq_int_str (fin_bl I q (by simp))
    | _=>exact absurd (show false=true from hs) Bool.false_ne_true
  | str i =>
    obtain ⟨t,rfl⟩:=rx
    cases y with
    | non=>cases ry;exact PySem.EqNone.eq_str_none (fin_bl I q (by simp))
    | bl j=>cases ry;exact PySem.EqMixed.eq_str_bool (fin_bl I q (by simp))
    | int j=>obtain ⟨t',rfl⟩:=ry;exact PySem.EqMixed.eq_str_int (fin_bl I q (by simp))
    | str j=>obtain ⟨t',rfl⟩:=ry;exact eq_str (fin_bl I q dec_str)
    | _=>exact absurd (show false=true from hs) Bool.false_ne_true
  | byt i =>
    obtain ⟨t,rfl⟩:=rx
    cases y with
    | byt j=>obtain ⟨t',rfl⟩:=ry;exact PySem.W.eq_bytes (fin_bl I q dec_byt)
    | _=>exact absurd (show false=true from hs) Bool.false_ne_true
  | _=>cases y <;> exact absurd (show false=true from hs) Bool.false_ne_true
theorem op_ne:OpR X (compareOp .NotEq) rNe:=by
  intro pins s σ H x y v u Q I rx ry h
  obtain ⟨hs,q⟩:=h
  cases x with
  | non =>
    cases rx
    cases y with
    | non=>cases ry;exact PySem.EqNone.ne_none_none (fin_bl I q (by simp))
    | bl j=>cases ry;exact PySem.EqNone.ne_none_bool (fin_bl I q (by simp))
    | int j=>obtain ⟨t',rfl⟩:=ry;exact PySem.EqNone.ne_none_int (fin_bl I q (by simp))
    | str j=>obtain ⟨t',rfl⟩:=ry;exact PySem.EqNone.ne_none_str (fin_bl I q (by simp))
    | _=>exact absurd (show false=true from hs) Bool.false_ne_true
  | bl i =>
    cases rx
    cases y with
    | non=>cases ry;exact PySem.EqNone.ne_bool_none (fin_bl I q (by simp))
    | bl j=>cases ry;exact ne_bool (fin_bl I q (congrArg not dec_bl))
    | str j=>obtain ⟨t',rfl⟩:=ry;exact PySem.EqMixed.ne_bool_str (fin_bl I q (by simp))
    | _=>exact absurd (show false=true from hs) Bool.false_ne_true
  | int i =>
    obtain ⟨t,rfl⟩:=rx
    cases y with
    | non=>cases ry;exact PySem.EqNone.ne_int_none (fin_bl I q (by simp))
    | int j=>obtain ⟨t',rfl⟩:=ry;exact ne_int (fin_bl I q (congrArg not dec_int))
    | str j=>obtain ⟨t',rfl⟩:=ry;exact PySem.EqMixed.ne_int_str (fin_bl I q (by simp))
    | _=>exact absurd (show false=true from hs) Bool.false_ne_true
  | str i =>
    obtain ⟨t,rfl⟩:=rx
    cases y with
    | non=>cases ry;exact PySem.EqNone.ne_str_none (fin_bl I q (by simp))
    | bl j=>cases ry;exact PySem.EqMixed.ne_str_bool (fin_bl I q (by simp))
    | int j=>obtain ⟨t',rfl⟩:=ry;exact PySem.EqMixed.ne_str_int (fin_bl I q (by simp))
    | str j=>obtain ⟨t',rfl⟩:=ry;exact ne_str (fin_bl I q (congrArg not dec_str))
    | _=>exact absurd (show false=true from hs) Bool.false_ne_true
  | byt i =>
    obtain ⟨t,rfl⟩:=rx
    cases y with
    | byt j=>obtain ⟨t',rfl⟩:=ry;exact PySem.W.ne_bytes (fin_bl I q (congrArg not dec_byt))
    | _=>exact absurd (show false=true from hs) Bool.false_ne_true
  | _=>cases y <;> exact absurd (show false=true from hs) Bool.false_ne_true
theorem op_lt:OpR X (compareOp .Lt) (rI0 fun i j=>.bl (decide (i < j))):=opB0 fun _ _ _ _ _ _ _ q=>lt_int q
theorem op_lt_str:OpR X (compareOp .Lt) (fun x y H Q=>∃ i j,x = .str i∧y = .str j∧Q (.bl (decide (i.cps.toList < j.cps.toList))) H):=by
  intro pins s σ H x y v u Q I rx ry h
  obtain ⟨i,j,rfl,rfl,q⟩:=h
  obtain ⟨t,rfl⟩:=rx
  obtain ⟨t',rfl⟩:=ry
  exact lt_str (fin_bl I q rfl)
theorem nomark (b:Expr) {op:CmpOp} (h:op≠.In:=by decide) (h2:op≠.NotIn:=by decide):behindInMarks op b=false:=by
  have e1:(op == CmpOp.In)=false:=by cases op <;> first | rfl | exact absurd rfl h
  have e2:(op == CmpOp.NotIn)=false:=by cases op <;> first | rfl | exact absurd rfl h2
  cases b <;> simp [behindInMarks,e1,e2]
theorem pe_cmpR {op:CmpOp} {r:R2} (ho:OpR X (compareOp op) r) (ha:PE X a ta) (hb:PE X b tb) (hm:behindInMarks op b=false):PE X (.Compare a [op] [b] pos) (tOp r ta tb):=by
  intro pins s σ H Q I h
  exact wpAny_Compare1 (binT ha hb I h fun v u s2 x y H2 I2 rx ry q=>ho pins s2 σ H2 x y v u Q I2 rx ry q) hm
noncomputable def tTest (t:TE):TT:=fun σ H Q=>t σ H fun x H'=>∃ k,x = .bl k∧Q k H'
theorem pt_cmpR {op:CmpOp} {r:R2} (ho:OpR X (compareOp op) r) (ha:PE X a ta) (hb:PE X b tb) (hm:behindInMarks op b=false):PT X (.Compare a [op] [b] pos) (tTest (tOp r ta tb)):=by
  intro pins s σ H Q I h
  refine wpAny_isTrue_Compare1 (thn (ha pins s σ H _ I h) fun v s1 ⟨x,H1,I1,r1,q1⟩=>thn (hb pins s1 σ H1 _ I1 q1) fun u s2 ⟨y,H2,I2,r2,q2⟩ =>
    thn (ho pins s2 σ H2 x y v u _ I2 r1 r2 q2) fun c s3 ⟨z,H3,I3,r3,k,e,q3⟩=>?_) hm
  subst e
  cases r3
  exact wpAny_truthy_bool ⟨H3,I3,q3⟩
theorem line63:(sizeLine:Nat) < 2 ^ 63:=by rw [sizeLine_eq];decide
theorem op_add_str:OpR X (binaryOp .Add) (fun x y H Q=>∃ i j,x = .str i∧y = .str j∧i.length + j.length≤sizeLine∧Q (.str (i++j)) H):=by
  intro pins s σ H x y v u Q I rx ry h
  obtain ⟨i,j,rfl,rfl,hz,q⟩:=h
  obtain ⟨t,rfl⟩:=rx
  obtain ⟨t',rfl⟩:=ry
  exact add_str (fun t' tk=>⟨.str (i++j),H,I.tok _,⟨_,rfl⟩,q⟩) hz
noncomputable def PlainIxT (b:Expr):Prop:=∀ o i,subscripted b false o i=operate [o,i] (getItem o i)
theorem pe_item_str (ha:PE X a ta) (hb:PE X b tb) (hs:PlainIxT b) :
    PE X (.Subscript a b pos) (tOp (fun x y H Q=>∃ z i c,x = .str z∧y = .int i∧0≤i∧i < 2 ^ 63∧i < z.length∧z.cps[i.toNat]? = some c∧Q (.str ⟨#[c]⟩) H) ta tb):=by
  intro pins s σ H Q I h
  refine Subscript_ (binT ha hb I h fun v u s2 x y H2 I2 rx ry q=>?_)
  obtain ⟨z,i,c,rfl,rfl,h0,h63,h1,hc,q⟩:=q
  obtain ⟨t,rfl⟩:=rx
  obtain ⟨t',rfl⟩:=ry
  have e:seqIndex? i z.length=some i.toNat:=PySem.StrLaws.seqIndex_nonneg h0 h1
  exact tail_any (typeIs_str s2 z t) slot_str_getitem.lookup (getItem_str (c:=c) (by
    have e1:decide (i < -(2 ^ 63:Int))=false:=decide_eq_false (by omega)
    have e2:decide (i ≥ 2 ^ 63)=false:=decide_eq_false (by omega)
    rw [e1,e2] <;> rfl) (by rw [e];exact hc) ⟨.str ⟨#[c]⟩,H2,I2.tok _,⟨_,rfl⟩,q⟩) (hs _ _)
theorem vals1 {x:V} {us:List Value} (r:Vals [x] us):∃ u,us=[u]∧RelV x u:=by
  cases r with
  | cons r1 r2=>cases r2;exact ⟨_,rfl,r1⟩
theorem vals2 {x y:V} {us:List Value} (r:Vals [x,y] us):∃ u w',us=[u,w']∧RelV x u∧RelV y w':=by
  cases r with
  | cons r1 r2 =>
    cases r2 with
    | cons r3 r4=>cases r4;exact ⟨_,_,rfl,r1,r3⟩
end
end L2
namespace L2
open PySem PySem.Spec PyProof.Rows
section
variable {prog:Program} {w:World} {A:Around} {E:Value→Shared→Prop} {s:Shared} {K:PySem.W.Frag} {x dx C f:Addr} {mA:Str→Option Value} {name:Str} {v:Value}
end
theorem RelO.some_of {v:V} {o:Option Value} (r:RelO (some v) o):∃ u,o=some u∧RelV v u:=by
  cases o with
  | none=>exact (show False from r).elim
  | some u=>exact ⟨u,rfl,r⟩
section
variable {P:Program} {w:World} {H H':Hp} {h h':Heap} {a C dx:Addr} {fs fs':List (Str×V)}
end
section
variable {X:Cx} {pins:List (Addr×Obj)} {σ:St} {H:Hp} {s:Shared} {a C dx:Addr} {fs:List (Str×V)} {f:Str} {v:V} {A:Around} {E:Value→Shared→Prop}
end
section
variable {X:Cx} {o e value:Expr} {f:Str} {pos pos' tpos:Pos} {ta tv:TE}
end
section
variable {X:Cx} {pins:List (Addr×Obj)} {σ:St} {H:Hp} {s:Shared} {A:Around} {E:Value→Shared→Prop} {Q:Value→Shared→Prop} {c:Value} {b:Bool}
end
end L2
namespace L2
open PySem PySem.Spec PyProof.Rows
structure Room (k:Nat) (A:Around):Prop where
  hd:A.handled=none
  dp:A.depth + 3 * k + 5 < recursionLimit
  un:A.units + 16 * k + 200 < cLine
theorem Room.mono {j k:Nat} {A:Around} (r:Room k A) (h:j≤k):Room j A:=⟨r.hd,by have:=r.dp;omega,by have:=r.un;omega⟩
theorem Room.deeper {k:Nat} {A:Around} (r:Room (k + 1) A) (env:Env):Room k (A.deeper env) :=
  ⟨r.hd,by have:=r.dp;show A.depth + 1 + 3 * k + 5 < _;omega,by have:=r.un;show A.units + 3 + 16 * k + 200 < _;omega⟩
theorem Room.in1 {k:Nat} {A:Around} (r:Room (k + 1) A):Room k A.in1 :=
  ⟨r.hd,by have:=r.dp;show A.depth + 3 * k + 5 < _;omega,by have:=r.un;show A.units + 1 + 16 * k + 200 < _;omega⟩
theorem Room.depth {k:Nat} {A:Around} (r:Room k A):A.depth < recursionLimit:=by have:=r.dp;omega
theorem Room.units {k:Nat} {A:Around} (r:Room k A):A.units + 64 < cLine:=by have:=r.un;omega
noncomputable def tNil:TA:=fun _ H Q=>Q [] H
noncomputable def tCons (ta:TE) (tr:TA):TA:=fun σ H Q=>ta σ H fun x H1=>tr σ H1 fun xs H2=>Q (x :: xs) H2
section
variable {X:Cx} {e:Expr} {es:List Expr} {te:TE} {t:TA} {pos:Pos}
theorem pa_nil:PA X [] tNil:=fun _ _ _ _ H Q I h=>Calls.spliced_nil ⟨[],H,I,.nil,h⟩
theorem pa_cons (ha:PE X e te) (hr:PA X es t) (hs:starEach (e :: es) X.env=(false,eval e X.env) :: starEach es X.env:=by rfl):PA X (e :: es) (tCons te t):=by
  intro pos pins s σ H Q I h
  rw [hs]
  show wpAny _ _ (spliced ((false,eval e X.env) :: backTo pos (starEach es X.env))) _ _ s
  refine Calls.spliced_cons (thn (ha pins s σ H _ I h) fun u s1 hpq=>?_)
  obtain ⟨x,H1,I1,r1,q1⟩:=hpq
  exact thn (hr pos pins s1 σ H1 _ I1 q1) fun us s2 ⟨xs,H2,I2,r2,q2⟩=>⟨x :: xs,H2,I2,.cons r1 r2,q2⟩
noncomputable def tTup (t:TA):TE:=fun σ H Q=>t σ H fun xs H1=>xs.length≤sizeLine∧∀ p,H1 p=none→Q (.ref p) (upd H1 p (.tup xs))
noncomputable def tLst (t:TA):TE:=fun σ H Q=>t σ H fun xs H1=>xs.length≤sizeLine∧∀ p,H1 p=none→Q (.ref p) (upd H1 p (.lst xs))
theorem pe_tup {x1} (h:PA X es t):PE X (.Tuple es x1 pos) (tTup t):=by
  intro pins s σ H Q I hq
  refine wpAny_Tuple_spliced (thn (h pos pins s σ H _ I hq) fun us s1 ⟨xs,H1,I1,r,z,q⟩=>⟨by rw [← r.length];exact z,?_⟩)
  have hf:H1 s1.heap.objs.size=none:=I1.hok.fresh (Nat.le_refl _)
  refine ⟨.ref s1.heap.objs.size,upd H1 s1.heap.objs.size (.tup xs),I1.laid (t':=s1.toks) (fun b u e=>Heap.get?_push_of_some _ e) (Nat.le_refl _) ?_,rfl,q _ hf⟩
  exact ⟨z,us,r,⟨_,Heap.get?_push_size _ rfl,rfl,_,rfl⟩⟩
theorem pe_lst (h:PA X es t):PE X (.List es pos) (tLst t):=by
  intro pins s σ H Q I hq
  refine wpAny_List_spliced (thn (h pos pins s σ H _ I hq) fun us s1 ⟨xs,H1,I1,r,z,q⟩=>⟨by rw [← r.length];exact z,?_⟩)
  have hf:H1 s1.heap.objs.size=none:=I1.hok.fresh (Nat.le_refl _)
  refine ⟨.ref s1.heap.objs.size,upd H1 s1.heap.objs.size (.lst xs),I1.laid (t':=s1.toks) (fun b u e=>Heap.get?_push_of_some _ e) (Nat.le_refl _) ?_,rfl,q _ hf⟩
  exact ⟨z,us,0,r,Heap.get?_push_size _ rfl⟩
end
noncomputable abbrev Sp:=List V→Hp→VK→XK→Prop
noncomputable abbrev CXT:=List Env→Hp→Shared→XK→Value→Shared→Prop
structure Env0 (P:Program) (w:World) (K:PySem.W.Frag) (mg:Str→Option Value) (base:Heap) (A:Around) (outer:List Env) (s:Shared) (H:Hp):Prop where
  frames:A.frames=some outer
  mod:Mod K mg base
  bs:∀ b o,base.get? b=some o→s.heap.get? b=some o∧H b=none
  bsz:base.objs.size≤s.heap.objs.size
  funs:s.heap.FunFrames base outer
  frf:∀ b∈frs outer,H b=none
  hok:HOk P w H s.heap
  bare:AllBare s.gens
noncomputable def CE (outer:List Env) (P:Program) (w:World) (H:Hp) (s:Shared) (Q:VK) (u:Value) (s':Shared):Prop :=
  ∃ v H',s'.os=s.os∧AllBare s'.gens∧Un (frs outer) [] H H' s.heap s'.heap∧HOk P w H' s'.heap∧RelV v u∧Q v H'
noncomputable def CR (CX:CXT) (outer:List Env) (P:Program) (w:World) (H:Hp) (s:Shared) (Q:VK) (E:XK) (r:Result) (s':Shared):Prop :=
  match r with
  | .ok (.ret u)=>CE outer P w H s Q u s'
  | .ok _=>False
  | .error e=>CX outer H s E e s'
structure FnOk (P:Program) (w:World) (K:PySem.W.Frag) (mg:Str→Option Value) (base:Heap) (CX:CXT) (k:Nat) (f:Addr) (fd:FuncData) (ps:List Str) (sp:Sp):Prop where
  len:∀ vs H Q E,sp vs H Q E→vs.length=ps.length
  run:∀ (A:Around) (outer:List Env) (s:Shared) (H:Hp) (args:Args) (us:List Value) (vs:List V) (Q:VK) (E:XK),Room k A→Env0 P w K mg base A outer s H→BindsTo s fd args (ps.zip us)→Vals vs us→sp vs H Q E →
    codeAny (model P w) A (.call (.ref f) args) (CR CX outer P w H s Q E) s
theorem Env0.in1 {P:Program} {w:World} {K:PySem.W.Frag} {mg:Str→Option Value} {base:Heap} {A:Around} {outer:List Env} {s:Shared} {H:Hp} (e:Env0 P w K mg base A outer s H) :
    Env0 P w K mg base A.in1 outer s H:=⟨e.frames,e.mod,e.bs,e.bsz,e.funs,e.frf,e.hok,e.bare⟩
section
variable {X:Cx} {pins:List (Addr×Obj)} {σ:St} {H:Hp} {s s':Shared}
theorem Inv.env0 (I:Inv X pins σ H s):Env0 X.prog X.w X.K X.mg X.base X.A X.stack s H :=
  ⟨I.ok.frames,I.ok.mod,I.bs,Nat.le_trans I.ok.bsz I.sz,I.stack,I.stkFree,I.hok,I.bare⟩
theorem Inv.after {Q:VK} {u:Value} (I:Inv X pins σ H s) (h:CE X.stack X.prog X.w H s Q u s'):EP X pins σ Q u s':=by
  obtain ⟨v,H',os,bare,un,hok,r,q⟩:=h
  obtain ⟨hh,g,d,t,os'⟩:=s'
  obtain rfl:os'=s.os:=os
  exact ⟨v,H',I.call (h':=hh) (g':=g) (d':=d) (t':=t) (ch:=[]) un hok bare (fun b z=>absurd z (by simp)),r,q⟩
end
noncomputable def tCall (sp:Sp) (dvs:List V) (E:XK) (t:TA):TE:=fun σ H Q=>t σ H fun vs H1=>sp (vs++dvs) H1 Q E
noncomputable def Binds (K:PySem.W.Frag) (fd:FuncData) (ps:List Str) (ds:List Value):Prop :=
  ∀ (s:Shared) (us:List Value),K.In s.heap→(us++ds).length=ps.length→BindsTo s fd ⟨us,[]⟩ (ps.zip (us++ds))
theorem Binds.all {K:PySem.W.Frag} {fd:FuncData} {ps:List Str} (h:∀ us:List Value,us.length=ps.length→bindArgs fd ⟨us,[]⟩=pure (ps.zip us)):Binds K fd ps []:=fun s us _ hl=>by
  rw [List.append_nil] at hl ⊢
  exact .of_eq (h us hl)
noncomputable def Passes (CX:CXT) (X:Cx) (E:XK):Prop:=∀ (pins:List (Addr×Obj)) (σ:St) (H:Hp) (s:Shared) (e:Value) (s':Shared),Inv X pins σ H s→CX X.stack H s E e s'→X.xe e s'
section
variable {X:Cx} {CX:CXT} {k:Nat} {f C:Addr} {fd:FuncData} {ps:List Str} {sp:Sp} {dvs:List V} {ds:List Value} {E:XK} {x m:Str} {p pos apos:Pos} {e o:Expr} {es:List Expr} {ta:TE} {t:TA}
theorem run_fn {pins:List (Addr×Obj)} {σ:St} {H:Hp} {s:Shared} {Q:VK} {us:List Value} {vs:List V} (F:FnOk X.prog X.w X.K X.mg X.base CX k f fd ps sp) (hr:Room k X.A) (hb:Binds X.K fd ps ds) (hd:Vals dvs ds) (hx:Passes CX X E)
    (I:Inv X pins σ H s) (r:Vals vs us) (h:sp (vs++dvs) H Q E):wpAny (model X.prog X.w) X.A (call (.ref f) us) (EP X pins σ Q) X.xe s:=by
  have r2:Vals (vs++dvs) (us++ds):=r.append hd
  have hl:(us++ds).length=ps.length:=by rw [← r2.length];exact F.len _ _ _ _ h
  refine wpAny_call (codeAny_mono (F.run X.A X.stack s H ⟨us,[]⟩ (us++ds) (vs++dvs) Q E hr I.env0 (hb s us I.kIn hl) r2 h) fun r s' hq=>?_)
  cases r with
  | error e=>exact hx pins σ H s e s' I hq
  | ok fl =>
    cases fl with
    | ret u=>exact I.after hq
    | next=>exact False.elim hq
    | brk=>exact False.elim hq
    | cont=>exact False.elim hq
theorem pe_call (F:FnOk X.prog X.w X.K X.mg X.base CX k f fd ps sp) (hr:Room k X.A) (hg:Gl X x) (hm:X.mg x=some (.ref f)) (hk:PySem.W.keepIn X.K (.ref f)=true) (hb:Binds X.K fd ps ds) (hd:Vals dvs ds) (hx:Passes CX X E)
    (ha:PA X (e :: es) t) (hdb:(x == ("__debug__":Str))=false:=by decide) (he:starEach (e :: es) X.env=(false,eval e X.env) :: starEach es X.env:=by rfl) (hpl:(backTo pos (starEach es X.env)).any (·.1)=false:=by rfl) :
    PE X (.Call (.Name x p) (e :: es) [] pos) (tCall sp dvs E t):=by
  intro pins s σ H Q I h
  refine wpAny_Call_Name_kw (ld_glob I hg hm ?_ hdb)
  refine PySem.W.callWith_K (h₀:=X.base) I.ok.mod.kin hk (thn (ha pos pins s σ H _ I h) fun us s1 ⟨vs,H1,I1,r,q⟩=>⟨I1.kIn,?_⟩) he hpl
  exact run_fn F hr hb hd hx I1 r q
end
section
variable {X:Cx} {CX:CXT} {k:Nat} {f C:Addr} {fd:FuncData} {ps ks:List Str} {sp:Sp} {E:XK} {x m:Str} {p pos apos kpos:Pos} {e o:Expr} {es:List Expr} {kws:List Keyword} {te ta:TE} {t tk:TA} {nm:Option Str}
variable {g:List Value→List Value→List Value} {gV:List V→List V→List V}
end
structure FnScope (N P:List Str) (sc:Scope):Prop where
  kind:sc.kind = .function
  co:sc.isCoroutine=false
  gen:sc.isGenerator=false
  nd:N.Nodup
  pre:N.take P.length=P
  par:∀ x∈P,sc.names.lookup x=some .local∨sc.names.lookup x=some .cell
  nofree:∀ y∈sc.names,y.2≠.free
theorem bindL_out {kindOf:Str→Option NameKind} {x:Str}:∀ {binds:List (Str×Value)} {m:Str→Option Value},(∀ v,(x,v) ∉ binds)→bindL kindOf binds m x=m x
  | [],_,_=>rfl
  | (n,v) :: r,m,h=>by
    unfold bindL
    rw [bindL_out fun w hw=>h w (List.mem_cons_of_mem _ hw)]
    split
    · have:x≠n:=by rintro rfl;exact h v List.mem_cons_self
      simp [this]
    · rfl
theorem bindC_out {kindOf:Str→Option NameKind} {x:Str}:∀ {binds:List (Str×Value)} {m:Str→Option Value},(∀ v,(x,v) ∉ binds)→bindC kindOf binds m x=m x
  | [],_,_=>rfl
  | (n,v) :: r,m,h=>by
    unfold bindC
    rw [bindC_out fun w hw=>h w (List.mem_cons_of_mem _ hw)]
    split
    · rfl
    · have:x≠n:=by rintro rfl;exact h v List.mem_cons_self
      simp [this]
theorem bindL_get {kindOf:Str→Option NameKind} {x:Str} {v:Value}:∀ {P:List Str} {vs:List Value} {i:Nat} {m:Str→Option Value},P.Nodup→P[i]? = some x→vs[i]? = some v→kindOf x=some .local →
    bindL kindOf (P.zip vs) m x=some v
  | [],_,_,_,_,h,_,_=>by simp at h
  | _ :: _,[],_,_,_,_,h,_=>by simp at h
  | p :: P,w :: vs,0,m,nd,h1,h2,hk=>by
    simp at h1 h2;subst h1;subst h2
    show bindL kindOf ((p,w) :: P.zip vs) m p=_
    unfold bindL
    rw [bindL_out fun v hv=>(List.nodup_cons.mp nd).1 (List.of_mem_zip hv).1,if_pos hk]
    simp
  | p :: P,w :: vs,i + 1,m,nd,h1,h2,hk=>by
    show bindL kindOf ((p,w) :: P.zip vs) m x=_
    unfold bindL
    exact bindL_get (i:=i) (List.nodup_cons.mp nd).2 (by simpa using h1) (by simpa using h2) hk
theorem bindC_get {kindOf:Str→Option NameKind} {x:Str} {v:Value}:∀ {P:List Str} {vs:List Value} {i:Nat} {m:Str→Option Value},P.Nodup→P[i]? = some x→vs[i]? = some v→kindOf x≠some .local →
    bindC kindOf (P.zip vs) m x=some v
  | [],_,_,_,_,h,_,_=>by simp at h
  | _ :: _,[],_,_,_,_,h,_=>by simp at h
  | p :: P,w :: vs,0,m,nd,h1,h2,hk=>by
    simp at h1 h2;subst h1;subst h2
    show bindC kindOf ((p,w) :: P.zip vs) m p=_
    unfold bindC
    rw [bindC_out fun v hv=>(List.nodup_cons.mp nd).1 (List.of_mem_zip hv).1,if_neg hk]
    simp
  | p :: P,w :: vs,i + 1,m,nd,h1,h2,hk=>by
    show bindC kindOf ((p,w) :: P.zip vs) m x=_
    unfold bindC
    exact bindC_get (i:=i) (List.nodup_cons.mp nd).2 (by simpa using h1) (by simpa using h2) hk
noncomputable def start (N:List Str) (vs:List V):St:=vs.map some++List.replicate (N.length - vs.length) none
noncomputable def cxOf (CX:CXT) (P:Program) (w:World) (K:PySem.W.Frag) (mg:Str→Option Value) (base:Heap) (N:List Str) (qual:Str) (scope:Scope) (f:Addr) (cd:Value) (A:Around) (outer:List Env) (s:Shared) (H:Hp) (E:XK):Cx where
  prog:=P
  w:=w
  K:=K
  mg:=mg
  base:=base
  A:=A.deeper (envOfC qual scope s.heap.objs.size f cd)
  N:=N
  s₀:=s
  H₀:=H
  env:=envOfC qual scope s.heap.objs.size f cd
  outer:=outer
  stack:=envOfC qual scope s.heap.objs.size f cd :: outer
  ex:=[]
  calm:=true
  fn:=fun _=>true
  pn:=[]
  xe:=fun e s'=>wpAny (model P w) (A.deeper (envOfC qual scope s.heap.objs.size f cd)) (leaving (envOfC qual scope s.heap.objs.size f cd) e) (fun _ s''=>CX outer H s E e s'') (fun e' s''=>CX outer H s E e' s'') s'
theorem cell_has {sc:Scope} {n:Nat} {x:Str} (h:sc.names.lookup x=some .cell):∃ c,(cellsFrom n sc.names []).lookup x=some c:=by
  have q:=PySem.W.cellsFrom_some sc.names n [] (.inl h)
  exact Option.isSome_iff_exists.mp q
theorem inv_start {CX:CXT} {P:Program} {w:World} {K:PySem.W.Frag} {mg:Str→Option Value} {base:Heap} {N ps:List Str} {qual:Str} {scope:Scope} {f:Addr} {cd:Value} {A:Around} {outer:List Env} {s s1:Shared} {H:Hp} {E:XK} {us:List Value} {vs:List V}
    (S:FnScope N ps scope) (hd:A.handled=none) (e0:Env0 P w K mg base A outer s H) (hl:vs.length=ps.length) (r:Vals vs us)
    (x:InCallC s s.heap.objs.size (bindL (envOfC qual scope s.heap.objs.size f cd).kindOf (ps.zip us) fun _=>none) (cellsFrom (s.heap.objs.size + 1) scope.names []) (bindC (envOfC qual scope s.heap.objs.size f cd).kindOf (ps.zip us) fun _=>none) s1) :
    Inv (cxOf CX P w K mg base N qual scope f cd A outer s H E) [] (start N vs) H s1:=by
  have hpl:ps.length≤N.length:=by have:=congrArg List.length S.pre;rw [List.length_take] at this;omega
  obtain ⟨h1,tk,rfl,hk⟩:=x.done
  have noA:∀ b:Addr,b ∉ (cxOf CX P w K mg base N qual scope f cd A outer s H E).ex:=fun b z=>absurd (show b∈([]:List Addr) from z) (by simp)
  refine ⟨⟨e0.mod,S.kind,rfl,rfl,Nat.le_refl _,fun y z c h1 h2=>?_,fun y hy=>?_,fun y c _ h=>?_,fun _=>hd,Around.frames_deeper e0.frames,.inr ⟨rfl,rfl⟩,fun b z=>absurd z (noA b),e0.bs,e0.bsz,fun b _ _=>noA b,fun b z=>absurd z (noA b),e0.funs,e0.frf⟩,
    rfl,e0.bare,Un.kept hk,⟨_,x.toInCall.ns,fun i y v h1 h2 h3=>?_⟩,fun y c h=>⟨_,x.cell y c h⟩,e0.hok.fresh (Nat.le_refl _),fun y c h=>?_,fun p hp=>absurd (show p∈([]:List (Addr×Obj)) from hp) (by simp),e0.hok.kept hk,?_⟩
  · exact name_of_addr x.apart (PySem.mem_of_lookup h1) (PySem.mem_of_lookup h2)
  · have hy:scope.names.lookup y=some .cell∨scope.names.lookup y=some .free:=hy
    rcases hy with hy | hy
    · exact cell_has hy
    · exact absurd rfl (S.nofree _ (PySem.mem_of_lookup hy))
  · exact Nat.le_of_lt (x.above y c (PySem.mem_of_lookup h))
  · have hi:i < vs.length:=by
      unfold start at h2
      by_cases hi:i < vs.length
      · exact hi
      · rw [List.getElem?_append_right (by simpa using hi)] at h2
        rw [List.getElem?_replicate] at h2
        split at h2 <;> cases h2
    have ha:vs[i]? = some v:=by
      unfold start at h2
      rw [List.getElem?_append_left (by simpa using hi),List.getElem?_map] at h2
      cases e:vs[i]? with
      | none=>rw [e] at h2;cases h2
      | some a=>rw [e] at h2;cases h2;rfl
    obtain ⟨u,hu,rv⟩:=r.get ha
    have hp:ps[i]? = some y:=by
      rw [← S.pre,List.getElem?_take_of_lt (by omega)];exact h1
    have ndP:ps.Nodup:=by rw [← S.pre];exact S.nd.sublist (List.take_sublist _ _)
    refine ⟨u,rv,?_⟩
    rcases S.par y (List.mem_of_getElem? hp) with k | k
    · exact .inl ⟨k,bindL_get ndP hp hu k⟩
    · obtain ⟨c,e⟩:=cell_has (n:=s.heap.objs.size + 1) k
      refine .inr ⟨.inl k,c,e,?_⟩
      have q:=x.cell y c e
      rw [bindC_get ndP hp hu (by show scope.names.lookup y≠_;rw [k];decide)] at q
      exact q
  · exact e0.hok.fresh (Nat.le_of_lt (x.above y c (PySem.mem_of_lookup h)))
  · unfold start
    show _=N.length
    rw [List.length_append,List.length_map,List.length_replicate]
    omega
theorem fn_of {CX:CXT} {P:Program} {w:World} {K:PySem.W.Frag} {mg:Str→Option Value} {base:Heap} {k:Nat} {f:Addr} {name qual:Str} {params:Arguments} {body:List Stmt} {scope:Scope} {dV kV doc pm cdv ct oc:Value} {an od:Option Addr}
    {osl:Array (Option Value)} {N ps:List Str} {sp:Sp} (lk:K.lookup f=some ⟨oc,od,.func (PySem.W.fnOf name qual params body scope dV kV doc pm an cdv ct),osl⟩) (hcd:PySem.W.codeIn K cdv qual=true) (S:FnScope N ps scope)
    (len:∀ vs H Q E,sp vs H Q E→vs.length=ps.length)
    (hbody:∀ (A:Around) (outer:List Env) (s:Shared) (H:Hp) (vs:List V) (Q:VK) (E:XK),Room k (A.deeper (envOfC qual scope s.heap.objs.size f cdv))→sp vs H Q E →
      ∃ t,PSs (cxOf CX P w K mg base N qual scope f cdv A outer s H E) body t∧t { nx:=fun _ H'=>Q .non H',rt:=Q } (start N vs) H) :
    FnOk P w K mg base CX (k + 1) f (PySem.W.fnOf name qual params body scope dV kV doc pm an cdv ct) ps sp:=by
  refine ⟨len,fun A outer s H args us vs Q E hr e0 hb r hsp=>?_⟩
  have hl:=len _ _ _ _ hsp
  have KX:K.In s.heap:=e0.mod.kin.keeps fun b o e=>(e0.bs b o e).1
  have lim:s.heap.NoLimit:=e0.mod.nolimit.keeps fun b o e=>(e0.bs b o e).1
  have hkind:∀ y∈ps.zip us,scope.names.lookup y.1=some .local∨(scope.names.lookup y.1=some .cell∧((cellsFrom (s.heap.objs.size + 1) scope.names []).lookup y.1).isSome=true):=fun ⟨n,v⟩ hy=>by
    rcases S.par n (List.of_mem_zip hy).1 with q | q
    · exact .inl q
    · exact .inr ⟨q,PySem.W.cellsFrom_some _ _ _ (.inl q)⟩
  refine codeAny_call_function hr.depth (KX _ _ lk) rfl S.co S.gen rfl (PySem.W.codeRec_of KX hcd) (hb _ _ _ _ ?_)
  refine wpAny_newFunctionEnv_cells S.kind hkind fun env he s1 x=>?_
  subst he
  refine ⟨lim.keeps x.toInCall.keep,codeAny_func ?_⟩
  obtain ⟨t,ht,hq⟩:=hbody A outer s H vs Q E (hr.deeper _) hsp
  have I:Inv (cxOf CX P w K mg base N qual scope f cdv A outer s H E) [] (start N vs) H s1:=inv_start S hr.hd e0 hl r x
  refine wpAny_mono (ht [] s1 (start N vs) H _ I hq) (fun fl s' hs=>?_) fun e s' hs=>hs
  have fin:∀ {σ':St} {H':Hp} {v:V} {u:Value},Inv (cxOf CX P w K mg base N qual scope f cdv A outer s H E) [] σ' H' s'→RelV v u→Q v H'→CE outer P w H s Q u s' :=
    fun {σ' H' v u} J rv q=>⟨v,H',J.os,J.bare,J.base,J.hok,rv,q⟩
  cases fl with
  | ret u =>
    obtain ⟨v,σ',H',J,rv,q⟩:=hs
    exact fin J rv q
  | next =>
    obtain ⟨σ',H',J,q⟩:=hs
    exact fin (v:=V.non) (u:=Value.none) J rfl q
  | brk =>
    obtain ⟨_,_,_,q⟩:=hs
    exact False.elim q
  | cont =>
    obtain ⟨_,_,_,q⟩:=hs
    exact False.elim q
end L2
namespace L2
open PySem PySem.Spec PyProof.Rows
section
variable {X:Cx} {x:Str} {p pos:Pos} {e:Expr} {es:List Expr} {t:TA} {id T:String} {r:List V→Hp→VK→Prop}
noncomputable def tCB (r:List V→Hp→VK→Prop) (t:TA):TE:=fun σ H Q=>t σ H fun vs H1=>r vs H1 Q
theorem pe_callB (hc:CallR X (.builtin id) r) (hg:Gl X x) (hm:X.mg x=none) (hv:bootBuiltins x=some (.builtin id)) (ha:PA X (e :: es) t) (hn:x≠"__name__":=by decide) (hdb:(x == ("__debug__":Str))=false:=by decide)
    (he:starEach (e :: es) X.env=(false,eval e X.env) :: starEach es X.env:=by rfl) (hpl:(backTo pos (starEach es X.env)).any (·.1)=false:=by rfl):PE X (.Call (.Name x p) (e :: es) [] pos) (tCB r t):=by
  intro pins s σ H Q I h
  refine wpAny_Call_Name_kw (ld_blt I hg hm hv ?_ hn hdb)
  exact PyProof.Rows.callWith_builtin1 (thn (ha pos pins s σ H _ I h) fun us s1 ⟨vs,H1,I1,r1,q1⟩=>hc pins s1 σ H1 vs us Q I1 r1 q1) he hpl
theorem pe_callTy (hc:CallR X (.type T) r) (hg:Gl X x) (hm:X.mg x=none) (hv:bootBuiltins x=some (.type T)) (ha:PA X (e :: es) t) (hn:x≠"__name__":=by decide) (hdb:(x == ("__debug__":Str))=false:=by decide)
    (he:starEach (e :: es) X.env=(false,eval e X.env) :: starEach es X.env:=by rfl) (hpl:(backTo pos (starEach es X.env)).any (·.1)=false:=by rfl):PE X (.Call (.Name x p) (e :: es) [] pos) (tCB r t):=by
  intro pins s σ H Q I h
  refine wpAny_Call_Name_kw (ld_blt I hg hm hv ?_ hn hdb)
  exact PyProof.Rows.callWith_type1 (thn (ha pos pins s σ H _ I h) fun us s1 ⟨vs,H1,I1,r1,q1⟩=>hc pins s1 σ H1 vs us Q I1 r1 q1) he hpl
end
end L2
namespace HT
open PySem PyProof.Rows
section
open PySem.SeqAt
open PySem.AutoSeq1 (wpAny_loadPart')
open PySem.MeetsSeq PySem.MeetsSeq2 PySem.MeetsSeq3
end
section
variable {prog:Program} {w:World} {A:Around} {E:Value→Shared→Prop} {s:Shared}
end
end HT
namespace L2
open PySem PySem.Spec PyProof.Rows
noncomputable abbrev TO:=St→Hp→(Option Int→Hp→Prop)→Prop
noncomputable def PO (X:Cx) (e:Option Expr) (t:TO):Prop :=
  ∀ (pins:List (Addr×Obj)) (s:Shared) (σ:St) (H:Hp) (Q:Option Int→Hp→Prop),Inv X pins σ H s→t σ H Q →
    wpAny (model X.prog X.w) X.A (evalPart e X.env) (fun u s'=>∃ o H',Inv X pins σ H' s'∧IsPart u o∧Q o H') X.xe s
noncomputable def tNoPart:TO:=fun _ H Q=>Q none H
noncomputable def tPart (t:TE):TO:=fun σ H Q=>t σ H fun x H1=>∃ i,x = .int i∧Q (some i) H1
section
variable {X:Cx} {e:Expr} {te:TE} {lo hi:Option Expr} {tl th:TO} {pos p2:Pos}
theorem po_none:PO X none tNoPart:=by
  intro pins s σ H Q I h
  rw [evalPart_none]
  exact wpAny_pure ⟨none,H,I,.none,h⟩
theorem po_some (h:PE X e te):PO X (some e) (tPart te):=by
  intro pins s σ H Q I hw
  rw [evalPart_some]
  refine thn (h pins s σ H _ I hw) fun u s1 hpq=>?_
  obtain ⟨x,H1,I1,r1,q1⟩:=hpq
  obtain ⟨i,rfl,q⟩:=q1
  obtain ⟨t,rfl⟩:=r1
  exact ⟨some i,H1,I1,.int i t,q⟩
noncomputable def SlR (X:Cx) (r:V→Option Int→Option Int→Hp→VK→Prop):Prop :=
  ∀ (pins:List (Addr×Obj)) (s:Shared) (σ:St) (H:Hp) (x:V) (v vl vu:Value) (lo hi:Option Int) (sl:Addr) (Q:VK),Inv X pins σ H s→RelV x v→s.heap.IsSliceOf sl vl vu .none→IsPart vl lo→IsPart vu hi→r x lo hi H Q →
    ∃ T id,typeLookup (.type T) "__getitem__" = pure (some (.builtin id))∧s.TypeIs v T∧wpAny (model X.prog X.w) X.A (getItem v (.ref sl)) (EP X pins σ Q) X.xe s
noncomputable def tSl (r:V→Option Int→Option Int→Hp→VK→Prop) (te:TE) (tl th:TO):TE:=fun σ H Q=>te σ H fun x H1=>tl σ H1 fun l H2=>th σ H2 fun u H3=>r x l u H3 Q
theorem pe_slice {r:V→Option Int→Option Int→Hp→VK→Prop} (hr:SlR X r) (he:PE X e te) (hl:PO X lo tl) (hu:PO X hi th):PE X (.Subscript e (.Slice lo hi none p2) pos) (tSl r te tl th):=by
  intro pins s σ H Q I h
  refine Subscript_ (thn (he pins s σ H _ I h) fun v s1 hpq=>?_)
  obtain ⟨x,H1,I1,r1,q1⟩:=hpq
  refine wpAny_Slice (thn (hl pins s1 σ H1 _ I1 q1) fun vl s2 ⟨l,H2,I2,pl,q2⟩=>thn (hu pins s2 σ H2 _ I2 q2) fun vu s3 hpq=>?_)
  obtain ⟨u,H3,I3,pu,q3⟩:=hpq
  rw [evalPart_none]
  refine wpAny_pure ?_
  have I4:Inv X pins σ H3 { s3 with heap:=s3.heap.push { cls:=.type "slice",data:=.fields #[vl,vu,.none] } }:=I3.kept (t':=s3.toks) fun b ob q=>Heap.get?_push_of_some _ q
  obtain ⟨T,id,hT,ht,hg⟩:=hr pins { s3 with heap:=s3.heap.push { cls:=.type "slice",data:=.fields #[vl,vu,.none] } } σ H3 x v vl vu l u s3.heap.objs.size Q I4 r1 (Heap.IsSliceOf.new ..) pl pu q3
  show wpAny (model X.prog X.w) X.A (subscriptTail e (.Slice lo hi none p2) v (.ref s3.heap.objs.size)) (EP X pins σ Q) X.xe { s3 with heap:=s3.heap.push { cls:=.type "slice",data:=.fields #[vl,vu,.none] } }
  exact tail_any (ops:=[.ref s3.heap.objs.size,v]) ht hT hg (by with_unfolding_all rfl)
end
end L2
namespace L2
open PySem PySem.Spec PyProof.Rows
noncomputable def ixN (n:Nat) (i:Int):Option Nat:=if 0≤i then (if i < n then some i.toNat else none) else if -(n:Int)≤i then some (i + n).toNat else none
noncomputable def atI {α:Type} (xs:List α) (i:Int):Option α:=(ixN xs.length i).bind fun j=>xs[j]?
theorem ixN_seq {n:Nat} {i:Int} {j:Nat} (h:ixN n i=some j):seqIndex? i n=some j∧j < n∧-(n:Int)≤i∧i < n:=by
  unfold ixN at h
  by_cases h0:0≤i
  · rw [if_pos h0] at h
    by_cases h1:i < n
    · rw [if_pos h1] at h
      have e:i.toNat=j:=Option.some.inj h
      exact ⟨by rw [seqIndex_of h0 h1,e],by omega,by omega,h1⟩
    · rw [if_neg h1] at h;cases h
  · rw [if_neg h0] at h
    by_cases h1:-(n:Int)≤i
    · rw [if_pos h1] at h
      have e:(i + n).toNat=j:=Option.some.inj h
      exact ⟨by rw [seqIndex_neg (by omega) h1,e],by omega,h1,by omega⟩
    · rw [if_neg h1] at h;cases h
theorem atI_get {α:Type} {xs:List α} {i:Int} {v:α} (h:atI xs i=some v):∃ j,seqIndex? i xs.length=some j∧xs[j]? = some v∧j < xs.length∧-(xs.length:Int)≤i∧i < xs.length:=by
  unfold atI at h
  cases e:ixN xs.length i with
  | none=>rw [e] at h;cases h
  | some j =>
    rw [e] at h
    obtain ⟨h1,h2,h3,h4⟩:=ixN_seq e
    exact ⟨j,h1,h,h2,h3,h4⟩
theorem atI_nat {α:Type} {xs:List α} {j:Nat} {v:α} (h:xs[j]? = some v):atI xs (j:Int)=some v:=by
  have hj:j < xs.length:=(List.getElem?_eq_some_iff.mp h).1
  have e:ixN xs.length (j:Int)=some j:=by
    unfold ixN
    rw [if_pos (by omega),if_pos (by omega)];simp
  unfold atI;rw [e];exact h
noncomputable def PlainIx (b:Expr):Prop:=∀ o i,subscripted b false o i=operate [o,i] (getItem o i)
noncomputable def IxR (X:Cx) (r:R2):Prop :=
  ∀ (value slice:Expr) (pins:List (Addr×Obj)) (s:Shared) (σ:St) (H:Hp) (x y:V) (v u:Value) (Q:VK),Inv X pins σ H s→RelV x v→RelV y u→r x y H Q →
    subscripted slice false v u=operate [v,u] (getItem v u)→wpAny (model X.prog X.w) X.A (subscriptTail value slice v u) (EP X pins σ Q) X.xe s
noncomputable def MtR (X:Cx) (id:String) (r:V→List V→Hp→VK→Prop):Prop :=
  ∀ (pins:List (Addr×Obj)) (s:Shared) (σ:St) (H:Hp) (x:V) (xs:List V) (v:Value) (us:List Value) (Q:VK),Inv X pins σ H s→RelV x v→Vals xs us→r x xs H Q →
    wpAny (model X.prog X.w) X.A (call (.builtin id) (v :: us)) (EP X pins σ Q) X.xe s
section
variable {X:Cx} {a b:Expr} {ta tb:TE} {pos:Pos}
theorem pe_ix {r:R2} (hr:IxR X r) (ha:PE X a ta) (hb:PE X b tb) (hs:PlainIx b):PE X (.Subscript a b pos) (tOp r ta tb):=by
  intro pins s σ H Q I h
  exact Subscript_ (binT ha hb I h fun v u s2 x y H2 I2 rx ry q=>hr a b pins s2 σ H2 x y v u Q I2 rx ry q (hs _ _))
noncomputable def rIxL (K:PySem.W.Frag):R2:=fun x y H Q=>∃ p xs i v,x = .ref p∧y = .int i∧SqL K H p xs∧atI xs i=some v∧Q v H
noncomputable def rIxT (K:PySem.W.Frag):R2:=fun x y H Q=>∃ p xs i v,x = .ref p∧y = .int i∧SqT K H p xs∧atI xs i=some v∧Q v H
theorem ix_list:IxR X (rIxL X.K):=by
  intro value slice pins s σ H x y v u Q I rx ry h hs
  obtain ⟨p,xs,i,z,rfl,rfl,hq,he,q⟩:=h
  cases rx
  obtain ⟨t,rfl⟩:=ry
  obtain ⟨its,r,pl,hz⟩:=I.list hq
  obtain ⟨j,h1,h2,h3,h4,h5⟩:=atI_get he
  obtain ⟨w,ew,rw'⟩:=r.get h2
  have hl:=r.length
  have hn:=line63
  have fin:EP X pins σ Q w s:=⟨z,H,I,rw',q⟩
  by_cases h0:0≤i
  · have hj:i.toNat=j:=by
      rw [seqIndex_of h0 h5] at h1
      exact Option.some.inj h1
    exact item_listR pl.isList h0 (by omega) (by rw [hj];simpa using ew) fin hs
  · have hj:(i + (its.toArray.size:Int)).toNat=j:=by
      rw [seqIndex_neg (by omega) h4] at h1
      rw [List.size_toArray,← hl]
      exact Option.some.inj h1
    exact subscriptTail_builtinR (x:=w) pl.isList.typeIs slot_list_getitem.lookup
      (wpAny_getItem_list_neg (Q:=fun r s'=>r=w∧EP X pins σ Q r s') pl.isList (by omega) (by rw [List.size_toArray] <;> omega) (by omega) (by rw [hj];simpa using ew) ⟨rfl,fin⟩) hs
theorem ix_tup:IxR X (rIxT X.K):=by
  intro value slice pins s σ H x y v u Q I rx ry h hs
  obtain ⟨p,xs,i,z,rfl,rfl,hq,he,q⟩:=h
  cases rx
  obtain ⟨t,rfl⟩:=ry
  obtain ⟨its,r,pl,hz⟩:=I.tuple hq
  obtain ⟨j,h1,h2,h3,h4,h5⟩:=atI_get he
  obtain ⟨w,ew,rw'⟩:=r.get h2
  have hl:=r.length
  have hn:=line63
  have fin:EP X pins σ Q w s:=⟨z,H,I,rw',q⟩
  exact subscriptTail_builtinR (x:=w) pl.typeIs slot_tuple_getitem.lookup
    (getItem_tuple (j:=j) (Q:=fun r s'=>r=w∧EP X pins σ Q r s') pl (by omega) (by omega) (by rw [List.size_toArray,← hl];exact h1) (by simpa using ew) ⟨rfl,fin⟩) hs
theorem call_len_seq:CallR X (.builtin "len") (fun xs H Q=>∃ p ys,xs=[.ref p]∧(SqL X.K H p ys∨SqT X.K H p ys)∧Q (.int ys.length) H):=by
  intro pins s σ H xs us Q I r h
  obtain ⟨p,ys,rfl,hq,q⟩:=h
  obtain ⟨u,rfl,rx⟩:=vals1 r
  cases rx
  have hn:=line63
  rcases hq with hq | hq
  · obtain ⟨its,r',pl,hz⟩:=I.list hq
    have hlen:=r'.length
    exact Calls.call_len_list pl.isList (by simp only [List.size_toArray] <;> omega) ⟨.int ys.length,H,I.tok _,⟨s.toks + 1,by rw [List.size_toArray,hlen]⟩,q⟩
  · obtain ⟨its,r',pl,hz⟩:=I.tuple hq
    have hlen:=r'.length
    exact len_tuple pl (by simp only [List.size_toArray] <;> omega) ⟨.int ys.length,H,I.tok _,⟨s.toks + 1,by rw [List.size_toArray,hlen]⟩,q⟩
theorem call_len_str:CallR X (.builtin "len") (fun xs H Q=>∃ z,xs=[.str z]∧z.length≤sizeLine∧Q (.int z.length) H):=by
  intro pins s σ H xs us Q I r h
  obtain ⟨z,rfl,hz,q⟩:=h
  obtain ⟨u,rfl,t,rfl⟩:=vals1 r
  have hn:=line63
  exact len_str (by omega) ⟨.int z.length,H,I.tok _,⟨_,rfl⟩,q⟩
theorem call_list_of:CallR X (.type "list") (fun xs H Q=>∃ p ys,xs=[.ref p]∧(SqL X.K H p ys∨SqT X.K H p ys)∧∀ l,H l=none→Q (.ref l) (upd H l (.lst ys))):=by
  intro pins s σ H xs us Q I r h
  obtain ⟨p,ys,rfl,hq,q⟩:=h
  obtain ⟨u,rfl,rx⟩:=vals1 r
  cases rx
  have fin:∀ (its:List Value),Vals ys its→ys.length≤sizeLine→∀ (h':Heap) (c':Nat),(∀ b o',s.heap.get? b=some o'→h'.get? b=some o') →
      h'.get? s.heap.objs.size=some { cls:=.type "list",dict:=none,data:=.seq its.toArray c',slots:=#[] }→EP X pins σ Q (.ref s.heap.objs.size) { s with heap:=h' }:=fun its r' hz h' c' kp e =>
    ⟨.ref s.heap.objs.size,_,I.laid (t':=s.toks) kp (Nat.le_refl _) (show ObjOk X.prog X.w _ h' _ (.lst ys) from ⟨hz,its,c',r',e⟩),rfl,q _ (I.hok.fresh (Nat.le_refl _))⟩
  rcases hq with hq | hq
  · obtain ⟨its,r',pl,hz⟩:=I.list hq
    have hlen:=r'.length
    obtain ⟨o,ho,hc,n,hd⟩:=pl.isList
    exact call_list_seq p (.inl rfl) ho hc hd (fun h' c' kp e=>fin its r' hz h' c' kp e) (by simp only [List.size_toArray] <;> omega)
  · obtain ⟨its,r',pl,hz⟩:=I.tuple hq
    have hlen:=r'.length
    obtain ⟨o,ho,hc,n,hd⟩:=pl
    exact call_list_seq p (.inr rfl) ho hc hd (fun h' c' kp e=>fin its r' hz h' c' kp e) (by simp only [List.size_toArray] <;> omega)
noncomputable def tyV (K:PySem.W.Frag) (T:String) (x:V) (H:Hp):Prop:=match x with
  | .str _=>T = "str"
  | .int _=>T = "int"
  | .ref p=>(T = "list"∧∃ xs,SqL K H p xs)∨(T = "tuple"∧∃ o,K.lookup p=some o∧o.cls = .type "tuple"∧o.dict=none) ∨
      (T = "dict"∧((∃ kvs,H p=some (.dK kvs))∨∃ kvs,H p=some (.dT kvs)))∨(T = "set"∧∃ S n,H p=some (.set S n))
  | _=>False
theorem tyV_is {pins:List (Addr×Obj)} {σ:St} {H:Hp} {s:Shared} {T:String} {x:V} {v:Value} (I:Inv X pins σ H s) (r:RelV x v) (ty:tyV X.K T x H) :
    s.TypeIs v T∧∀ a,v = .ref a→∃ ob,s.heap.get? a=some ob∧ob.dict=none:=by
  cases x with
  | str z =>
    obtain ⟨t,rfl⟩:=r
    cases (show T = "str" from ty)
    exact ⟨typeIs_str s z t,fun _ e=>nomatch e⟩
  | int i =>
    obtain ⟨t,rfl⟩:=r
    cases (show T = "int" from ty)
    exact ⟨typeIs_int s i t,fun _ e=>nomatch e⟩
  | ref p =>
    cases r
    rcases ty with ⟨rfl,xs,hq⟩ | ⟨rfl,o,hk,hc,hd⟩ | ⟨rfl,hk⟩ | ⟨rfl,S,n,hk⟩
    · obtain ⟨its,_,pl,_⟩:=I.list hq
      refine ⟨pl.isList.typeIs,fun a e=>?_⟩
      cases e
      obtain ⟨o,n,e,c,hd,_⟩:=pl
      exact ⟨o,e,hd⟩
    · refine ⟨⟨o,I.kIn p o hk,hc⟩,fun a e=>?_⟩
      cases e
      exact ⟨o,I.kIn _ o hk,hd⟩
    · have z:∃ o,s.heap.get? p=some o∧o.ExactDict:=by
        rcases hk with ⟨kvs,hk⟩ | ⟨kvs,hk⟩
        · obtain ⟨_,_,_,_,o,_,_,e,ex,_⟩:=I.hok p _ hk
          exact ⟨o,e,ex⟩
        · obtain ⟨_,_,_,_,o,_,_,e,ex,_⟩:=I.hok p _ hk
          exact ⟨o,e,ex⟩
      obtain ⟨o,e,ex⟩:=z
      refine ⟨⟨o,e,ex.1⟩,fun a e2=>?_⟩
      cases e2
      exact ⟨o,e,ex.2.1⟩
    · obtain ⟨o,_,_,_,e,ex,_⟩:=I.hok p _ hk
      refine ⟨⟨o,e,ex.1⟩,fun a e2=>?_⟩
      cases e2
      exact ⟨o,e,ex.2.1⟩
  | _=>exact False.elim ty
noncomputable def tBM (K:PySem.W.Frag) (T:String) (r:V→List V→Hp→VK→Prop) (to:TE) (t:TA):TE:=fun σ H Q=>to σ H fun x H1=>tyV K T x H1∧t σ H1 fun xs H2=>r x xs H2 Q
variable {o e:Expr} {es:List Expr} {to:TE} {t:TA} {name:Str} {apos cpos:Pos} {T id:String} {r:V→List V→Hp→VK→Prop}
theorem pe_bm (pa:PlainAttrs T) (slot:Slot T name id) (hty:typeOf (.builtin id)=pure (.type "method_descriptor")) (hm:MtR X id r) (ho:PE X o to) (ha:PA X (e :: es) t)
    (hbase:attributeBase o name X.env (eval o X.env)=eval o X.env:=by rfl)
    (hfew:((backTo cpos (starEach (e :: es) X.env)).all (fun x=>!x.1) && (backToKw cpos (keywordEach [] X.env)).all (fun x=>x.1.isSome)
      && decide ((e :: es).length + ([]:List Keyword).length + (if ([]:List Keyword).isEmpty then 0 else 1) < 30))=true:=by rfl)
    (hline:(apos.endLine == cpos.line)=true:=by rfl) (hs:starEach (e :: es) X.env=(false,eval e X.env) :: starEach es X.env:=by rfl) (hplain:(backTo cpos (starEach es X.env)).any (·.1)=false:=by rfl) :
    PE X (.Call (.Attribute o name apos) (e :: es) [] cpos) (tBM X.K T r to t):=by
  intro pins s σ H Q I h
  refine wpAny_Call_method_late hbase hfew hline rfl (thn (ho pins s σ H _ I h) fun v s1 hpq=>?_)
  obtain ⟨x,H1,I1,r1,ty,q1⟩:=hpq
  obtain ⟨h1,h2⟩:=tyV_is I1 r1 ty
  refine ⟨T,id,pa,slot,hty,h1,h2,?_⟩
  have hA:=ha cpos pins s1 σ H1 _ I1 q1
  rw [hs] at hA ⊢
  refine Calls.callWith_builtin (by show (false || (backTo cpos (starEach es X.env)).any (·.1))=false;rw [hplain] <;> rfl) (Calls.evalArgs_plain ?_)
  exact thn hA fun us s2 ⟨vs,H2,I2,r2,q2⟩=>hm pins s2 σ H2 x vs v us Q I2 r1 r2 q2
end
end L2
namespace L2
open PySem PySem.Spec PyProof.Rows
noncomputable def MtM (X:Cx) (id:String) (r:V→List V→Hp→VK→Prop):Prop :=
  ∀ (pins:List (Addr×Obj)) (s:Shared) (σ:St) (H:Hp) (x:V) (xs:List V) (v:Value) (us:List Value) (Q:VK),Inv X pins σ H s→RelV x v→Vals xs us→r x xs H Q →
    wpAny (model X.prog X.w) X.A (call (.builtin id) (v :: us)) (EP X pins σ Q) X.xe s
theorem Vals.one:∀ {x:V} {us:List Value},Vals [x] us→∃ u,us=[u]∧RelV x u
  | _,_,.cons r .nil=>⟨_,rfl,r⟩
section
variable {X:Cx} {pins:List (Addr×Obj)} {σ:St} {H:Hp} {s:Shared} {l b:Addr} {xs ys zs:List V}
theorem Inv.lset {its its':List Value} {n:Nat} {f:Array Value→Array Value} {t':Nat} (I:Inv X pins σ H s) (hH:H l=some (.lst xs))
    (e:s.heap.get? l=some { cls:=.type "list",data:=.seq its.toArray n }) (hf:f its.toArray=its'.toArray) (hv:Vals ys its') (hz:ys.length≤sizeLine) :
    Inv X pins σ (upd H l (.lst ys)) { s with heap:=s.heap.update l (Obj.mapSeq f),toks:=t' }:=by
  have q:=PySem.IsL.update e f
  rw [hf] at q
  refine I.write (x:=l) (e:=l) (by rw [hH];exact trivial) (.inl rfl) (fun b' u hb hu=>(Heap.get?_update_other s.heap (Obj.mapSeq f) (Ne.symm hb)).trans hu) ⟨_,q⟩ ?_
  exact ⟨hz,its',_,hv,q⟩
theorem Inv.lstM (I:Inv X pins σ H s) (hH:H l=some (.lst xs)):xs.length≤sizeLine∧∃ (its:List Value) (n:Nat),Vals xs its∧xs.length=its.length∧s.heap.get? l=some { cls:=.type "list",data:=.seq its.toArray n }:=by
  obtain ⟨z,its,n,r,e⟩:=I.hok l _ hH
  exact ⟨z,its,n,r,r.length,e⟩
end
section
variable {X:Cx}
noncomputable def rAppend:V→List V→Hp→VK→Prop:=fun x vs H Q=>∃ l xs y,x = .ref l∧vs=[y]∧H l=some (.lst xs)∧xs.length < sizeLine∧Q .non (upd H l (.lst (xs++[y])))
theorem mt_append:MtM X "list.append" rAppend:=by
  intro pins s σ H x vs v us Q I rx rv h
  obtain ⟨l,xs,y,rfl,rfl,hH,hz,q⟩:=h
  cases rx
  obtain ⟨u,rfl,ru⟩:=rv.one
  obtain ⟨z,its,n,r,hl,e⟩:=I.lstM hH
  refine call_meets F.slot_list_append ⟨_,e,rfl⟩ F.entry_list_append (F.args_list_append_2 _ _) (PySem.list_append l its.toArray n u (by rw [List.size_toArray];omega)) ⟨e,?_⟩
  refine ⟨.non,_,I.lset (its':=its++[u]) hH e (by simp) (r.append (.cons ru .nil)) ?_,rfl,q⟩
  rw [List.length_append,List.length_singleton]
  omega
end
section
variable {prog:Program} {w:World} {A:Around} {E:Value→Shared→Prop} {s:Shared}
set_option maxRecDepth 100000 in
end
section
variable {X:Cx}
end
end L2
namespace L2
open PySem PySem.Spec PyProof.Rows
section
variable {κ:Type} [DecidableEq κ]
noncomputable def valV (kvs:List (κ×V)) (k:κ):Option V:=(kvs.find? fun kv=>decide (kv.1=k)).map (·.2)
noncomputable def putK (kvs:List (κ×V)) (k:κ) (v:V):List (κ×V) :=
  if (kvs.any fun kv=>decide (kv.1=k))=true then kvs.map (fun kv=>if kv.1=k then (kv.1,v) else kv) else kvs++[(k,v)]
noncomputable def dropK (kvs:List (κ×V)) (k:κ):List (κ×V):=kvs.filter fun kv=>decide (kv.1≠k)
theorem valV_pos {p:κ×V} {r:List (κ×V)} {k:κ} (e:p.1=k):valV (p :: r) k=some p.2:=by simp [valV,List.find?_cons,e]
theorem valV_neg {p:κ×V} {r:List (κ×V)} {k:κ} (e:¬ p.1=k):valV (p :: r) k=valV r k:=by simp [valV,List.find?_cons,e]
theorem valV_any (k:κ):∀ kvs:List (κ×V),(kvs.any fun kv=>decide (kv.1=k))=(valV kvs k).isSome
  | []=>rfl
  | p :: r=>by
    rw [List.any_cons]
    by_cases e:p.1=k
    · simp only [valV_pos e,decide_eq_true e,Bool.true_or,Option.isSome_some]
    · rw [valV_neg e,decide_eq_false e,Bool.false_or];exact valV_any k r
theorem length_putK (kvs:List (κ×V)) (k:κ) (v:V):(putK kvs k v).length≤kvs.length + 1:=by
  unfold putK
  split
  · rw [List.length_map];omega
  · rw [List.length_append,List.length_cons,List.length_nil];omega
theorem RelO.isSome_eq {o:Option V} {u:Option Value} (r:RelO o u):o.isSome=u.isSome:=by
  cases o with
  | none=>cases u with
    | none=>rfl
    | some _=>exact (show False from r).elim
  | some _=>cases u with
    | none=>exact (show False from r).elim
    | some _=>rfl
theorem RelO.getD {o:Option V} {u:Option Value} {d:V} {d':Value} (r:RelO o u) (rd:RelV d d'):RelV (o.getD d) (u.getD d'):=by
  cases o with
  | none=>cases u with
    | none=>exact rd
    | some _=>exact (show False from r).elim
  | some _=>cases u with
    | none=>exact (show False from r).elim
    | some _=>exact r
theorem KV.val {kvs:List (κ×V)} {vs:List (κ×Value)} (r:KV kvs vs) (k:κ):RelO (valV kvs k) (valueAt vs k):=by
  unfold KV at r
  induction r with
  | nil=>exact True.intro
  | @cons p q ps qs h t ih =>
    obtain ⟨h1,h2⟩:=h
    by_cases e:p.1=k
    · have e':q.1=k:=h1.symm.trans e
      have b:valueAt (q :: qs) k=some q.2:=by simp [valueAt,List.find?_cons,e']
      rw [valV_pos e,b];exact h2
    · have e':¬ q.1=k:=fun z=>e (h1.trans z)
      have b:valueAt (q :: qs) k=valueAt qs k:=by simp [valueAt,List.find?_cons,e']
      rw [valV_neg e,b];exact ih
theorem KV.any {kvs:List (κ×V)} {vs:List (κ×Value)} (r:KV kvs vs) (k:κ):(kvs.any fun kv=>decide (kv.1=k))=vs.any fun kv=>decide (kv.1=k):=by
  unfold KV at r
  induction r with
  | nil=>rfl
  | cons h t ih=>rw [List.any_cons,List.any_cons,ih,h.1]
theorem KV.repl {kvs:List (κ×V)} {vs:List (κ×Value)} (r:KV kvs vs) (k:κ) {y:V} {u:Value} (ry:RelV y u) :
    KV (kvs.map fun kv=>if kv.1=k then (kv.1,y) else kv) (vs.map fun kv=>if kv.1=k then (kv.1,u) else kv):=by
  unfold KV at r ⊢
  induction r with
  | nil=>exact .nil
  | @cons p q ps qs h t ih =>
    rw [List.map_cons,List.map_cons]
    refine .cons ?_ ih
    obtain ⟨h1,h2⟩:=h
    by_cases e:p.1=k
    · rw [if_pos e,if_pos (h1.symm.trans e)];exact ⟨h1,ry⟩
    · rw [if_neg e,if_neg (fun z=>e (h1.trans z))];exact ⟨h1,h2⟩
theorem KV.put {kvs:List (κ×V)} {vs:List (κ×Value)} (r:KV kvs vs) (k:κ) {y:V} {u:Value} (ry:RelV y u):KV (putK kvs k y) (stored vs k u):=by
  unfold putK stored
  rw [r.any k]
  by_cases e:(vs.any fun kv=>decide (kv.1=k))=true
  · rw [if_pos e,if_pos e];exact r.repl k ry
  · rw [if_neg e,if_neg e];exact Paired.snoc r ⟨rfl,ry⟩
theorem KV.drop {kvs:List (κ×V)} {vs:List (κ×Value)} (r:KV kvs vs) (k:κ):KV (dropK kvs k) (without vs k):=by
  unfold KV at r ⊢
  unfold dropK without
  induction r with
  | nil=>exact .nil
  | @cons p q ps qs h t ih =>
    obtain ⟨h1,h2⟩:=h
    rw [List.filter_cons,List.filter_cons]
    by_cases e:p.1=k
    · have a:¬ decide (p.1≠k)=true:=by simp [e]
      have b:¬ decide (q.1≠k)=true:=by simp [h1.symm.trans e]
      rw [if_neg a,if_neg b];exact ih
    · have e':¬ q.1=k:=fun z=>e (h1.trans z)
      have a:decide (p.1≠k)=true:=by simp [e]
      have b:decide (q.1≠k)=true:=by simp [e']
      rw [if_pos a,if_pos b];exact .cons ⟨h1,h2⟩ ih
theorem KV.length {kvs:List (κ×V)} {vs:List (κ×Value)} (r:KV kvs vs):kvs.length=vs.length:=Paired.length r
theorem dropK_le (kvs:List (κ×V)) (k:κ):(dropK kvs k).length≤kvs.length:=List.length_filter_le _ _
end
theorem kV_is {P:Program} {w:World} {k:Key} {u:Value} (r:RelV (kV k) u):(mixKind P w).is k u=true:=by
  cases k with
  | inl i=>obtain ⟨t,e⟩:=(show ∃ t,u=Value.int i t from r);subst e;exact mixKind_int P w i t
  | inr x=>obtain ⟨t,e⟩:=(show ∃ t,u=Value.str x t from r);subst e;exact mixKind_str P w x t
theorem items_are {P:Program} {w:World}:∀ {ks:List Key} {us:List Value},Vals (ks.map kV) us→ItemsAre (mixKind P w) ks us
  | [],_,r=>by rw [List.map_nil] at r;cases r;exact .nil
  | k :: ks,_,r=>by
    rw [List.map_cons] at r
    cases r with
    | cons h t=>exact .cons (kV_is h) (items_are t)
noncomputable abbrev KT (H:Hp):List (List Key×V)→List (List Key×Addr×Value)→Prop:=Paired fun p q=>p.1=q.1∧H q.2.1=some (.tup (p.1.map kV))∧RelV p.2 q.2.2
theorem KT.val {H:Hp} {kvs:List (List Key×V)} {xs:List (List Key×Addr×Value)} (r:KT H kvs xs) (k:List Key):RelO (valV kvs k) ((atKey xs k).map (·.2)):=by
  induction r with
  | nil=>exact True.intro
  | @cons p q ps qs h t ih =>
    obtain ⟨h1,_,h2⟩:=h
    by_cases e:p.1=k
    · have e':q.1=k:=h1.symm.trans e
      have b:atKey (q :: qs) k=some q.2:=by simp [atKey,List.find?_cons,e']
      rw [valV_pos e,b];exact h2
    · have e':¬ q.1=k:=fun z=>e (h1.trans z)
      have b:atKey (q :: qs) k=atKey qs k:=by simp [atKey,List.find?_cons,e']
      rw [valV_neg e,b];exact ih
theorem KT.repl {H:Hp} {kvs:List (List Key×V)} {xs:List (List Key×Addr×Value)} (r:KT H kvs xs) (k:List Key) {y:V} {u:Value} (ry:RelV y u) :
    KT H (kvs.map fun kv=>if kv.1=k then (kv.1,y) else kv) (xs.map (putAt k u)):=by
  induction r with
  | nil=>exact .nil
  | @cons p q ps qs h t ih =>
    rw [List.map_cons,List.map_cons]
    refine .cons ?_ ih
    obtain ⟨h1,h2,h3⟩:=h
    unfold putAt
    by_cases e:p.1=k
    · rw [if_pos e,if_pos (h1.symm.trans e)];exact ⟨h1,h2,ry⟩
    · rw [if_neg e,if_neg (fun z=>e (h1.trans z))];exact ⟨h1,h2,h3⟩
theorem KT.put {H:Hp} {kvs:List (List Key×V)} {xs:List (List Key×Addr×Value)} (r:KT H kvs xs) (k:List Key) {b:Addr} {y:V} {u:Value} (hb:H b=some (.tup (k.map kV))) (ry:RelV y u) :
    KT H (putK kvs k y) (storedH xs k b u):=by
  have e:(kvs.any fun kv=>decide (kv.1=k))=(atKey xs k).isSome:=by
    rw [valV_any,(r.val k).isSome_eq,Option.isSome_map]
  unfold putK storedH
  rw [e]
  by_cases q:(atKey xs k).isSome=true
  · rw [if_pos q,if_pos q];exact r.repl k ry
  · rw [if_neg q,if_neg q];exact Paired.snoc r ⟨rfl,hb,ry⟩
theorem KT.keeps {H H':Hp} {kvs:List (List Key×V)} {xs:List (List Key×Addr×Value)} (r:KT H kvs xs) (ht:∀ b ys,H b=some (.tup ys)→H' b=some (.tup ys)):KT H' kvs xs :=
  Paired.mapP r fun _ _ z=>⟨z.1,ht _ _ z.2.1,z.2.2⟩
section
variable {P:Program} {w:World} {H:Hp} {h:Heap} {a:Addr}
theorem rd_of {u:HO} (ok:HOk P w H h) (e:Rd H a u):ObjOk P w H h a u:=e.ok ok
theorem dk_rd {kvs:List (Key×V)} (ok:HOk P w H h) (e:Rd H a (.dK kvs)):kvs.length≤sizeLine∧(a == sysModules)=false∧∃ vs,KV kvs vs∧h.DictOf (mixKind P w) a vs :=
  show ObjOk P w H h a (.dK kvs) from rd_of ok e
theorem dk_of {kvs:List (Key×V)} (ok:HOk P w H h) (e:H a=some (.dK kvs)):kvs.length≤sizeLine∧(a == sysModules)=false∧∃ vs,KV kvs vs∧h.DictOf (mixKind P w) a vs:=dk_rd ok (.inl e)
theorem key_of {ks:List Key} (ok:HOk P w H h) (e:H a=some (.tup (ks.map kV))):(tupleKind (mixKind P w)).is h ks a:=by
  obtain ⟨_,its,r,o,h1,h2,n,h3⟩:=(show ObjOk P w H h a (.tup (ks.map kV)) from ok a _ e)
  exact ⟨o,its.toArray,n,h1,h2,h3,by simpa using items_are r⟩
theorem dt_rd {kvs:List (List Key×V)} (ok:HOk P w H h) (e:Rd H a (.dT kvs)):kvs.length≤sizeLine∧(a == sysModules)=false ∧
    ∃ xs,KT H kvs xs∧h.DictOfH (tupleKind (mixKind P w)) a xs:=by
  obtain ⟨z,y,xs,r,o,es,ep,h1,h2,h3,h4,h5⟩:=(show ObjOk P w H h a (.dT kvs) from rd_of ok e)
  refine ⟨z,y,xs,r,o,es,ep,h1,h2,h3,h4,fun x hx=>?_,h5⟩
  have all:∀ {l:List (List Key×V)} {m:List (List Key×Addr×Value)},KT H l m→∀ x∈m,(tupleKind (mixKind P w)).is h x.1 x.2.1:=by
    intro l m q
    induction q with
    | nil=>intro x hx;exact nomatch hx
    | @cons p q ps qs hq t ih =>
      intro x hx
      rcases List.mem_cons.mp hx with e | hx
      · subst e
        exact key_of ok (by rw [← hq.1];exact hq.2.1)
      · exact ih x hx
  exact all r x hx
theorem dt_of {kvs:List (List Key×V)} (ok:HOk P w H h) (e:H a=some (.dT kvs)):kvs.length≤sizeLine∧(a == sysModules)=false ∧
    ∃ xs,KT H kvs xs∧h.DictOfH (tupleKind (mixKind P w)) a xs:=dt_rd ok (.inl e)
end
noncomputable def DGet (H:Hp) (a:Addr) (y:V) (r:Option V):Prop :=
  (∃ kvs k,Rd H a (.dK kvs)∧y=kV k∧r=valV kvs k)∨∃ kvs k b,Rd H a (.dT kvs)∧y = .ref b∧H b=some (.tup (k.map kV))∧r=valV kvs k
noncomputable def DPut (H:Hp) (a:Addr) (y v:V) (H':Hp):Prop :=
  (∃ kvs k,H a=some (.dK kvs)∧y=kV k∧kvs.length < sizeLine∧H'=upd H a (.dK (putK kvs k v))) ∨
  ∃ kvs k b,H a=some (.dT kvs)∧y = .ref b∧H b=some (.tup (k.map kV))∧kvs.length < sizeLine∧H'=upd H a (.dT (putK kvs k v))
theorem DGet.k {H:Hp} {a:Addr} {kvs:List (Key×V)} {k:Key} (e:H a=some (.dK kvs)):DGet H a (kV k) (valV kvs k):=.inl ⟨kvs,k,.inl e,rfl,rfl⟩
theorem DGet.t {H:Hp} {a b:Addr} {kvs:List (List Key×V)} {k:List Key} (e:H a=some (.dT kvs)) (eb:H b=some (.tup (k.map kV))):DGet H a (.ref b) (valV kvs k):=.inr ⟨kvs,k,b,.inl e,rfl,eb,rfl⟩
theorem DPut.k {H:Hp} {a:Addr} {kvs:List (Key×V)} {k:Key} {v:V} (e:H a=some (.dK kvs)) (hl:kvs.length < sizeLine):DPut H a (kV k) v (upd H a (.dK (putK kvs k v))):=.inl ⟨kvs,k,e,rfl,hl,rfl⟩
theorem DPut.t {H:Hp} {a b:Addr} {kvs:List (List Key×V)} {k:List Key} {v:V} (e:H a=some (.dT kvs)) (eb:H b=some (.tup (k.map kV))) (hl:kvs.length < sizeLine) :
    DPut H a (.ref b) v (upd H a (.dT (putK kvs k v))):=.inr ⟨kvs,k,b,e,rfl,eb,hl,rfl⟩
section
variable {X:Cx} {pins:List (Addr×Obj)} {σ:St} {H:Hp} {s:Shared} {a:Addr} {y v:V} {u r:Value} {o:Option V} {A:Around} {E:Value→Shared→Prop}
theorem Inv.big (I:Inv X pins σ H s):sysModules < s.heap.objs.size:=by
  have h:mainGlobals < s.heap.objs.size:=(I.mod.glob.keeps I.bk).lt
  exact Nat.lt_trans (by decide) h
theorem d_getItem {Q:Value→Shared→Prop} (hu:A.units + 1 < cLine) (I:Inv X pins σ H s) (g:DGet H a y (some v)) (ry:RelV y u) (h:∀ w' s',Inv X pins σ H s'→RelV v w'→Q w' s') :
    wpAny (model X.prog X.w) A (getItem (.ref a) u) Q E s:=by
  rcases g with ⟨kvs,k,e,ey,l⟩ | ⟨kvs,k,b,e,ey,eb,l⟩
  · subst ey
    obtain ⟨z,hd,vs,rel,dd⟩:=dk_rd I.hok e
    obtain ⟨w',hw,rw'⟩:=RelO.some_of (v:=v) (o:=valueAt vs k) (by rw [l];exact rel.val k)
    exact wpAny_getItem_of (kV_is ry) dd.mapOf hw (h w' _ (I.tok _) rw')
  · subst ey
    cases (show u=Value.ref b from ry)
    obtain ⟨z,hd,xs,rel,dd⟩:=dt_rd I.hok e
    obtain ⟨w',hw,rw'⟩:=RelO.some_of (v:=v) (o:=(atKey xs k).map (·.2)) (by rw [l];exact rel.val k)
    obtain ⟨p,hp,hp2⟩:=Option.map_eq_some_iff.mp hw
    refine wpAny_getItem_heap (tupleKind_room_in1 hu) (key_of I.hok eb) dd hp ?_
    rw [hp2]
    exact h w' _ (I.tok _) rw'
theorem d_write {h':Heap} {t':Nat} {ob:HO} (I:Inv X pins σ H s) (mu:Mut (H a)) (hs:Heap.SameBut a s.heap h') (he:∃ q,h'.get? a=some q) (new:ObjOk X.prog X.w (upd H a ob) h' a ob) :
    Inv X pins σ (upd H a ob) { s with heap:=h',toks:=t' } :=
  I.write (x:=a) (e:=a) mu (.inl rfl) (fun b q hb z=>(hs.2 b hb).trans z) he new
theorem dk_new {P:Program} {w:World} {H':Hp} {h':Heap} {kvs:List (Key×V)} {vs:List (Key×Value)} (z:kvs.length≤sizeLine) (hd:(a == sysModules)=false) (rel:KV kvs vs) (dd:h'.DictOf (mixKind P w) a vs) :
    ObjOk P w H' h' a (.dK kvs):=⟨z,hd,vs,rel,dd⟩
theorem d_setItem {H':Hp} {Q:Unit→Shared→Prop} (hu:A.units + 1 < cLine) (I:Inv X pins σ H s) (g:DPut H a y v H') (ry:RelV y u) (rv:RelV v r) (h:∀ s',Inv X pins σ H' s'→Q () s') :
    wpAny (model X.prog X.w) A (setItem (.ref a) u r) Q E s:=by
  rcases g with ⟨kvs,k,e,ey,l,eH⟩ | ⟨kvs,k,b,e,ey,eb,l,eH⟩
  · subst ey eH
    obtain ⟨z,hd,vs,rel,dd⟩:=dk_of I.hok e
    have hz:vs.length≤sizeLine:=by rw [← rel.length];exact z
    have hl:(putK kvs k v).length≤sizeLine:=by have:=length_putK kvs k v;omega
    refine wpAny_setItem_pairs (hsz:=hz) (kV_is ry) dd fun h' dd' hs=>h _ ?_
    have he:∃ q,h'.get? a=some q:=let ⟨q,_,_,hq,_⟩:=dd';⟨q,hq⟩
    exact d_write I (by rw [e];exact True.intro) hs he (dk_new hl hd (rel.put k rv) dd')
  · subst ey eH
    cases (show u=Value.ref b from ry)
    obtain ⟨z,hd,xs,rel,dd⟩:=dt_of I.hok e
    have hz:xs.length≤sizeLine:=by rw [← Paired.length rel];exact z
    have hl:(putK kvs k v).length≤sizeLine:=by have:=length_putK kvs k v;omega
    refine wpAny_setItem_heap (hsz:=hz) (tupleKind_room_in1 hu) (key_of I.hok eb) dd fun h' dd' hs=>h _ ?_
    obtain ⟨q,es,ep,hq,h2,h3,h4,_,h5⟩:=dd'
    refine d_write I (by rw [e];exact True.intro) hs ⟨q,hq⟩ ⟨hl,hd,_,(rel.put k eb rv).keeps fun c ys ec=>?_,q,es,ep,hq,h2,h3,h4,h5⟩
    rw [upd_ne (ne_of ec e (fun z=>nomatch z))]
    exact ec
end
section
variable {X:Cx} {pins:List (Addr×Obj)} {σ:St} {H:Hp} {s:Shared} {a:Addr} {kvs:List (Key×V)} {k:Key} {u:Value} {A:Around} {E:Value→Shared→Prop}
theorem d_pop {v:V} {more:List Value} {Q:Value→Shared→Prop} (I:Inv X pins σ H s) (e:H a=some (.dK kvs)) (ry:RelV (kV k) u) (l:valV kvs k=some v) (hm:more=[]∨∃ x,more=[x])
    (h:∀ w' s',Inv X pins σ (upd H a (.dK (dropK kvs k))) s'→RelV v w'→Q w' s'):wpAny (model X.prog X.w) A (call (.builtin "dict.pop") (.ref a :: u :: more)) Q E s:=by
  obtain ⟨z,hd,vs,rel,dd⟩:=dk_of I.hok e
  obtain ⟨w',hw,rw'⟩:=RelO.some_of (v:=v) (o:=valueAt vs k) (by rw [← l];exact rel.val k)
  have hp:(keyPart u).isSome=true:=by
    cases k with
    | inl i=>obtain ⟨t,q⟩:=(show ∃ t,u=Value.int i t from ry);subst q;rfl
    | inr x=>obtain ⟨t,q⟩:=(show ∃ t,u=Value.str x t from ry);subst q;rfl
  have ha:argsOk "dict.pop" ⟨.ref a :: u :: more,[]⟩:=by
    rcases hm with q | ⟨x,q⟩
    · subst q;exact PySem.F.args_dict_pop_2 _ _
    · subst q;exact PySem.F.args_dict_pop_3 _ _ _
  refine call_meetsIn PySem.F.slot_dict_pop dd.typeIs PySem.F.entry_dict_pop ha (meets_dict_pop_there (mixKind X.prog X.w) a (kV_is ry) more hm hp)
    ⟨vs,w',dd,by rw [← rel.length];exact z,hw,fun h' dd' hs=>h w' _ ?_ rw'⟩
  have he:∃ q,h'.get? a=some q:=let ⟨q,_,_,hq,_⟩:=dd';⟨q,hq⟩
  exact d_write I (by rw [e];exact True.intro) hs he (dk_new (Nat.le_trans (dropK_le kvs k) z) hd (rel.drop k) dd')
theorem d_truth {Q:Bool→Shared→Prop} (I:Inv X pins σ H s) (e:Rd H a (.dK kvs)) (h:∀ s',Inv X pins σ H s'→Q (!kvs.isEmpty) s'):wpAny (model X.prog X.w) A (truthy (.ref a)) Q E s:=by
  obtain ⟨z,hd,vs,rel,dd⟩:=dk_rd I.hok e
  refine wpAny_truthy_dict hd dd (by rw [← rel.length];rw [sizeLine_eq] at z;omega) ?_
  have q:kvs.isEmpty=vs.isEmpty:=by cases rel <;> rfl
  rw [← q]
  exact h _ (I.tok _)
end
noncomputable def NoSl (i:Expr):Prop:=∀ ov iv,subscripted i false ov iv=operate [ov,iv] (getItem ov iv)
theorem subD_of {prog:Program} {w:World} {A:Around} {E:Value→Shared→Prop} {s:Shared} {env:Env} {value slice:Expr} {pos:Pos} {T id:String} {Q:Value→Shared→Prop}
    (hl:typeLookup (.type T) "__getitem__" = pure (some (.builtin id))) (hs:NoSl slice)
    (h:wpAny (model prog w) A (eval value env) (fun o s₁=>wpAny (model prog w) A (eval slice env) (fun i s₂=>s₂.TypeIs o T∧wpAny (model prog w) A (getItem o i) Q E s₂) E s₁) E s) :
    wpAny (model prog w) A (eval (.Subscript value slice pos) env) Q E s:=by
  refine Subscript_ (wpAny_mono h (fun o s₁ h₁=>wpAny_mono h₁ (fun i s₂ h₂=>?_) fun _ _ x=>x) fun _ _ x=>x)
  obtain ⟨hT,h₂⟩:=h₂
  unfold subscriptTail
  refine wpAny_bind ?_
  rw [getitemInPython_of_ne hT.not_modules]
  refine wpAny_bind (wpAny_specialOf hT hl ?_)
  have fin:wpAny (model prog w) A (subscripted slice false o i) (fun r s₃=>wpAny (model prog w) A (letTemporaryGo value o r >>= fun _=>pure r) Q E s₃) E s₂:=by
    rw [hs o i]
    exact wpAny_operating (wpAny_mono h₂ (fun r s₃ h₃=>wpAny_bind (wpAny_letTemporaryGo (wpAny_pure h₃))) fun _ _ x=>x)
  first
    | exact wpAny_pure (wpAny_bind fin)
    | exact wpAny_bind (wpAny_pure (wpAny_bind fin))
    | exact wpAny_bind fin
theorem dict_typeIs {X:Cx} {pins:List (Addr×Obj)} {σ:St} {H:Hp} {s:Shared} {a:Addr} {y:V} {o:Option V} (I:Inv X pins σ H s) (g:DGet H a y o):s.TypeIs (.ref a) "dict":=by
  rcases g with ⟨kvs,k,e,_,_⟩ | ⟨kvs,k,b,e,_,_,_⟩
  · obtain ⟨_,_,vs,_,dd⟩:=dk_rd I.hok e
    exact dd.typeIs
  · obtain ⟨_,_,xs,_,dd⟩:=dt_rd I.hok e
    exact dd.typeIs
noncomputable def tDGet (td ty:TE):TE:=fun σ H Q=>td σ H fun x H1=>ty σ H1 fun y H2=>∃ a v,x = .ref a∧DGet H2 a y (some v)∧Q v H2
noncomputable def sDPut (td ty tv:TE):TS:=fun D σ H=>tv σ H fun v H1=>td σ H1 fun x H2=>ty σ H2 fun y H3=>∃ a H4,x = .ref a∧DPut H3 a y v H4∧D.nx σ H4
section
variable {X:Cx} {o i e value:Expr} {pos pos' tpos:Pos} {td ty tv:TE}
theorem pe_dget (hu:X.A.units + 1 < cLine) (ho:PE X o td) (hi:PE X i ty) (hs:NoSl i):PE X (.Subscript o i pos) (tDGet td ty):=by
  intro pins s σ H Q I h
  refine subD_of PySem.F.slot_dict_getitem.lookup hs (thn (ho pins s σ H _ I h) fun u s1 ⟨x,H1,I1,rx,q1⟩=>thn (hi pins s1 σ H1 _ I1 q1) fun iv s2 hpq=>?_)
  obtain ⟨y,H2,I2,ry,a,v,ex,g,q2⟩:=hpq
  subst ex
  obtain rfl:u=Value.ref a:=rx
  exact ⟨dict_typeIs I2 g,d_getItem hu I2 g ry fun w' s3 I3 rw'=>⟨v,H2,I3,rw',q2⟩⟩
theorem ps_dput (hu:X.A.units + 1 < cLine) (ho:PE X o td) (hi:PE X i ty) (hv:PE X value tv) (hs:swapsWith value (some (.Subscript o i pos')) pos.line X.env=pure false) :
    PS X (.Assign [.Subscript o i pos'] value pos) (sDPut td ty tv):=by
  intro pins s σ H D I h
  refine wpAny_Assign_Subscript (thn (hv pins s σ H _ I h) fun r s1 ⟨v,H1,I1,rv,q1⟩=>thn (ho pins s1 σ H1 _ I1 q1) fun u s2 ⟨x,H2,I2,rx,q2⟩=>thn (hi pins s2 σ H2 _ I2 q2) fun iv s3 hpq=>?_) hs
  obtain ⟨y,H3,I3,ry,a,H4,ex,g,q3⟩:=hpq
  subst ex
  obtain rfl:u=Value.ref a:=rx
  exact d_setItem hu I3 g ry rv fun s4 I4=>⟨σ,H4,I4,q3⟩
end
theorem dk_empty {P:Program} {w:World} {H:Hp} (h:Heap) (hb:sysModules < h.objs.size):ObjOk P w H (h.push { cls:=.type "dict",data:=.dict #[] }) h.objs.size (.dK []) :=
  ⟨Nat.zero_le _,beq_eq_false_iff_ne.mpr (Ne.symm (Nat.ne_of_lt hb)),[],.nil,Heap.DictOf.new h⟩
noncomputable def tDNewK:TE:=fun _ H Q=>∀ p,H p=none→Q (.ref p) (upd H p (.dK []))
section
variable {X:Cx} {pos:Pos}
theorem pe_dnewK:PE X (.Dict [] [] pos) tDNewK:=fun pins s σ H Q I h =>
  wpAny_Dict_empty ⟨.ref s.heap.objs.size,_,I.laid (a:=s.heap.objs.size) (o:=.dK []) (t':=s.toks) (fun _ _ q=>Heap.get?_push_of_some _ q) (Nat.le_refl _) (dk_empty s.heap I.big),rfl,h _ (I.hok.fresh (Nat.le_refl _))⟩
end
noncomputable def tPairs:List (TE×TE)→St→Hp→(List (V×V)→Hp→Prop)→Prop
  | [],_,H,Q=>Q [] H
  | (tk,tv) :: r,σ,H,Q=>tk σ H fun x H1=>tv σ H1 fun y H2=>tPairs r σ H2 fun ps H3=>Q ((x,y) :: ps) H3
noncomputable abbrev VV:List (V×V)→List (Value×Value)→Prop:=Paired fun p q=>RelV p.1 q.1∧RelV p.2 q.2
noncomputable def PPs (X:Cx) (pos:Pos) (keys:List (Option Expr)) (values:List Expr) (trs:List (TE×TE)):Prop :=
  ∀ (pins:List (Addr×Obj)) (s:Shared) (σ:St) (H:Hp) (Q:List (V×V)→Hp→Prop),Inv X pins σ H s→tPairs trs σ H Q →
    wpAny (model X.prog X.w) X.A (evalPairs (pairTrees keys values X.env pos)) (fun vs s'=>∃ ps H',Inv X pins σ H' s'∧VV ps vs∧Q ps H') X.xe s
theorem pps_nil {X:Cx} {pos:Pos}:PPs X pos [] [] []:=fun pins s σ H Q I h=>pairTrees_nil_walk ⟨[],H,I,.nil,h⟩
theorem pps_cons {X:Cx} {pos:Pos} {k v:Expr} {ks:List (Option Expr)} {vs:List Expr} {tk tv:TE} {trs:List (TE×TE)} (hk:PE X k tk) (hv:PE X v tv) (hr:PPs X pos ks vs trs) :
    PPs X pos (some k :: ks) (v :: vs) ((tk,tv) :: trs):=fun pins s σ H Q I h =>
  pairTrees_cons_walk (thn (hk pins s σ H _ I h) fun u s1 ⟨x,H1,I1,rx,q1⟩=>thn (hv pins s1 σ H1 _ I1 q1) fun w2 s2 ⟨y,H2,I2,ry,q2⟩ =>
    thn (hr pins s2 σ H2 _ I2 q2) fun ws s3 ⟨ps,H3,I3,rel,q3⟩=>⟨(x,y) :: ps,H3,I3,.cons ⟨rx,ry⟩ rel,q3⟩)
noncomputable def mergeK (kvs more:List (Key×V)):List (Key×V):=more.foldl (fun acc kv=>putK acc kv.1 kv.2) kvs
theorem KV.merge:∀ {more:List (Key×V)} {rs:List (Key×Value)} {kvs:List (Key×V)} {vs:List (Key×Value)},KV more rs→KV kvs vs→KV (mergeK kvs more) (merged vs rs):=by
  intro more rs kvs vs r
  unfold KV at r
  induction r generalizing kvs vs with
  | nil=>intro q;exact q
  | @cons p q ps qs h t ih =>
    intro r0
    have e:KV (putK kvs p.1 p.2) (stored vs q.1 q.2):=by
      have:=r0.put p.1 h.2
      rw [← h.1];exact this
    exact ih e
theorem length_mergeK:∀ (more kvs:List (Key×V)),(mergeK kvs more).length≤kvs.length + more.length
  | [],kvs=>by show kvs.length≤kvs.length + 0;omega
  | p :: r,kvs=>by
    have h1:=length_mergeK r (putK kvs p.1 p.2)
    have h2:=length_putK kvs p.1 p.2
    show (mergeK (putK kvs p.1 p.2) r).length≤_
    rw [List.length_cons];omega
theorem carries_of {P:Program} {w:World}:∀ {kvs:List (Key×V)} {ws:List (Value×Value)},VV (kvs.map fun kv=>(kV kv.1,kv.2)) ws→∃ rs,Carries (mixKind P w) ws rs∧KV kvs rs
  | [],_,r=>by rw [List.map_nil] at r;cases r;exact ⟨[],True.intro,.nil⟩
  | p :: kvs,_,r=>by
    rw [List.map_cons] at r
    cases r with
    | @cons a b as bs h t =>
      obtain ⟨rs,c,q⟩:=carries_of (P:=P) (w:=w) t
      obtain ⟨b1,b2⟩:=b
      exact ⟨(p.1,b2) :: rs,⟨kV_is h.1,rfl,c⟩,.cons ⟨rfl,h.2⟩ q⟩
noncomputable def tDisp (trs:List (TE×TE)):TE:=fun σ H Q=>∀ p,H p=none→tPairs trs σ (upd H p (.dK [])) fun ps H2=>H2 p=some (.dK [])∧∃ kvs:List (Key×V),ps=kvs.map (fun kv=>(kV kv.1,kv.2))∧kvs.length≤15∧Q (.ref p) (upd H2 p (.dK (mergeK [] kvs)))
theorem pe_disp {X:Cx} {pos:Pos} {keys:List (Option Expr)} {values:List Expr} {trs:List (TE×TE)} (h:PPs X pos keys values trs) (hall:keys.all (·.isSome)=true) (hl:keys.length=values.length) (h0:keys≠[])
    (h15:keys.length≤15):PE X (.Dict keys values pos) (tDisp trs):=by
  intro pins s σ H Q I q
  have hn:=I.hok.fresh (Nat.le_refl s.heap.objs.size)
  have I1:=I.laid (a:=s.heap.objs.size) (o:=.dK []) (h':=s.heap.push { cls:=.type "dict",data:=.dict #[] }) (t':=s.toks) (fun _ _ q=>Heap.get?_push_of_some _ q) (Nat.le_refl _) (dk_empty s.heap I.big)
  refine wpAny_Dict_walk (knd:=mixKind X.prog X.w) hall hl h0 h15 (thn (h pins _ σ _ _ I1 (q _ hn)) fun ws s2 hpq=>?_)
  obtain ⟨ps,H2,I2,rel,e,kvs,ep,lk,q2⟩:=hpq
  subst ep
  obtain ⟨rs,c,rk⟩:=carries_of (P:=X.prog) (w:=X.w) rel
  obtain ⟨z,hd,vs0,r0,dd⟩:=dk_of I2.hok e
  cases r0
  refine ⟨rs,c,dd,fun h' dd' hs=>⟨.ref s.heap.objs.size,_,?_,rfl,q2⟩⟩
  have hz:(mergeK [] kvs).length≤sizeLine:=by
    have h1:=length_mergeK kvs []
    rw [List.length_nil] at h1
    rw [sizeLine_eq];omega
  have he:∃ q,h'.get? s.heap.objs.size=some q:=let ⟨q,_,_,hq,_⟩:=dd';⟨q,hq⟩
  exact d_write I2 (by rw [e];exact True.intro) hs he (dk_new hz hd (rk.merge .nil) dd')
structure M1 (X:Cx) (o:Expr) (m:Str) (apos:Pos) (e:Expr) (cpos:Pos):Prop where
  base:attributeBase o m X.env (eval o X.env)=eval o X.env
  few:((backTo cpos (starEach [e] X.env)).all (fun x=>!x.1) && (backToKw cpos (keywordEach [] X.env)).all (fun x=>x.1.isSome)
    && decide (([e]:List Expr).length + ([]:List Keyword).length + (if ([]:List Keyword).isEmpty then 0 else 1) < 30))=true
  line:(apos.endLine == cpos.line)=true
  trees:backTo cpos (starEach [e] X.env)=[(false,eval e X.env)]
structure M2 (X:Cx) (o:Expr) (m:Str) (apos:Pos) (e f:Expr) (cpos:Pos):Prop where
  base:attributeBase o m X.env (eval o X.env)=eval o X.env
  few:((backTo cpos (starEach [e,f] X.env)).all (fun x=>!x.1) && (backToKw cpos (keywordEach [] X.env)).all (fun x=>x.1.isSome)
    && decide (([e,f]:List Expr).length + ([]:List Keyword).length + (if ([]:List Keyword).isEmpty then 0 else 1) < 30))=true
  line:(apos.endLine == cpos.line)=true
  trees:backTo cpos (starEach [e,f] X.env)=[(false,eval e X.env),(false,eval f X.env)]
noncomputable def IsD (H:Hp) (a:Addr):Prop:=(∃ kvs,Rd H a (.dK kvs))∨∃ kvs,Rd H a (.dT kvs)
theorem isD_at {X:Cx} {pins:List (Addr×Obj)} {σ:St} {H:Hp} {s:Shared} {a:Addr} (I:Inv X pins σ H s) (d:IsD H a) :
    s.TypeIs (.ref a) "dict"∧(∀ b,Value.ref a = .ref b→∃ ob,s.heap.get? b=some ob∧ob.dict=none)∧(a == sysModules)=false:=by
  rcases d with ⟨kvs,e⟩ | ⟨kvs,e⟩
  · obtain ⟨_,hd,vs,_,dd⟩:=dk_rd I.hok e
    refine ⟨dd.typeIs,fun b q=>?_,hd⟩
    cases q
    obtain ⟨ob,_,_,h1,h2,_⟩:=dd
    exact ⟨ob,h1,h2.2.1⟩
  · obtain ⟨_,hd,xs,_,dd⟩:=dt_rd I.hok e
    refine ⟨dd.typeIs,fun b q=>?_,hd⟩
    cases q
    obtain ⟨ob,_,_,h1,h2,_⟩:=dd
    exact ⟨ob,h1,h2.2.1⟩
section
variable {X:Cx} {pins:List (Addr×Obj)} {σ:St} {H:Hp} {s:Shared} {a:Addr} {y d:V} {u r:Value} {o:Option V} {A:Around} {E:Value→Shared→Prop}
theorem d_get2 {Q:Value→Shared→Prop} (hu:A.units + 1 < cLine) (I:Inv X pins σ H s) (g:DGet H a y o) (ry:RelV y u) (rd:RelV d r) (h:∀ w' s',Inv X pins σ H s'→RelV (o.getD d) w'→Q w' s') :
    wpAny (model X.prog X.w) A (call (.builtin "dict.get") [.ref a,u,r]) Q E s:=by
  rcases g with ⟨kvs,k,e,ey,l⟩ | ⟨kvs,k,b,e,ey,eb,l⟩
  · subst ey
    obtain ⟨z,hd,vs,rel,dd⟩:=dk_rd I.hok e
    refine call_meetsIn PySem.F.slot_dict_get dd.typeIs PySem.F.entry_dict_get (PySem.F.args_dict_get_3 _ _ _) (meets_dict_get_default (mixKind X.prog X.w) a (kV_is ry) hd r) ⟨_,dd.mapOf,h _ _ (I.tok _) ?_⟩
    rw [l]
    exact (rel.val k).getD rd
  · subst ey
    cases (show u=Value.ref b from ry)
    obtain ⟨z,hd,xs,rel,dd⟩:=dt_rd I.hok e
    refine call_meetsIn PySem.F.slot_dict_get dd.typeIs PySem.F.entry_dict_get (PySem.F.args_dict_get_3 _ _ _) (meetsH_dict_get_default (tupleKind (mixKind X.prog X.w)) a b hd r) ⟨tupleKind_room_in1 hu,k,xs,key_of I.hok eb,dd,h _ _ (I.tok _) ?_⟩
    rw [l]
    exact (rel.val k).getD rd
end
noncomputable def tDGet2 (td ty tx:TE):TE:=fun σ H Q=>td σ H fun x H1=>∃ a,x = .ref a∧IsD H1 a∧ty σ H1 fun y H2=>tx σ H2 fun z H3=>∃ o,DGet H3 a y o∧Q (o.getD z) H3
noncomputable def tDPop1 (td ty:TE):TE:=fun σ H Q=>td σ H fun x H1=>∃ a,x = .ref a∧IsD H1 a∧ty σ H1 fun y H2=>∃ kvs k v,H2 a=some (.dK kvs)∧y=kV k∧valV kvs k=some v∧Q v (upd H2 a (.dK (dropK kvs k)))
section
variable {X:Cx} {o e f:Expr} {apos cpos:Pos} {td ty tx:TE}
theorem pe_dget2 (hu:X.A.units + 1 < cLine) (ho:PE X o td) (he:PE X e ty) (hf:PE X f tx) (m:M2 X o "get" apos e f cpos):PE X (.Call (.Attribute o "get" apos) [e,f] [] cpos) (tDGet2 td ty tx):=by
  intro pins s σ H Q I h
  refine wpAny_Call_method m.base m.few m.line PySem.F.plainAttrs_dict PySem.F.slot_dict_get PySem.F.type_dict_get (thn (ho pins s σ H _ I h) fun u s1 hpq=>?_)
  obtain ⟨x,H1,I1,rx,a,ex,d,q1⟩:=hpq
  subst ex
  obtain rfl:u=Value.ref a:=rx
  obtain ⟨t1,t2,_⟩:=isD_at I1 d
  refine ⟨t1,t2,?_⟩
  rw [m.trees]
  refine Calls.callWith_builtin rfl (Calls.evalArgs_plain (Calls.spliced_cons (thn (he pins s1 σ H1 _ I1 q1) fun iv s2 ⟨y,H2,I2,ry,q2⟩ =>
    Calls.spliced_cons (thn (hf pins s2 σ H2 _ I2 q2) fun fv s3 ⟨z,H3,I3,rz,ov,g,q3⟩=>Calls.spliced_nil ?_))))
  exact d_get2 hu I3 g ry rz fun w' s4 I4 rw'=>⟨_,H3,I4,rw',q3⟩
theorem pe_dpop1 (ho:PE X o td) (he:PE X e ty) (m:M1 X o "pop" apos e cpos):PE X (.Call (.Attribute o "pop" apos) [e] [] cpos) (tDPop1 td ty):=by
  intro pins s σ H Q I h
  refine wpAny_Call_method m.base m.few m.line PySem.F.plainAttrs_dict PySem.F.slot_dict_pop PySem.F.type_dict_pop (thn (ho pins s σ H _ I h) fun u s1 hpq=>?_)
  obtain ⟨x,H1,I1,rx,a,ex,d,q1⟩:=hpq
  subst ex
  obtain rfl:u=Value.ref a:=rx
  obtain ⟨t1,t2,_⟩:=isD_at I1 d
  refine ⟨t1,t2,?_⟩
  rw [m.trees]
  refine Calls.callWith_builtin rfl (Calls.evalArgs_plain (Calls.spliced_cons (thn (he pins s1 σ H1 _ I1 q1) fun iv s2 ⟨y,H2,I2,ry,kvs,k,v,ea,ey,l,q2⟩=>Calls.spliced_nil ?_)))
  subst ey
  exact d_pop I2 ea ry l (.inl rfl) fun w' s3 I3 rw'=>⟨v,_,I3,rw',q2⟩
end
section
variable {X:Cx} {pins:List (Addr×Obj)} {σ:St} {H:Hp} {s:Shared} {a:Addr} {kvs:List (Key×V)} {A:Around} {E:Value→Shared→Prop}
end
section
variable {X:Cx} {pins:List (Addr×Obj)} {σ:St} {H:Hp} {s:Shared} {a:Addr} {y:V} {u:Value} {A:Around} {E:Value→Shared→Prop}
end
end L2
namespace Att
open PySem PySem.W PySem.Calls PyProof.Rows
theorem ints_of_wellAll {P:Params} {h:Heap}:∀ (ns:List Int) (vs:List Value),WellAll P h vs (ns.map WData.int)→IntsAre vs ns:=by
  intro ns
  induction ns with
  | nil =>
    intro vs w
    rw [List.map_nil] at w
    cases w
    exact .nil
  | cons n ns ih =>
    intro vs w
    rw [List.map_cons] at w
    cases w with
    | cons a b =>
      cases a
      exact .cons _ _ (ih _ b)
theorem script_of {l:OpenLaw} {n:Nat} (hn:l.most=some n) {P:Params} {h:Heap} {args:List WData} {vals:List Value}
    (hpre:l.row.toRowW.claim.pre args=true) (hwl:WellAll P h vals args) :
    ∃ a vs ns,vals=[Value.ref a]∧args=[WData.list (ns.map WData.int)]∧h.get? a=some { cls:=.type "list",data:=.seq vs.toArray }∧IntsAre vs ns∧ns.length≤n:=by
  have hsh:WShape.hasAll [] args [.list .int]=true:=(pre_splitW hpre).1
  have hc:l.pre.holds [] { args:=args }=true:=(pre_splitW hpre).2
  obtain ⟨d,r,rfl,h1,h2⟩:=hasAllW_cons hsh
  obtain rfl:=hasAllW_nil h2
  obtain ⟨xs,rfl,h3⟩:=hasW_list h1
  obtain ⟨ns,rfl⟩:=items_int h3
  have hlen:ns.length≤n:=by
    unfold OpenLaw.pre at hc
    have h4:(WTm.not (.lt (.lit (.int (n:Int))) (.len (.arg 0)))).holds [] { args:=[.list (ns.map .int)] }=true:=by
      have h4:=(holds_andW hc).1
      rw [hn] at h4
      exact h4
    have h5:=condW_of h4 (w_not (w_lt w_lit (w_len_list (w_arg rfl))))
    rw [List.length_map] at h5
    refine Nat.le_of_not_lt fun q=>?_
    have q':(n:Int) < ((ns.length:Nat):Int):=by omega
    first
      | (rw [decide_eq_true q'] at h5;exact absurd h5 (by decide))
      | (simp at h5;omega)
  cases hwl with
  | cons w1 w2 =>
    cases w2
    cases w1 with
    | list ho hall=>exact ⟨_,_,ns,rfl,rfl,ho,ints_of_wellAll ns _ hall,hlen⟩
theorem post_true (l:OpenLaw) (args:List WData):l.row.toRowW.claim.post args (.bool true) args=true :=
  postW_of (r:=l.row.toRowW) (X:=(true == true))
    (show WShape.has [] (.bool true) .bool=true by first | rfl | decide | simp [WShape.has,WShape.arms,WShape.armsAll])
    (show (WTm.eq .res (.lit (.bool true))).value [] { args:=args,res:=some (.bool true),after:=args }=some (.bool (true == true)) from w_eq_bool (w_res rfl) w_lit) rfl
theorem attach_call {l:OpenLaw} {n:Nat} {q:Program} {loose:List Str} {XP:(Str→Option Value)→Heap→Prop} {YP:World→Heap→Prop} {d:DefRec}
    (hn:l.most=some n) (hdf:d.params.defaults=[])
    (call:∀ (w:World) (s₀ s₁:Shared) (mg mb:Str→Option Value) (fa:Addr) (o:Obj) (pm cd doc:Value) (a:Addr) (vs:List Value) (ns:List Int),
      Ground q loose [] XP w s₀ mg mb s₁.heap→YP w s₁.heap →
      s₁.heap.get? fa=some o→o.data = .func (docDef d.name d.params d.body d.scope pm cd doc)→s₁.heap.CodeRec cd d.name→mg d.name=some (.ref fa) →
      s₁.heap.get? a=some { cls:=.type "list",data:=.seq vs.toArray }→IntsAre vs ns→ns.length≤n→s₁.gens = #[] →
      codeAny (model l.prog w) callerA (.call (.ref fa) ⟨[.ref a],[]⟩) (fun r s'=>r = .ok (.ret (.bool true))∧OldK s₁.heap s'.heap∧s'.os=s₁.os∧AllBare s'.gens) s₁) :
    WalkO q loose XP YP l.row.toRowW d [] (fun f vs=>PySem.call f vs):=by
  intro w s₀ s₁ mg mb G Y fa o pm cd doc dV kV ho hd hcd hD hmg hg args vals as hpre hlay hrd hwl hlo
  obtain rfl:dV = .none:=Dflts.none hD hdf
  obtain rfl:kV = .none:=Dflts.noKw hD
  obtain ⟨a,vs,ns,rfl,rfl,hobj,hints,hlen⟩:=script_of hn hpre hwl
  refine enter_call (codeAny_mono (call w s₀ s₁ mg mb fa o pm cd doc a vs ns G Y ho (fd_plain hd) hcd hmg hobj hints hlen hg) fun r s' hq=>?_)
  obtain ⟨rfl,h2,h3,h4⟩:=hq
  exact ⟨.inl ⟨.bool true,.bool true,[],rfl,fun _=>rfl,.bool true,post_true l _,fun _=>⟨List.Pairwise.nil,fun _ hm=>(nomatch hm)⟩⟩,h2,h3,h4⟩
section
variable {prog:Program} {w:World} {A:Around} {E:Value→Shared→Prop} {s:Shared} {K:Frag}
end
end Att
namespace L2
open PySem PySem.Spec PyProof.Rows
theorem vals_ints:∀ {vs:List Value} {ns:List Int},IntsAre vs ns→Vals (ns.map V.int) vs
  | _,_,.nil=>.nil
  | _,_,.cons n t h=>.cons ⟨t,rfl⟩ (vals_ints h)
noncomputable def Only (H:Hp):Prop:=∀ b,H b=none∨∃ o xs,H b=some (.frz o (.lst xs))
theorem law_call {P:Program} {w:World} {K:PySem.W.Frag} {mg mb:Str→Option Value} {CX:CXT} {k:Nat} {fa a:Addr} {fd:FuncData} {x:Str} {sp:Sp} {s₁:Shared} {vs:List Value} {ns:List Int}
    (KX:K.In s₁.heap) (hns:s₁.heap.Ns mainGlobals mg) (hb:s₁.heap.Ns builtinsNs mb) (hbb:∀ x:Str,x≠"__name__"→mb x=bootBuiltins x) (hlim:s₁.heap.NoLimit) (hg:s₁.gens = #[])
    (ha:s₁.heap.get? a=some { cls:=.type "list",data:=.seq vs.toArray }) (hi:IntsAre vs ns) (hl:ns.length≤sizeLine) (hr:Room k callerA)
    (F:∀ base:Heap,K.In base→base.Ns mainGlobals mg→FnOk P w K mg base CX k fa fd [x] sp) (hbind:∀ (s:Shared) (u:Value),BindsTo s fd ⟨[u],[]⟩ [(x,u)])
    (hsp:∀ H:Hp,Only H→SqL K H a (ns.map V.int)→sp [.ref a] H (fun v _=>v = .bl true) fun _ _ _=>False)
    (hCX:∀ H e s',CX [] H s₁ (fun _ _ _=>False) e s'→False) :
    codeAny (model P w) callerA (.call (.ref fa) ⟨[.ref a],[]⟩) (fun r s'=>r = .ok (.ret (.bool true))∧OldK s₁.heap s'.heap∧s'.os=s₁.os∧AllBare s'.gens) s₁:=by
  have rv:=vals_ints hi
  have lenV:=hi.length
  have core:∀ H:Hp,Only H→SqL K H a (ns.map V.int)→HOk P w H s₁.heap→(∀ b,H b≠none→b=a)→(H a≠none→K.lookup a=none) →
      codeAny (model P w) callerA (.call (.ref fa) ⟨[.ref a],[]⟩) (fun r s'=>r = .ok (.ret (.bool true))∧OldK s₁.heap s'.heap∧s'.os=s₁.os∧AllBare s'.gens) s₁:=by
    intro H hO hS hok hA hK
    have base_of:∀ {b:Addr} {o:Obj},s₁.heap.get? b=some o→H b=none→(hidT s₁.heap H).get? b=some o:=fun e n=>hidT_get e n
    have noA:∀ {b:Addr} {o:Obj} {es:Array DictEntry} {ep:Nat},s₁.heap.get? b=some o→o.data = .dict es ep→H b=none:=fun {b o es ep} e d=>by
      cases q:H b with
      | none=>rfl
      | some u =>
        have e':b=a:=hA b (by rw [q];simp)
        subst e'
        rw [ha] at e;cases e
        have d':Data.seq vs.toArray _=Data.dict es ep:=d
        cases d'
    have nsK:∀ {b:Addr} {m:Str→Option Value},s₁.heap.Ns b m→(hidT s₁.heap H).Ns b m:=fun {b m} ⟨o,es,ep,e,d,r⟩=>⟨o,es,ep,base_of e (noA e d),d,r⟩
    have hKb:K.In (hidT s₁.heap H):=fun b o e=>base_of (KX b o e) (by
      cases q:H b with
      | none=>rfl
      | some u =>
        have e':b=a:=hA b (by rw [q];simp)
        subst e'
        rw [hK (by rw [q];simp)] at e;cases e)
    have hM:Mod K mg (hidT s₁.heap H):=⟨hKb,nsK hns,⟨mb,nsK hb,hbb⟩,let ⟨mc,h1,h2⟩:=hlim;⟨mc,nsK h1,h2⟩⟩
    have e0:Env0 P w K mg (hidT s₁.heap H) callerA [] s₁ H:=⟨rfl,hM,fun b o e=>of_hidT e,Nat.le_of_eq (hidT_size _ _),trivial,fun b hb=>absurd (show b∈([]:List Addr) from hb) (by simp),hok,.of_eq hg⟩
    refine codeAny_mono ((F _ hKb (nsK hns)).run callerA [] s₁ H ⟨[.ref a],[]⟩ [.ref a] [.ref a] _ _ hr e0 (hbind s₁ (.ref a)) (.cons rfl .nil) (hsp H hO hS)) fun r s' h=>?_
    cases r with
    | error e=>exact (hCX H e s' h).elim
    | ok fl =>
      cases fl with
      | next=>exact False.elim h
      | brk=>exact False.elim h
      | cont=>exact False.elim h
      | ret u =>
        obtain ⟨v,H',os,bare,un,hok',r',q⟩:=h
        have q':v = .bl true:=q
        subst q'
        obtain rfl:u=Value.bool true:=r'
        refine ⟨rfl,OldK.of_keep fun b o e=>?_,os,bare⟩
        cases q:H b with
        | none=>exact un.keep b o e q (by intro z;exact absurd (show b∈([]:List Addr) from z) (by simp)) (by simp)
        | some u =>
          rcases hO b with z | ⟨ob,xs,z⟩
          · rw [q] at z;cases z
          · have z2:=un.frzs b ob _ z
            obtain ⟨e1,_⟩:=hok b _ z
            obtain ⟨e2,_⟩:=hok' b _ z2
            rw [e] at e1;cases e1
            exact e2
  cases hk:K.lookup a with
  | some o =>
    have e:=KX a o hk
    rw [ha] at e
    cases e
    refine core (fun _=>none) (fun _=>.inl rfl) (.inr ⟨_,vs.toArray,_,hk,rfl,rfl,rfl,by rw [List.size_toArray,lenV];exact hl,by simpa using rv⟩) (fun b u z=>by have z':(none:Option HO)=some u:=z;cases z') (fun b z=>absurd rfl z) fun z=>absurd rfl z
  | none =>
    refine core (fun b=>if b=a then some (.frz { cls:=.type "list",data:=.seq vs.toArray } (.lst (ns.map V.int))) else none) (fun b=>?_) (.inl (.inr ⟨{ cls:=.type "list",data:=.seq vs.toArray },if_pos rfl⟩)) (fun b u z=>?_) (fun b z=>?_) fun _=>hk
    · by_cases hb:b=a
      · exact .inr ⟨_,_,if_pos hb⟩
      · exact .inl (if_neg hb)
    · by_cases hb:b=a
      · have z':=(if_pos hb).symm.trans z
        cases z'
        subst hb
        exact ⟨ha,by rw [List.length_map];exact hl,vs,_,rv,ha⟩
      · have z':=(if_neg hb).symm.trans z
        cases z'
    · by_cases hb:b=a
      · exact hb
      · exact absurd (if_neg hb) z
end L2
namespace L2
open PySem PySem.Spec PyProof.Rows
theorem walk_of {l:PySem.W.OpenLaw} {n k:Nat} {q:Program} {loose:List Str} {XP:(Str→Option Value)→Heap→Prop} {YP:World→Heap→Prop} {d:DefRec} {K:Params→PySem.W.Frag} {CX:World→CXT} {sp:World→Sp} {x:Str}
    (hn:l.most=some n) (hn2:n≤sizeLine) (hdf:d.params.defaults=[]) (hr:Room k callerA)
    (hY:∀ (w:World) (h:Heap),YP w h→(K w.params).In h)
    (F:∀ (w:World) (mg:Str→Option Value) (fa:Addr) (h:Heap),(K w.params).In h→h.Ns mainGlobals mg→mg d.name=some (.ref fa) →
      ∃ fd:FuncData,(∀ (s:Shared) (u:Value),BindsTo s fd ⟨[u],[]⟩ [(x,u)]) ∧
        ∀ base:Heap,(K w.params).In base→base.Ns mainGlobals mg→FnOk l.prog w (K w.params) mg base (CX w) k fa fd [x] (sp w))
    (hsp:∀ (w:World) (H:Hp) (a:Addr) (ns:List Int),ns.length≤n→Only H→SqL (K w.params) H a (ns.map V.int)→sp w [.ref a] H (fun v _=>v = .bl true) fun _ _ _=>False)
    (hCX:∀ (w:World) (H:Hp) (s:Shared) (e:Value) (s':Shared),CX w [] H s (fun _ _ _=>False) e s'→False) :
    PySem.W.WalkO q loose XP YP l.row.toRowW d [] (fun f vs=>PySem.call f vs):=by
  refine Att.attach_call hn hdf fun w s₀ s₁ mg mb fa o pm cd doc a vs ns G Y ho hd hcd hmg hobj hints hlen hg=>?_
  have KX:=hY w _ Y
  obtain ⟨fd,hb,hF⟩:=F w mg fa _ KX G.T.g hmg
  exact law_call KX G.T.g G.T.b G.T.builtins G.T.nolimit hg hobj hints (Nat.le_trans hlen hn2) hr hF hb (fun H hO hS=>hsp w H a ns hlen hO hS) fun H e s'=>hCX w H s₁ e s'
end L2
namespace L2
open PySem PySem.Spec PyProof.Rows
noncomputable def defArgs (s:Stmt):Arguments:=match s with
  | .FunctionDef _ a _ _ _ _ _ _ _ _=>a
  | _=>{ posonlyargs:=[],args:=[],vararg:=none,kwonlyargs:=[],kw_defaults:=[],kwarg:=none,defaults:=[] }
noncomputable def defBody (s:Stmt):List Stmt:=match s with
  | .FunctionDef _ _ b _ _ _ _ _ _ _=>b
  | _=>[]
noncomputable def defScope (s:Stmt):Scope:=match s with
  | .FunctionDef _ _ _ _ _ _ sc _ _ _=>sc
  | _=>{ kind:=.function,names:=[],isGenerator:=false,isCoroutine:=false }
noncomputable abbrev CX0:CXT:=fun _ _ _ _ _ _=>False
noncomputable abbrev E0:XK:=fun _ _ _=>False
theorem pass0 {X:Cx}:Passes CX0 X E0:=fun _ _ _ _ _ _ _ h=>h.elim
structure Fun (K:PySem.W.Frag) (x qual:Str) (st:Stmt) (f:Addr) (fd:FuncData):Prop where
  ex:∃ (oc:Value) (od:Option Addr) (kV doc pm:Value) (an:Option Addr) (cdv ct:Value) (osl:Array (Option Value)),
    fd=PySem.W.fnOf x qual (defArgs st) (defBody st) (defScope st) .none kV doc pm an cdv ct∧K.lookup f=some ⟨oc,od,.func fd,osl⟩∧PySem.W.codeIn K cdv qual=true
  kp:PySem.W.keepIn K (.ref f)=true
section
variable {P:Program} {w:World} {K:PySem.W.Frag} {mg:Str→Option Value} {base:Heap}
theorem Fun.ok {x qual:Str} {st:Stmt} {f:Addr} {fd:FuncData} {N ps:List Str} {k:Nat} {sp:Sp} (F:Fun K x qual st f fd) (S:FnScope N ps (defScope st)) (len:∀ vs H Q E,sp vs H Q E→vs.length=ps.length)
    (hbody:∀ (cdv:Value) (A:Around) (outer:List Env) (s:Shared) (H:Hp) (vs:List V) (Q:VK) (E:XK),Room k (A.deeper (envOfC qual (defScope st) s.heap.objs.size f cdv))→sp vs H Q E →
      ∃ t,PSs (cxOf CX0 P w K mg base N qual (defScope st) f cdv A outer s H E).nox (defBody st) t∧t { nx:=fun _ H'=>Q .non H',rt:=Q } (start N vs) H):FnOk P w K mg base CX0 (k + 1) f fd ps sp:=by
  obtain ⟨oc,od,kV,doc,pm,an,cdv,ct,osl,rfl,lk,hcd⟩:=F.ex
  refine fn_of lk hcd S len fun A outer s H vs Q E hr hsp=>?_
  obtain ⟨t,h,q⟩:=hbody cdv A outer s H vs Q E hr hsp
  exact ⟨t,h.nox,q⟩
theorem Fun.binds {x qual:Str} {st:Stmt} {f:Addr} {fd:FuncData} {ps:List Str} (F:Fun K x qual st f fd)
    (h:∀ (kV doc pm:Value) (an:Option Addr) (cdv ct:Value) (us:List Value),us.length=ps.length→bindArgs (PySem.W.fnOf x qual (defArgs st) (defBody st) (defScope st) .none kV doc pm an cdv ct) ⟨us,[]⟩=pure (ps.zip us)):Binds K fd ps []:=by
  obtain ⟨oc,od,kV,doc,pm,an,cdv,ct,osl,rfl,lk,hcd⟩:=F.ex
  exact .all (h kV doc pm an cdv ct)
theorem fun_mk {x qual:Str} {st:Stmt} {f:Addr} {oc:Value} {od an:Option Addr} {osl:Array (Option Value)} {kV doc pm cdv ct:Value} (l:K.lookup f=some ⟨oc,od,.func (PySem.W.fnOf x qual (defArgs st) (defBody st) (defScope st) .none kV doc pm an cdv ct),osl⟩)
    (c:PySem.W.codeIn K cdv qual=true) (k:PySem.W.keepIn K (.ref f)=true):Fun K x qual st f (PySem.W.fnOf x qual (defArgs st) (defBody st) (defScope st) .none kV doc pm an cdv ct):=⟨⟨oc,od,kV,doc,pm,an,cdv,ct,osl,rfl,l,c⟩,k⟩
end
theorem hu_of {A:Around} {k:Nat} (hr:Room k A):A.units + 1 < cLine:=Nat.lt_of_le_of_lt (Nat.add_le_add_left (by decide:1≤64) _) hr.units
section
variable {X:Cx}
theorem pv (i:Nat) {x:Str} {pos:Pos} (hN:X.N[i]? = some x:=by rfl) (hv:Vis X.env.scope x:=by first | exact Or.inl rfl | exact Or.inr (Or.inl rfl) | exact Or.inr (Or.inr rfl)) (hd:(x == ("__debug__":Str))=false:=by decide)
    (hcd:(x == ("__classdict__":Str))=false:=by decide):PE X (.Name x pos) (tVar i):=pe_var hN hv hd hcd
end
theorem iteF {A B:Prop} (h:B):if false=true then A else B:=by
  rw [if_neg Bool.false_ne_true]
  exact h
theorem iteT {A B:Prop} (h:A):if true=true then A else B:=by
  rw [if_pos rfl]
  exact h
theorem ite2 {c A B:Prop} [Decidable c] (h1:c→A) (h2:¬ c→B):if c then A else B:=by
  by_cases h:c
  · rw [if_pos h]
    exact h1 h
  · rw [if_neg h]
    exact h2 h
theorem iteNS {c A B:Prop} [Decidable c] (hc:c) (h:B):if (!decide c)=true then A else B:=by
  rw [decide_eq_true hc]
  exact iteF h
noncomputable def Same (H H':Hp):Prop:=∀ b o,H b=some o→H' b=some o
theorem Same.refl (H:Hp):Same H H:=fun _ _ h=>h
theorem Same.trans {H H1 H2:Hp} (a:Same H H1) (b:Same H1 H2):Same H H2:=fun c o h=>b c o (a c o h)
theorem Same.free {H H':Hp} (e:Same H H') {l:Addr} (h:H' l=Option.none):H l=Option.none:=by
  cases q:H l with
  | none=>rfl
  | some o =>
    rw [e l o q] at h
    cases h
theorem Same.seq {K:PySem.W.Frag} {H H':Hp} {a:Addr} {xs:List V} (e:Same H H') (h:SqL K H a xs):SqL K H' a xs:=by
  rcases h with (h | ⟨o,h⟩) | h
  · exact .inl (.inl (e _ _ h))
  · exact .inl (.inr ⟨o,e _ _ h⟩)
  · exact .inr h
section
variable {κ:Type} [DecidableEq κ]
end
end L2
end
section
namespace L2
open PySem PySem.Spec PyProof.Rows
section
variable {X:Cx} {pins:List (Addr×Obj)} {σ:St} {H:Hp} {s:Shared}
theorem Inv.freeze {d:Addr} {kvs:List (Key×V)} (I:Inv X pins σ H s) (e:H d=some (.dK kvs)):∃ o,s.heap.get? d=some o∧Inv X pins σ (upd H d (.frz o (.dK kvs))) s:=by
  obtain ⟨z,hd,vs,rel,ob,es,ep,h1,h2⟩:=(show ObjOk X.prog X.w H s.heap d (.dK kvs) from I.hok d _ e)
  refine ⟨ob,h1,?_⟩
  exact I.write (x:=d) (e:=d) (o:=.frz ob (.dK kvs)) (h':=s.heap) (t':=s.toks) (by rw [e];trivial) (.inl rfl) (fun b u _ q=>q) ⟨_,h1⟩
    ⟨h1,show ObjOk X.prog X.w _ s.heap d (.dK kvs) from ⟨z,hd,vs,rel,ob,es,ep,h1,h2⟩⟩
theorem Inv.turnLaid {fp:List Addr} {a:Addr} {o:HO} {h':Heap} {t':Nat} (I:Inv X pins σ H s) (f:∀ b∈fp,FpOk X pins H b) (ha:s.heap.objs.size≤a)
    (k:∀ b u,b ∉ fp→s.heap.get? b=some u→h'.get? b=some u) (new:ObjOk X.prog X.w (upd H a o) h' a o):Inv X pins σ (upd H a o) { s with heap:=h',toks:=t' }:=by
  have hn:H a=none:=I.hok.fresh ha
  have lt:∀ b u,s.heap.get? b=some u→b≠a:=fun b u e=>Nat.ne_of_lt (Nat.lt_of_lt_of_le (Heap.lt_size e) ha)
  have nf:∀ b u,H b=some u→b ∉ fp:=fun b u e hb=>by rw [(f b hb).1] at e;cases e
  refine I.call (g':=s.gens) (d':=s.drawn) (ch:=fp) ⟨fun b u e n _ hx=>k b u hx e,fun b u e n _ hx=>⟨u.slots,k b u hx e⟩,fun b u e n hx=>by rw [upd_ne (lt b u e)];exact n,fun b u e hx=>⟨u,k b u hx e⟩,
    fun b xs e=>by rw [upd_ne (ne_of_none e hn)];exact e,fun b u xs e=>by rw [upd_ne (ne_of_none e hn)];exact e,fun b ps e=>⟨#[],by rw [upd_ne (ne_of_none e hn),e];simp⟩⟩ ?_ I.bare (fun b hb=>?_)
  · intro b u e
    by_cases hb:b=a
    · subst hb;rw [upd_same] at e;cases e;exact new
    · rw [upd_ne hb] at e
      refine (I.hok b u e).stay (fun c v hc q=>k c v ?_ q) (fun c q=>by rw [upd_ne (ne_of_none q hn)];exact q) fun c xs q=>by rw [upd_ne (ne_of_none q hn)];exact q
      rcases hc with z | z
      · rw [z];exact nf b u e
      · exact nf c _ z
  · obtain ⟨f0,f1,f2,f3,f4,f5⟩:=f b hb
    exact ⟨f3,f1,f4,f5⟩
theorem Inv.turnedAll {fp:List Addr} {h':Heap} {t':Nat} (I:Inv X pins σ H s) (f:∀ b∈fp,FpOk X pins H b) (k:∀ b u,b ∉ fp→s.heap.get? b=some u→h'.get? b=some u):Inv X pins σ H { s with heap:=h',toks:=t' }:=by
  have nf:∀ b u,H b=some u→b ∉ fp:=fun b u e hb=>by rw [(f b hb).1] at e;cases e
  refine I.call (g':=s.gens) (d':=s.drawn) (ch:=fp) ⟨fun b u e n _ hx=>k b u hx e,fun b u e n _ hx=>⟨u.slots,k b u hx e⟩,fun b u e n hx=>n,fun b u e hx=>⟨u,k b u hx e⟩,
    fun b xs e=>e,fun b u xs e=>e,fun b ps e=>⟨#[],by rw [e];simp⟩⟩ ?_ I.bare (fun b hb=>?_)
  · intro b u e
    refine (I.hok b u e).stay (fun c v hc q=>k c v ?_ q) (fun c q=>q) fun c xs q=>q
    rcases hc with z | z
    · rw [z];exact nf b u e
    · exact nf c _ z
  · obtain ⟨f0,f1,f2,f3,f4,f5⟩:=f b hb
    exact ⟨f3,f1,f4,f5⟩
theorem Inv.dictAt {d:Addr} {o:Obj} {kvs:List (Key×V)} (I:Inv X pins σ H s) (e:H d=some (.frz o (.dK kvs))):kvs.length≤sizeLine∧(d == sysModules)=false∧s.heap.get? d=some o ∧
    ∃ vs,KV kvs vs∧∀ es ep,o.data = .dict es ep→s.heap.DictAt (mixKind X.prog X.w) d vs ep:=by
  obtain ⟨h1,z,hd,vs,rel,o',es,ep,h2,h3,h4,h5⟩:=(show ObjOk X.prog X.w H s.heap d (.frz o (.dK kvs)) from I.hok d _ e)
  rw [h1] at h2
  cases h2
  refine ⟨z,hd,h1,vs,rel,fun es' ep' q=>?_⟩
  rw [h4] at q
  cases q
  exact ⟨o,es,h1,h3,h4,h5⟩
theorem Inv.dictEp {d:Addr} {o:Obj} {kvs:List (Key×V)} (I:Inv X pins σ H s) (e:H d=some (.frz o (.dK kvs))):∃ es ep,o.data = .dict es ep:=by
  obtain ⟨h1,z,hd,vs,rel,o',es,ep,h2,h3,h4,h5⟩:=(show ObjOk X.prog X.w H s.heap d (.frz o (.dK kvs)) from I.hok d _ e)
  rw [h1] at h2
  cases h2
  exact ⟨es,ep,h4⟩
end
theorem kV_rel {P:Program} {w:World} {k:Key} {u:Value} (h:(mixKind P w).is k u=true):RelV (kV k) u:=by
  rcases keyIs_shape (show keyIs k u=true from h) with ⟨i,t,rfl,rfl⟩ | ⟨x,t,rfl,rfl⟩
  · exact ⟨t,rfl⟩
  · exact ⟨t,rfl⟩
theorem KV.at {kvs:List (Key×V)} {vs:List (Key×Value)} (r:KV kvs vs) {i:Nat} {k:Key} {v:V} (e:kvs[i]? = some (k,v)):∃ u,vs[i]? = some (k,u)∧RelV v u:=by
  unfold KV at r
  induction r generalizing i with
  | nil=>simp at e
  | @cons p q ps qs h t ih =>
    cases i with
    | zero =>
      simp only [List.getElem?_cons_zero,Option.some.injEq] at e
      subst e
      obtain ⟨q1,q2⟩:=q
      obtain ⟨h1,h2⟩:=h
      dsimp only at h1 h2
      subst h1
      exact ⟨q2,by simp,h2⟩
    | succ i =>
      rw [List.getElem?_cons_succ] at e ⊢
      exact ih e
noncomputable def Itd (d:Addr) (o:Obj) (kvs:List (Key×V)):It :=
  ⟨fun i H=>H d=some (.frz o (.dK kvs))∧i < kvs.length,fun i H x H'=>H'=H∧∃ k v,kvs[i]? = some (k,v)∧x=kV k,fun i H=>H d=some (.frz o (.dK kvs))∧kvs.length≤i⟩
theorem turn_dict {P:Program} {w:World} {K:PySem.W.Frag} {tg:Expr} (d it:Addr) (o:Obj) (kvs:List (Key×V)) {es:Array DictEntry} {ep:Nat} (hep:o.data = .dict es ep) :
    Turn P w K tg (Itd d o kvs) [it] it (fun i h=>h.IsKeyIter it d i kvs.length ep) where
  mem:=by simp
  obj:=fun i h st b hb=>by
    have e:b=it:=by simpa using hb
    subst e
    obtain ⟨o,e,c,dd⟩:=st
    exact ⟨o,e,fun v z=>by rw [dd] at z;cases z⟩
  keep:=fun i h h' st k=>st.at fun o e=>k it (by simp) o e
  item:=by
    intro X hP hw hK hc i pins s σ H E I hf st hg
    subst hP hw hK
    obtain ⟨fz,hi⟩:=hg
    obtain ⟨z,hd,h1,vs,rel,da⟩:=I.dictAt fz
    obtain ⟨⟨k,v⟩,hk⟩:∃ p,kvs[i]? = some p:=⟨_,List.getElem?_eq_getElem hi⟩
    obtain ⟨u,hu,ru⟩:=rel.at hk
    obtain ⟨f0,f1,f2,f3,f4,f5⟩:=hf it (by simp)
    rw [rel.length] at st
    refine wpAny_pyNext_dict_item st (da es ep hep) hu fun key h' hkey st' sb=>?_
    have I1:Inv X pins σ H { s with heap:=h' }:=I.turned (t':=s.toks) (fun b o hb e=>(sb.2 b hb).trans e) f0 f1 f3 f4 f5
    obtain ⟨o',e,c,dd⟩:=id st'
    rw [← rel.length] at st'
    exact ⟨key,rfl,go_of (s:={ s with heap:=h' }) e c dd (by decide) ⟨kV k,H,I1,kV_rel hkey,⟨rfl,k,v,hk,rfl⟩,st',fun b hb=>(hf b hb).1⟩⟩
  done:=by
    intro X hP hw hK hc i pins s σ H E I hf st hg
    subst hP hw hK
    obtain ⟨fz,hi⟩:=hg
    obtain ⟨z,hd,h1,vs,rel,da⟩:=I.dictAt fz
    obtain ⟨f0,f1,f2,f3,f4,f5⟩:=hf it (by simp)
    have hn:vs[i]? = none:=List.getElem?_eq_none (by rw [← rel.length];exact hi)
    rw [rel.length] at st
    exact wpAny_pyNext_dict_end (I.ok.hd hc) st (da es ep hep) hn fun h' eb=>⟨rfl,I.turned (t':=s.toks) (fun b o hb e=>eb b o hb e) f0 f1 f3 f4 f5⟩
  self:=fun _ _ _ _ _ st h=>wpAny_pyIter_keyiter st h
noncomputable def iFz (J:Addr→Obj→List (Key×V)→It) (tl:TE):TI:=fun σ H R=>tl σ H fun x H1=>∃ d kvs,x = .ref d ∧
  ((H1 d=some (.dK kvs)∧∀ o,R (J d o kvs) (upd H1 d (.frz o (.dK kvs))))∨∃ o,H1 d=some (.frz o (.dK kvs))∧R (J d o kvs) H1)
theorem fz_go {X:Cx} {pins:List (Addr×Obj)} {σ:St} {H:Hp} {s:Shared} {d:Addr} {kvs:List (Key×V)} {J:Addr→Obj→List (Key×V)→It} {R:It→Hp→Prop} (I:Inv X pins σ H s)
    (h:(H d=some (.dK kvs)∧∀ o,R (J d o kvs) (upd H d (.frz o (.dK kvs))))∨∃ o,H d=some (.frz o (.dK kvs))∧R (J d o kvs) H) :
    ∃ o H',Inv X pins σ H' s∧H' d=some (.frz o (.dK kvs))∧R (J d o kvs) H':=by
  rcases h with ⟨e,h⟩ | ⟨o,e,h⟩
  · obtain ⟨o,_,I'⟩:=I.freeze e
    exact ⟨o,_,I',upd_same,h o⟩
  · exact ⟨o,H,I,e,h⟩
section
variable {X:Cx} {tg:Expr}
theorem pi_dict {l:Expr} {tl:TE} (hl:PE X l tl):PI X tg l (iFz Itd tl):=by
  intro pins s σ H R I h
  refine thn (hl pins s σ H _ I h) fun v s1 hpq=>?_
  obtain ⟨x,H1,I1,r1,q1⟩:=hpq
  obtain ⟨d,kvs,e,q⟩:=q1
  subst e
  cases r1
  obtain ⟨o,H2,I2,fz,q⟩:=fz_go I1 q
  obtain ⟨z,hd,h1,vs,rel,da⟩:=I2.dictAt fz
  obtain ⟨es,ep,hep⟩:=I2.dictEp fz
  refine wpAny_pyIter_dict hd (da es ep hep) ?_
  refine ⟨s1.heap.objs.size,[s1.heap.objs.size],_,_,H2,rfl,I2.kept (t':=s1.toks) fun b o e=>Heap.get?_push_of_some _ e,turn_dict d _ o kvs hep,⟨_,Heap.get?_push_size _ rfl,rfl,?_⟩,fun b hb=>?_,q⟩
  · rw [rel.length];rfl
  · have e:b=s1.heap.objs.size:=by simpa using hb
    subst e
    exact I2.fpOk (Nat.le_refl _) (I2.hok.fresh (Nat.le_refl _))
end
theorem for_dict {d:Addr} {o:Obj} {kvs:List (Key×V)} {g:TG} {tb:TS} {D:Ends} {σ:St} {H:Hp} (Pv:Nat→St→Hp→Prop) (h0:Pv 0 σ H) (hl:∀ i σ H,i≤kvs.length→Pv i σ H→H d=some (.frz o (.dK kvs)))
    (hs:∀ i k v σ H,kvs[i]? = some (k,v)→Pv i σ H→g (kV k) σ H fun σ2 H2=>tb { D with nx:=Pv (i + 1),ct:=Pv (i + 1),bk:=D.nx } σ2 H2) (hd:∀ σ H,Pv kvs.length σ H→D.nx σ H) :
    ∃ W:Nat→Nat→St→Hp→Prop,(∃ m,W 0 m σ H)∧∀ i m σ H,W i m σ H →
      ((Itd d o kvs).stop i H∧D.nx σ H)∨((Itd d o kvs).go i H∧∃ N:St→Hp→Prop,(∀ σ' H',N σ' H'→∃ m',m' < m∧W (i + 1) m' σ' H')∧∀ x H',(Itd d o kvs).yld i H x H'→g x σ H' fun σ2 H2=>tb { D with nx:=N,ct:=N,bk:=D.nx } σ2 H2):=by
  refine ⟨fun i m σ H=>m=kvs.length - i∧i≤kvs.length∧Pv i σ H,⟨kvs.length,by simp,Nat.zero_le _,h0⟩,?_⟩
  rintro i m σ H ⟨rfl,hi,p⟩
  have q:=hl i σ H hi p
  by_cases hlt:i < kvs.length
  · refine .inr ⟨⟨q,hlt⟩,Pv (i + 1),fun σ' H' p'=>⟨kvs.length - (i + 1),by omega,rfl,hlt,p'⟩,fun x H' y=>?_⟩
    obtain ⟨e,k,v,y,rfl⟩:=y
    subst e
    exact hs i k v σ _ y p
  · have e:i=kvs.length:=by omega
    subst e
    exact .inl ⟨⟨q,Nat.le_refl _⟩,hd σ H p⟩
noncomputable def Iti (d:Addr) (o:Obj) (kvs:List (Key×V)):It :=
  ⟨fun i H=>H d=some (.frz o (.dK kvs))∧i < kvs.length,fun i H x H'=>∃ a k v,kvs[i]? = some (k,v)∧H a=none∧x = .ref a∧H'=upd H a (.tup [kV k,v]),fun i H=>H d=some (.frz o (.dK kvs))∧kvs.length≤i⟩
theorem turn_items {P:Program} {w:World} {K:PySem.W.Frag} {elts:List Expr} {x1} {tpos:Pos} (d it:Addr) (o:Obj) (kvs:List (Key×V)) {es:Array DictEntry} {ep:Nat} (hep:o.data = .dict es ep) :
    Turn P w K (.Tuple elts x1 tpos) (Iti d o kvs) [it] it (fun i h=>∃ ok ov,IsItemIter h it d i kvs.length ep ok ov) where
  mem:=by simp
  obj:=fun i h st b hb=>by
    have e:b=it:=by simpa using hb
    subst e
    obtain ⟨ok,ov,e⟩:=st
    exact ⟨_,e,fun v z=>nomatch z⟩
  keep:=fun i h h' st k=>by
    obtain ⟨ok,ov,e⟩:=st
    exact ⟨ok,ov,k it (by simp) _ e⟩
  item:=by
    intro X hP hw hK hc i pins s σ H E I hf st hg
    subst hP hw hK
    obtain ⟨fz,hi⟩:=hg
    obtain ⟨ok,ov,st⟩:=st
    obtain ⟨z,hd,h1,vs,rel,da⟩:=I.dictAt fz
    obtain ⟨⟨k,v⟩,hk⟩:∃ p,kvs[i]? = some p:=⟨_,List.getElem?_eq_getElem hi⟩
    obtain ⟨u,hu,ru⟩:=rel.at hk
    rw [rel.length] at st
    have hit:it < s.heap.objs.size:=Heap.lt_size st
    refine wpAny_pyNext_items_item st (da es ep hep) hu fun key h' hkey hout htup hsz hkp=>⟨_,rfl,?_⟩
    refine wpAny_letOwnedTupleGo_items (s:={ s with heap:=h' }) hout fun h2 st2 sb=>?_
    have tup2:h2.get? s.heap.objs.size=some { cls:=.type "tuple",data:=.seq #[key,u] }:=(sb.2 _ (Nat.ne_of_gt hit)).trans htup
    refine ⟨.ref s.heap.objs.size,upd H s.heap.objs.size (.tup [kV k,v]),?_,rfl,⟨_,k,v,hk,I.hok.fresh (Nat.le_refl _),rfl,rfl⟩,⟨key,u,by rw [rel.length];exact st2⟩,fun b hb=>?_⟩
    · refine I.turnLaid (fp:=[it]) (t':=s.toks) hf (Nat.le_refl _) (fun b o' hb e=>?_) ⟨by show 2≤sizeLine;decide,[key,u],.cons (kV_rel hkey) (.cons ru .nil),⟨_,tup2,rfl,_,rfl⟩⟩
      have hb:b≠it:=by simpa using hb
      exact (sb.2 b hb).trans (hkp b o' hb e)
    · have e:b=it:=by simpa using hb
      subst e
      rw [upd_ne (Nat.ne_of_lt hit)]
      exact (hf b (by simp)).1
  done:=by
    intro X hP hw hK hc i pins s σ H E I hf st hg
    subst hP hw hK
    obtain ⟨fz,hi⟩:=hg
    obtain ⟨ok,ov,st⟩:=st
    obtain ⟨z,hd,h1,vs,rel,da⟩:=I.dictAt fz
    obtain ⟨f0,f1,f2,f3,f4,f5⟩:=hf it (by simp)
    have hn:vs[i]? = none:=List.getElem?_eq_none (by rw [← rel.length];exact hi)
    rw [rel.length] at st
    exact wpAny_pyNext_items_end (I.ok.hd hc) st (da es ep hep) hn fun h' eb=>⟨rfl,I.turned (t':=s.toks) (fun b o hb e=>eb b o hb e) f0 f1 f3 f4 f5⟩
  self:=fun A i s Q E st h=>by
    obtain ⟨ok,ov,st⟩:=st
    exact PySem.W.kcp_self st h
section
variable {X:Cx}
theorem pi_items {o:Expr} {tl:TE} {elts:List Expr} {x1} {tpos apos cpos:Pos} (hl:PE X o tl) (hbase:attributeBase o "items" X.env (eval o X.env)=eval o X.env:=by rfl) (hline:(apos.endLine == cpos.line)=true:=by rfl) :
    PI X (.Tuple elts x1 tpos) (.Call (.Attribute o "items" apos) [] [] cpos) (iFz Iti tl):=by
  intro pins s σ H R I h
  refine wpAny_Call_method (T:="dict") (id:="dict.items") hbase rfl hline PySem.F.plainAttrs_dict PySem.F.slot_dict_items PySem.F.type_dict_items (thn (hl pins s σ H _ I h) fun v s1 hpq=>?_)
  obtain ⟨x,H1,I1,r1,q1⟩:=hpq
  obtain ⟨d,kvs,e,q⟩:=q1
  subst e
  cases r1
  obtain ⟨ob,H2,I2,fz,q⟩:=fz_go I1 q
  obtain ⟨z,hd,h1,vs,rel,da⟩:=I2.dictAt fz
  obtain ⟨es,ep,hep⟩:=I2.dictEp fz
  have dd:=(da es ep hep)
  refine ⟨dd.dictOf.typeIs,dd.dictOf.mapOf.noDict,?_⟩
  refine method_meetsIn PySem.F.slot_dict_items PySem.F.entry_dict_items rfl (PySem.evalArgs_none ⟨rfl,dd.dictOf.typeIs,PySem.F.args_dict_items_1 _,_,meets_dict_items (mixKind X.prog X.w) d hd,⟨vs,dd.dictOf⟩,?_⟩)
  have I3:Inv X pins σ H2 { s1 with heap:=s1.heap.push { cls:=.type "dict_items",data:=.fields #[.ref d] } }:=I2.kept (t':=s1.toks) fun b o e=>Heap.get?_push_of_some _ e
  refine wpAny_pyIter_items (knd:=mixKind X.prog X.w) (d:=d) (kvs:=vs) (ep:=ep) ⟨_,Heap.get?_push_size _ rfl,rfl,rfl⟩ (dd.push _) ?_
  refine ⟨_,[_],_,_,H2,rfl,I3.kept (t':=s1.toks) fun b o e=>Heap.get?_push_of_some _ e,turn_items d _ ob kvs hep,⟨.none,.none,?_⟩,fun b hb=>?_,q⟩
  · rw [rel.length];exact Heap.get?_push_size _ rfl
  · have e:=List.mem_singleton.mp hb
    subst e
    exact I3.fpOk (Nat.le_refl _) (I3.hok.fresh (Nat.le_refl _))
end
theorem for_items {d:Addr} {o:Obj} {kvs:List (Key×V)} {g:TG} {tb:TS} {D:Ends} {σ:St} {H:Hp} (Pv:Nat→St→Hp→Prop) (h0:Pv 0 σ H) (hl:∀ i σ H,i≤kvs.length→Pv i σ H→H d=some (.frz o (.dK kvs)))
    (hs:∀ i k v a σ H,kvs[i]? = some (k,v)→H a=none→Pv i σ H→g (.ref a) σ (upd H a (.tup [kV k,v])) fun σ2 H2=>tb { D with nx:=Pv (i + 1),ct:=Pv (i + 1),bk:=D.nx } σ2 H2) (hd:∀ σ H,Pv kvs.length σ H→D.nx σ H) :
    ∃ W:Nat→Nat→St→Hp→Prop,(∃ m,W 0 m σ H)∧∀ i m σ H,W i m σ H →
      ((Iti d o kvs).stop i H∧D.nx σ H)∨((Iti d o kvs).go i H∧∃ N:St→Hp→Prop,(∀ σ' H',N σ' H'→∃ m',m' < m∧W (i + 1) m' σ' H')∧∀ x H',(Iti d o kvs).yld i H x H'→g x σ H' fun σ2 H2=>tb { D with nx:=N,ct:=N,bk:=D.nx } σ2 H2):=by
  refine ⟨fun i m σ H=>m=kvs.length - i∧i≤kvs.length∧Pv i σ H,⟨kvs.length,by simp,Nat.zero_le _,h0⟩,?_⟩
  rintro i m σ H ⟨rfl,hi,p⟩
  have q:=hl i σ H hi p
  by_cases hlt:i < kvs.length
  · refine .inr ⟨⟨q,hlt⟩,Pv (i + 1),fun σ' H' p'=>⟨kvs.length - (i + 1),by omega,rfl,hlt,p'⟩,fun x H' y=>?_⟩
    obtain ⟨a,k,v,y,hn,rfl,rfl⟩:=y
    exact hs i k v a σ _ y hn p
  · have e:i=kvs.length:=by omega
    subst e
    exact .inl ⟨⟨q,Nat.le_refl _⟩,hd σ H p⟩
section
variable {X:Cx}
end
theorem vals_of_items {P:Nat→Value→Prop} {acc:Array Value} {ks:List V} (h:ItemsOf P acc ks.length) (hp:∀ (i:Nat) (v:V) (u:Value),ks[i]? = some v→P i u→RelV v u):Vals ks acc.toList:=by
  have go:∀ (ks:List V) (us:List Value),us.length=ks.length→(∀ (i:Nat) (v:V) (u:Value),ks[i]? = some v→us[i]? = some u→RelV v u)→Vals ks us:=by
    intro ks
    induction ks with
    | nil=>intro us hl _;cases us with
      | nil=>exact .nil
      | cons _ _=>simp at hl
    | cons k ks ih=>intro us hl hr;cases us with
      | nil=>simp at hl
      | cons u us=>exact .cons (hr 0 k u rfl rfl) (ih us (by simpa using hl) fun i v w e1 e2=>hr (i + 1) v w (by simpa using e1) (by simpa using e2))
  refine go ks acc.toList (by rw [Array.length_toList];exact h.1) fun i v u e1 e2=>hp i v u e1 (h.2 i u ?_)
  rw [← Array.getElem?_toList];exact e2
section
variable {X:Cx}
theorem eqAt_rel {A:Around} {s:Shared} {v:V} {u u':Value} (h:(∃ i,v = .int i)∨(∃ x,v = .str x)∨∃ a,v = .ref a) (r:RelV v u) (r':RelV v u'):SeqAt.EqAt A s u u' true:=by
  rcases h with ⟨i,rfl⟩ | ⟨x,rfl⟩ | ⟨a,rfl⟩
  · obtain ⟨t,rfl⟩:=r
    obtain ⟨t',rfl⟩:=r'
    have:=SeqAt.EqAt.int_int (A:=A) (s:=s) i t i t'
    simpa using this
  · obtain ⟨t,rfl⟩:=r
    obtain ⟨t',rfl⟩:=r'
    have:=SeqAt.EqAt.str_str (A:=A) (s:=s) x t x t'
    simpa using this
  · cases r
    cases r'
    exact SeqAt.EqAt.same _
end
end L2
end
section
namespace L2
open PySem PySem.Spec PyProof.Rows
noncomputable def compCx (X:Cx) (N':List Str) (scope:Scope) (cl:List (Str×Addr)) (C:Addr) (s₀:Shared) (H₀:Hp) (ex:List Addr) (pn:List (Addr×Obj)) (xe:Value→Shared→Prop):Cx :=
  { prog:=X.prog,w:=X.w,K:=X.K,mg:=X.mg,base:=X.base,A:=X.A,N:=N',s₀:=s₀,H₀:=H₀,env:=compEnvC scope cl C X.env,outer:=X.stack,stack:=X.stack,ex:=ex,fn:=fun _=>false,calm:=X.calm,pn:=pn,xe:=xe }
structure CompOk (X:Cx) (N':List Str) (scope:Scope) (cl:List (Str×Addr)):Prop where
  clos:closureFor scope X.env=pure cl
  nocell:∀ y∈scope.names,y.2≠.cell
  kind:scope.kind = .function
  names:∀ y∈scope.names,y.2 = .local→scope.names.lookup y.1=some .local
  sub:∀ x c,cl.lookup x=some c→X.env.cells.lookup x=some c
  has:∀ x,((relabel scope X.env).names.lookup x=some .cell∨(relabel scope X.env).names.lookup x=some .free)→∃ c,cl.lookup x=some c
noncomputable def Capt (X:Cx) (N':List Str) (scope:Scope) (cl:List (Str×Addr)) (σ σb:St):Prop :=
  σb.length=N'.length∧∀ (i:Nat) (x:Str) (v:V),N'[i]? = some x→σb[i]? = some (some v)→∃ j:Nat,X.N[j]? = some x∧σ[j]? = some (some v)∧X.env.scope.names.lookup x=some .cell ∧
    (relabel scope X.env).names.lookup x=some .cell
section
variable {X:Cx} {elt iter:Expr} {x:Str} {px pos:Pos} {scope:Scope} {N':List Str} {cl:List (Str×Addr)} {wi:TI} {te:TE} {iw:Nat}
theorem comp_ok {pins:List (Addr×Obj)} {σ:St} {H:Hp} {s:Shared} {fp:List Addr} {C:Addr} {xe:Value→Shared→Prop} (I:Inv X pins σ H s) (hc:X.calm=true) (O:CompOk X N' scope cl) (f:∀ b∈fp,FpOk X pins H b) (hC:s.heap.objs.size≤C)
    (hfp:∀ b∈fp,b < s.heap.objs.size):(compCx X N' scope cl C s H fp (X.pn++pins) xe).Ok where
  mod:=I.ok.mod
  kind:=O.kind
  glob:=I.ok.glob
  blt:=I.ok.blt
  above:=hC
  inj:=fun x y c e1 e2=>I.ok.inj x y c (O.sub x c e1) (O.sub y c e2)
  has:=fun x h=>O.has x h
  cab:=fun x c h=>by cases h
  hd:=fun _=>I.ok.hd hc
  frames:=I.ok.frames
  stk:=.inl rfl
  exf:=fun b hb=>⟨Nat.ne_of_lt (Nat.lt_of_lt_of_le (hfp b hb) hC),fun x c e=>(f b hb).2.2.2.2.1 x c (O.sub x c e)⟩
  bs:=I.bs
  bsz:=Nat.le_trans I.ok.bsz I.sz
  noex:=fun b o e hb=>by
    rcases (f b hb).2.2.2.1 with q | q
    · exact I.ok.noex b o e q
    · exact absurd (Nat.lt_of_lt_of_le (Heap.lt_size e) (Nat.le_trans I.ok.bsz q)) (Nat.lt_irrefl _)
  exfs:=fun b hb z=>by
    rcases List.mem_cons.mp (I.stkSub b z) with q | q
    · exact (f b hb).2.1 q
    · exact (f b hb).2.2.1 q
  funs:=I.stack
  frf:=I.stkFree
theorem comp_start {pins:List (Addr×Obj)} {σ σb:St} {H:Hp} {s:Shared} {fp:List Addr} {C D:Addr} {xe:Value→Shared→Prop} {h1:Heap} {tk:Nat} {m:Str→Option Value} (I:Inv X pins σ H s) (hc:X.calm=true) (O:CompOk X N' scope cl)
    (cap:Capt X N' scope cl σ σb) (f:∀ b∈fp,FpOk X pins H b) (hfp:∀ b∈fp,b < s.heap.objs.size) (hC:s.heap.objs.size≤C) (hD:s.heap.objs.size≤D) (hDC:D≠C)
    (k:∀ b u,s.heap.get? b=some u→h1.get? b=some u) (hns:h1.Ns C m) (hDo:h1.get? D=some { cls:=.type "list",data:=.seq #[] }) :
    Inv (compCx X N' scope cl C s H fp (X.pn++pins) xe) [] σb (upd H D (.lst [])) { s with heap:=h1,toks:=tk }:=by
  have hn:H D=none:=I.hok.fresh hD
  have ltD:∀ b u,s.heap.get? b=some u→b≠D:=fun b u e=>Nat.ne_of_lt (Nat.lt_of_lt_of_le (Heap.lt_size e) hD)
  have ltC:∀ b u,s.heap.get? b=some u→b≠C:=fun b u e=>Nat.ne_of_lt (Nat.lt_of_lt_of_le (Heap.lt_size e) hC)
  refine ⟨comp_ok I hc O f hC hfp,rfl,I.bare,Un.laid k hD hn,⟨m,hns,fun i x v e1 e2 e3=>?_⟩,fun x c e=>?_,?_,fun x c e=>?_,fun p hp=>?_,I.hok.laid k hD ?_,cap.1⟩
  · obtain ⟨j,q1,q2,q3,q4⟩:=cap.2 i x v e1 e2
    obtain ⟨m0,hn0,l0⟩:=I.loc
    obtain ⟨u,ru,lk⟩:=l0 j x v q1 q2 (.inr (.inl q3))
    refine ⟨u,ru,.inr ⟨.inl q4,?_⟩⟩
    rcases lk with ⟨z,_⟩ | ⟨_,c,hc2,cell⟩
    · have z:X.env.scope.names.lookup x=some .local:=z
      rw [q3] at z;cases z
    · obtain ⟨c',hc'⟩:=O.has x (.inl q4)
      have e:=O.sub x c' hc'
      rw [hc2] at e
      cases e
      obtain ⟨o,ho,hd⟩:=cell
      exact ⟨c,hc',o,k c o ho,hd⟩
  · obtain ⟨v,o,ho,hd⟩:=I.cell x c (O.sub x c e)
    exact ⟨v,o,k c o ho,hd⟩
  · show upd H D (.lst []) C=none
    rw [upd_ne (Ne.symm hDC)];exact I.hok.fresh hC
  · obtain ⟨v,o,ho,hd⟩:=I.cell x c (O.sub x c e)
    show upd H D (.lst []) c=none
    rw [upd_ne (ltD c o ho)];exact I.freeC x c (O.sub x c e)
  · have hp:p∈X.pn++pins:=by
      have hp:p∈(X.pn++pins)++[]:=hp
      simpa using hp
    obtain ⟨e,n,ne,nf,d⟩:=I.pin p hp
    refine ⟨k _ _ e,by rw [upd_ne (ltD _ _ e)];exact n,ltC _ _ e,fun z=>?_,d⟩
    rcases List.mem_cons.mp (I.stkSub _ z) with q | q
    · exact ne q
    · exact nf q
  · exact ⟨Nat.zero_le _,[],0,.nil,hDo⟩
theorem comp_end {pins pins':List (Addr×Obj)} {σ σ':St} {H H':Hp} {s s':Shared} {fp:List Addr} {C:Addr} {xe:Value→Shared→Prop} {h':Heap} (I:Inv X pins σ H s) (f:∀ b∈fp,FpOk X pins H b) (hC:s.heap.objs.size≤C)
    (I':Inv (compCx X N' scope cl C s H fp (X.pn++pins) xe) pins' σ' H' s') (sb:Heap.SameBut C s'.heap h'):Inv X pins σ H' { s' with heap:=h' }:=by
  have ltC:∀ b u,s.heap.get? b=some u→b≠C:=fun b u e=>Nat.ne_of_lt (Nat.lt_of_lt_of_le (Heap.lt_size e) hC)
  have u:Un (frs X.stack) fp H H' s.heap s'.heap:=I'.base
  have hC':H' C=none:=I'.free
  refine I.call' (s':={ s' with heap:=h' }) (ch:=fp) I'.os ⟨fun b o e n hb hx=>(sb.2 b (ltC b o e)).trans (u.keep b o e n hb hx),fun b o e n hb hx=>?_,u.free,fun b o e hx=>?_,u.tups,u.frzs,u.tbls⟩ ?_ I'.bare (fun b hb=>?_)
  · obtain ⟨sl,q⟩:=u.slot b o e n hb hx
    exact ⟨sl,(sb.2 b (ltC b o e)).trans q⟩
  · obtain ⟨o',q⟩:=u.there b o e hx
    exact ⟨o',(sb.2 b (ltC b o e)).trans q⟩
  · intro b o e
    refine (I'.hok b o e).stay (fun c v hc q=>(sb.2 c ?_).trans q) (fun c q=>q) fun c xs q=>q
    rcases hc with z | z
    · rw [z];intro z2;rw [z2,hC'] at e;cases e
    · intro z2;rw [z2,hC'] at z;cases z
  · obtain ⟨f0,f1,f2,f3,f4,f5⟩:=f b hb
    exact ⟨f3,f1,f4,f5⟩
end
end L2
end
section
namespace L2
open PySem PySem.Spec PyProof.Rows Tim
section
variable {X:Cx} {pins:List (Addr×Obj)} {σ:St} {H:Hp} {s:Shared}
theorem Inv.track {a:Addr} {o:HO} (I:Inv X pins σ H s) (ha:X.s₀.heap.objs.size≤a) (f:FpOk X pins H a) (new:ObjOk X.prog X.w (upd H a o) s.heap a o):Inv X pins σ (upd H a o) s:=by
  obtain ⟨f0,f1,f2,f3,f4,f5⟩:=f
  refine ⟨I.ok,I.os,I.bare,⟨I.base.keep,I.base.slot,fun b ob e n hx=>?_,I.base.there,fun b xs e=>?_,fun b u xs e=>?_,fun b ps e=>?_⟩,I.loc,I.cell,?_,fun x c e=>?_,fun p hp=>?_,fun b u e=>?_,I.len⟩
  · rw [upd_ne (Nat.ne_of_lt (Nat.lt_of_lt_of_le (Heap.lt_size e) ha))];exact I.base.free b ob e n hx
  · have q:=I.base.tups b xs e
    rw [upd_ne (ne_of_none q f0)];exact q
  · have q:=I.base.frzs b u xs e
    rw [upd_ne (ne_of_none q f0)];exact q
  · obtain ⟨more,q⟩:=I.base.tbls b ps e
    exact ⟨more,by rw [upd_ne (ne_of_none q f0)];exact q⟩
  · rw [upd_ne (Ne.symm f1)];exact I.free
  · rw [upd_ne (f4 x c e)];exact I.freeC x c e
  · obtain ⟨e,n,r⟩:=I.pin p hp
    exact ⟨e,by rw [upd_ne (f5 p hp)];exact n,r⟩
  · by_cases hb:b=a
    · subst hb;rw [upd_same] at e;cases e;exact new
    · rw [upd_ne hb] at e
      exact (I.hok b u e).stay (fun c v _ q=>q) (fun c q=>by rw [upd_ne (ne_of_none q f0)];exact q) fun c xs q=>by rw [upd_ne (ne_of_none q f0)];exact q
theorem strsAre_of {ss:List Str}:∀ {us:List Value},Vals (ss.map V.str) us→StrsAre us ss:=by
  induction ss with
  | nil=>intro us r;rw [List.map_nil] at r;cases r;exact .nil
  | cons x ss ih =>
    intro us r
    rw [List.map_cons] at r
    cases r with
    | cons r1 r2 =>
      obtain ⟨t,e⟩:=r1
      subst e
      exact .cons x t (ih r2)
theorem vals_of_strs:∀ {us:List Value} {ss:List Str},StrsAre us ss→Vals (ss.map V.str) us
  | _,_,.nil=>.nil
  | _,_,.cons x t h=>.cons ⟨t,rfl⟩ (vals_of_strs h)
noncomputable def Src (X:Cx) (pins:List (Addr×Obj)) (σ:St) (H:Hp) (s:Shared) (l:Addr) (ss:List Str):Prop :=
  ∀ (E:Value→Shared→Prop) (Q:List Value→Shared→Prop),(∀ (s':Shared) (vs:List Value),Inv X pins σ H s'→X.s₀.heap.objs.size≤s'.heap.objs.size→Vals (ss.map V.str) vs→Q vs s')→wpAny (model X.prog X.w) X.A.in1 (collect (.ref l)) Q E s
theorem src_list {l:Addr} {ss:List Str} (I:Inv X pins σ H s) (h:SqL X.K H l (ss.map V.str)):Src X pins σ H s l ss:=by
  intro E Q q
  obtain ⟨its,r,p,hz⟩:=I.list h
  refine collect_list p.isList (q _ its (I.kept (t':=s.toks) fun b o e=>?_) ?_ r) (by rw [← r.length];exact hz)
  · exact (Heap.get?_update_other _ _ (Nat.ne_of_gt (Heap.lt_size e))).trans (Heap.get?_push_of_some _ e)
  · show _≤((s.heap.push (seqObj "list" #[] 0)).update s.heap.objs.size _).objs.size
    rw [Heap.size_update,size_push']
    exact Nat.le_succ_of_le I.sz
theorem src_dict {d:Addr} {kvs:List (Key×V)} {ss:List Str} (I:Inv X pins σ H s) (hc:X.calm=true) (h:Rd H d (.dK kvs)) (hk:kvs.map (fun p=>kV p.1)=ss.map V.str):Src X pins σ H s d ss:=by
  intro E Q q
  obtain ⟨z,hd,vs,rel,dd⟩:=dk_rd I.hok h
  obtain ⟨ep,da⟩:=dd.dictAt
  refine PySem.W.kdu_collect (PySem.W.kdl_dict (knd:=mixKind X.prog X.w) (kvs:=vs) (ep:=ep) hd) (I.ok.hd hc) da (by rw [← rel.length];exact z) fun h' tk acc kp hit=>?_
  have I1:Inv X pins σ H { s with heap:=h',toks:=tk }:=I.kept kp
  refine q _ _ I1 I1.sz ?_
  rw [← hk]
  refine vals_of_items (P:=fun i v=>∃ k x,vs[i]? = some (k,x)∧(mixKind X.prog X.w).is k v=true) (by rw [List.length_map,rel.length];exact hit) ?_
  rintro i v u e ⟨k,x,e2,e3⟩
  rw [List.getElem?_map] at e
  cases e4:kvs[i]? with
  | none=>rw [e4] at e;cases e
  | some p =>
    rw [e4] at e
    obtain ⟨k',v'⟩:=p
    obtain ⟨u',e5,_⟩:=rel.at e4
    rw [e2] at e5
    cases e5
    cases e
    exact kV_rel e3
theorem sorted_texts {l:Addr} {ss:List Str} {Q:VK} {E:Value→Shared→Prop} (I:Inv X pins σ H s) (hl:Src X pins σ H s l ss) (hn:ss.Nodup) (hz:ss.length≤sizeLine)
    (q:∀ (a:Addr) (ss':List Str),H a=none→ss'.Perm ss→ss'.Pairwise Slt→Q (.ref a) (upd H a (.lst (ss'.map V.str)))):wpAny (model X.prog X.w) X.A (call (.builtin "sorted") [.ref l]) (EP X pins σ Q) E s:=by
  refine Calls.call_function_entry kind_sorted plain_sorted entry_sorted (args_sorted1 _) ?_
  unfold Builtin.«sorted»
  refine wpAny_bind (m:=checkCount "sorted" 1 1 _) (wpAny_pure (wpAny_bind (hl _ _ fun s1 vs I1 hs1 r=>?_)))
  have hS:=strsAre_of r
  have hvl:vs.length=ss.length:=by rw [← r.length,List.length_map]
  refine wpAny_bind (wpAny_newList ?_ (by rw [hvl];exact hz))
  have hoL:(s1.heap.push (seqObj "list" vs.toArray 0)).get? s1.heap.objs.size=some (seqObj "list" vs.toArray 0):=Heap.get?_push_size _ rfl
  refine wpAny_bind (wpAny_holding (wpAny_call_entry slot_list_sort ⟨_,hoL,rfl⟩ entry_list_sort (sort_strs hoL hS hn (by rw [hvl];exact hz) fun out ss' a1 a2 a3=>⟨_,rfl,?_⟩) (args_list_sort _)))
  refine wpAny_pure ⟨_,rfl,.ref s1.heap.objs.size,_,?_,rfl,q s1.heap.objs.size ss' (I1.hok.fresh (Nat.le_refl _)) a2 a3⟩
  have old:∀ b o,s1.heap.get? b=some o→(sortedHeap (s1.heap.push (seqObj "list" vs.toArray 0)) s1.heap.objs.size vs out).get? b=some o:=fun b o e=>by
    rw [sortedHeap_old (Nat.ne_of_lt (Heap.lt_size e)) (by rw [size_push'];exact Nat.lt_succ_of_lt (Heap.lt_size e))]
    exact Heap.get?_push_of_some _ e
  obtain ⟨c,hat⟩:=sortedHeap_at (out:=out) hoL
  exact I1.laid (a:=s1.heap.objs.size) (o:=.lst (ss'.map V.str)) (t':=s1.toks) old (Nat.le_refl _) ⟨by rw [List.length_map,a2.length_eq];exact hz,out.toList,c,vals_of_strs a1,by simpa using hat⟩
end
section
variable {X:Cx}
theorem call_sorted (hc:X.calm=true):CallR X (.builtin "sorted") (fun xs H Q=>∃ (l:Addr) (ss:List Str),xs=[.ref l]∧SqL X.K H l (ss.map V.str)∧ss.Nodup∧∀ (a:Addr) (ss':List Str),H a=none→ss'.Perm ss→ss'.Pairwise Slt→Q (.ref a) (upd H a (.lst (ss'.map V.str)))):=by
  intro pins s σ H xs us Q I r h
  obtain ⟨l,ss,rfl,hq,hn,q⟩:=h
  obtain ⟨u,rfl,rx⟩:=vals1 r
  cases rx
  obtain ⟨its,_,_,hz⟩:=I.list hq
  exact sorted_texts I (src_list I hq) hn (by rw [List.length_map] at hz;exact hz) q
end
noncomputable def KeyCall (X:Cx) (σ:St) (f:Value) (ss:List Str) (Φ:Nat→List V→Hp→Prop):Prop :=
  ∀ (i:Nat) (x:Str) (t:Tok) (ks:List V) (H:Hp) (s:Shared) (pins:List (Addr×Obj)),ss[i]? = some x→Inv X pins σ H s→Φ i ks H →
    wpAny (model X.prog X.w) X.A.in1.in1 (call f [.str x t]) (fun k s'=>∃ kv H',Inv X pins σ H' s'∧RelV kv k∧Φ (i + 1) (ks++[kv]) H') (fun _ _=>False) s
section
variable {X:Cx} {pins:List (Addr×Obj)} {σ:St} {H:Hp} {s:Shared}
theorem Inv.repin {pins':List (Addr×Obj)} (I:Inv X pins σ H s) (h:∀ p∈pins',p∈pins):Inv X pins' σ H s:=I.pins_of fun p hp=>I.pin p (List.mem_append_right _ (h p hp))
theorem Inv.addPin {p:Addr×Obj} (I:Inv X pins σ H s) (e:s.heap.get? p.1=some p.2) (f:FpOk X pins H p.1) (d:∀ v,p.2.data≠.cell v):Inv X (p :: pins) σ H s :=
  I.pins_of fun q hq=>by
    rcases List.mem_cons.mp hq with z | z
    · subst z;exact ⟨e,f.1,f.2.1,f.2.2.1,d⟩
    · exact I.pin q (List.mem_append_right _ z)
theorem sort_keyed {a:Addr} {n:Nat} {f:Value} {vs:List Value} {ss:List Str} {Φ:Nat→List V→Hp→Prop} {O:KeyOrd} {key:Heap→Keyed→O.α} {kd:SortKind} {R:Str→Str→Prop} {Q:VK} {E:Value→Shared→Prop}
    (I:Inv X pins σ H s) (ha0:X.s₀.heap.objs.size≤a) (fa:FpOk X pins H a) (ho:s.heap.get? a=some (seqObj "list" vs.toArray n)) (hS:StrsAre vs ss) (hn:ss.Nodup) (hz:vs.length≤sizeLine)
    (h0:Φ 0 [] H) (hcall:KeyCall X σ f ss Φ)
    (hO:∀ (s':Shared) (H':Hp) (pins':List (Addr×Obj)) (ks:List V) (keys:Array Value),Inv X pins' σ H' s'→Φ ss.length ks H'→Vals ks keys.toList→keys.size=vs.length →
      LtOk X.prog X.w X.A.in1.in1 s' kd (keys.zip vs.toArray) (odOf O (key s'.heap) (keys.zip vs.toArray)) ∧
      (2≤vs.length→∀ (E:Value→Shared→Prop) (Q:SortKind→Shared→Prop),Q kd s'→wpAny (model X.prog X.w) X.A.in1.in1 (keyKind' keys) Q E s') ∧
      ∀ p q,p∈(keys.zip vs.toArray).toList→q∈(keys.zip vs.toArray).toList→Od.lt (odOf O (key s'.heap) (keys.zip vs.toArray)) p q→R (strOf p.2) (strOf q.2))
    (q:∀ (ks:List V) (H':Hp) (ss':List Str),H' a=none→Φ ss.length ks H'→ss'.Perm ss→ss'.Pairwise R→Q (.ref a) (upd H' a (.lst (ss'.map V.str)))) :
    wpAny (model X.prog X.w) X.A.in1.in1 (ksk_tree a f false) (fun fin s'=>∃ v,fin = .done (.ret v)∧EP X pins σ Q (.ref a) s') E s:=by
  have hvl:vs.length=ss.length:=by have:=hS.strs;rw [← this,List.length_map]
  have hal:a < s.heap.objs.size:=Heap.lt_size ho
  have hsz0:vs.toArray.size≤sizeLine:=by rw [List.size_toArray];exact hz
  unfold ksk_tree
  refine wpAny_bind (listItems_at ho rfl (wpAny_bind (listUpdate_at ho rfl ?_ hsz0 (Nat.zero_le _))))
  obtain ⟨e1,ho1⟩:∃ e1,(s.heap.update a (Obj.mapSeq fun _=>(#[]:Array Value))).get? a=some (seqObj "list" #[] e1):=⟨_,get?_update_seq ho fun _=>#[]⟩
  have I1:Inv X pins σ H { s with heap:=s.heap.update a (Obj.mapSeq fun _=>(#[]:Array Value)) }:=I.turnedAll (fp:=[a]) (t':=s.toks) (fun b hb=>by
    rw [List.mem_singleton] at hb;subst hb;exact fa) fun b u hb e=>(Heap.get?_update_other _ _ (fun z=>hb (by simp [z]))).trans e
  refine wpAny_bind (seqEpoch_at ho1 rfl (wpAny_bind (wpAny_newTuple ?_ (by show vs.length≤_;exact hz))))
  have I2:Inv X pins σ H { s with heap:=(s.heap.update a (Obj.mapSeq fun _=>(#[]:Array Value))).push (seqObj "tuple" vs.toArray 0) }:=I1.kept (t':=s.toks) fun b o e=>Heap.get?_push_of_some _ e
  refine wpAny_bind (wpAny_newList ?_ (Nat.zero_le _))
  have I3:Inv X pins σ H { s with heap:=((s.heap.update a (Obj.mapSeq fun _=>(#[]:Array Value))).push (seqObj "tuple" vs.toArray 0)).push (seqObj "list" #[] 0) }:=I2.kept (t':=s.toks) fun b o e=>Heap.get?_push_of_some _ e
  have hkS:((s.heap.update a (Obj.mapSeq fun _=>(#[]:Array Value))).push (seqObj "tuple" vs.toArray 0)).objs.size=s.heap.objs.size + 1:=by rw [size_push',Heap.size_update]
  generalize hk:((s.heap.update a (Obj.mapSeq fun _=>(#[]:Array Value))).push (seqObj "tuple" vs.toArray 0)).objs.size=kS at hkS ⊢
  generalize hh3:((s.heap.update a (Obj.mapSeq fun _=>(#[]:Array Value))).push (seqObj "tuple" vs.toArray 0)).push (seqObj "list" #[] 0)=h3 at I3 ⊢
  have fk:FpOk X pins H kS:=I.fpOk (by omega) (I.hok.fresh (by omega))
  have oa:h3.get? a=some (seqObj "list" #[] e1):=by rw [← hh3];exact Heap.get?_push_of_some _ (Heap.get?_push_of_some _ ho1)
  have okS:h3.get? kS=some (seqObj "list" #[] 0):=by rw [← hh3,← hk];exact Heap.get?_push_size _ rfl
  have hak:kS≠a:=by rw [hkS];exact Nat.ne_of_gt (Nat.lt_succ_of_lt hal)
  refine wpAny_holding ?_
  unfold ksk_rest
  refine wpAny_bind (wpAny_rule ?_)
  rw [← Array.forIn_toList]
  have fpa:∀ {H':Hp},H' a=none→FpOk X pins H' a:=fun z=>⟨z,fa.2⟩
  have fpk:∀ {H':Hp},H' kS=none→FpOk X pins H' kS:=fun z=>⟨z,fk.2⟩
  refine wpAny_bind (ksk_fold (fun i s'=>∃ H' ks kA e,Inv X pins σ H' s'∧Φ i ks H'∧Vals ks kA.toList∧kA.size=i∧H' a=none∧H' kS=none∧s'.heap.get? a=some (seqObj "list" #[] e1)∧s'.heap.get? kS=some (seqObj "list" kA e)) vs 0 _
    ⟨H,[],#[],0,I3,h0,.nil,rfl,fa.1,fk.1,oa,okS⟩ ?step ?done)
  case step =>
    rintro j x s' hx ⟨H',ks,kA,e,J,ph,rv,hj,na,nk,ga,gk⟩
    simp only [Nat.zero_add] at ph hj ⊢
    obtain ⟨y,t,rfl,hy⟩:=strs_get hS hx
    have hjl:j < vs.length:=(List.getElem?_eq_some_iff.mp hx).1
    have J1:=J.addPin (p:=(a,seqObj "list" #[] e1)) ga (fpa na) (fun v z=>nomatch z)
    have J2:=J1.addPin (p:=(kS,seqObj "list" kA e)) gk ⟨nk,fk.2.1,fk.2.2.1,fk.2.2.2.1,fk.2.2.2.2.1,fun p hp=>by
      rcases List.mem_append.mp hp with z | z
      · exact fk.2.2.2.2.2 p (List.mem_append_left _ z)
      · rcases List.mem_cons.mp z with z | z
        · subst z;exact Ne.symm hak
        · exact fk.2.2.2.2.2 p (List.mem_append_right _ z)⟩ (fun v z=>nomatch z)
    refine wpAny_bind (wpAny_attempt (wpAny_mono (hcall j y t ks H' s' _ hy J2 ph) (fun k s'' hq=>?_) fun _ _ hF=>hF.elim))
    obtain ⟨kv,H'',J3,rk,ph2⟩:=hq
    obtain ⟨gk2,nk2,_⟩:=J3.pin (kS,seqObj "list" kA e) (List.mem_append_right _ (.head _))
    obtain ⟨ga2,na2,_⟩:=J3.pin (a,seqObj "list" #[] e1) (List.mem_append_right _ (.tail _ (.head _)))
    have J4:Inv X pins σ H'' s'':=J3.repin fun p hp=>.tail _ (.tail _ hp)
    dsimp only at gk2 nk2 ga2 na2 ⊢
    obtain ⟨c2,hc2⟩:∃ c2,(s''.heap.update kS (Obj.mapSeq (·.push k))).get? kS=some (seqObj "list" (kA.push k) c2):=⟨_,get?_update_seq gk2 (·.push k)⟩
    refine wpAny_bind (listUpdate_at gk2 rfl ?_ (by omega) (by rw [Array.size_push];omega))
    refine wpAny_pure ⟨rfl,H'',ks++[kv],kA.push k,c2,J4.turnedAll (fp:=[kS]) (t':=s''.toks) (fun b hb=>by
      rw [List.mem_singleton] at hb;subst hb;exact fpk nk2) (fun b u hb e=>(Heap.get?_update_other _ _ (fun z=>hb (by simp [z]))).trans e),ph2,?_,by rw [Array.size_push,hj],na2,nk2,(Heap.get?_update_other _ _ hak).trans ga2,hc2⟩
    rw [Array.toList_push]
    exact rv.append (.cons rk .nil)
  case done =>
    rintro s' ⟨H',ks,kA,e,J,ph,rv,hj,na,nk,ga,gk⟩
    rw [Nat.zero_add] at ph hj
    rw [hvl] at ph
    obtain ⟨c1,c2,c3⟩:=hO s' H' pins ks kA J ph rv hj
    refine wpAny_bind (listItems_at gk rfl ?_)
    unfold ksk_end
    simp only [Bool.false_eq_true,if_false]
    refine sort_run hj (strs_nodup hS hn) c1 c2 fun st' hp hf hs=>?_
    obtain ⟨ss',q1,q2,q3⟩:=sortedOut (R:=R) hS hj hp hs c3
    have hout:((arrOf st').map (·.2)).size≤sizeLine + 1:=by
      rw [Array.size_map,hp.size_eq];simp;omega
    show wpAny _ _ (ksk_tail a false e1 (.ref kS) st') _ _ _
    unfold ksk_tail
    dsimp only
    refine wpAny_bind (listUpdate_at gk rfl ?_ (by omega) (Nat.zero_le _))
    have ga3:(s'.heap.update kS (Obj.mapSeq fun _=>(#[]:Array Value))).get? a=some (seqObj "list" #[] e1):=(Heap.get?_update_other _ _ hak).trans ga
    refine wpAny_bind (wpAny_letGo (wpAny_bind (seqEpoch_at ga3 rfl (wpAny_bind (listUpdate_at ga3 rfl ?_ (Nat.zero_le _) (by simpa using hout))))))
    rw [hf]
    simp only [bne_self_eq_false,Bool.false_eq_true,if_false]
    obtain ⟨c5,hc5⟩:∃ c5,((s'.heap.update kS (Obj.mapSeq fun _=>(#[]:Array Value))).update a (Obj.mapSeq fun _=>(arrOf st').map (·.2))).get? a=some (seqObj "list" ((arrOf st').map (·.2)) c5):=⟨_,get?_update_seq ga3 _⟩
    refine wpAny_pure ⟨_,rfl,.ref a,_,?_,rfl,q ks H' ss' na ph q2 q3⟩
    have J5:Inv X pins σ H' { s' with heap:=(s'.heap.update kS (Obj.mapSeq fun _=>(#[]:Array Value))).update a (Obj.mapSeq fun _=>(arrOf st').map (·.2)) }:=J.turnedAll (fp:=[kS,a]) (t':=s'.toks) (fun b hb=>by
      simp only [List.mem_cons,List.not_mem_nil,or_false] at hb
      rcases hb with rfl | rfl
      · exact fpk nk
      · exact fpa na) fun b u hb e=>by
        simp only [List.mem_cons,List.not_mem_nil,or_false,not_or] at hb
        exact (Heap.get?_update_other _ _ (Ne.symm hb.2)).trans ((Heap.get?_update_other _ _ (Ne.symm hb.1)).trans e)
    exact J5.track ha0 (fpa na) ⟨by rw [List.length_map,q2.length_eq,← hvl];exact hz,_,c5,vals_of_strs q1,by rw [Array.toArray_toList];exact hc5⟩
end
end L2
end
section
namespace L2
open PySem PySem.Spec PyProof.Rows Tim
section
variable {X:Cx} {pins:List (Addr×Obj)} {σ:St} {H:Hp} {s:Shared}
theorem sorted_keyed {l:Addr} {f:Value} {ss:List Str} {Φ:Nat→List V→Hp→Prop} {O:KeyOrd} {key:Heap→Keyed→O.α} {kd:SortKind} {R:Str→Str→Prop} {Q:VK} {E:Value→Shared→Prop}
    (I:Inv X pins σ H s) (hl:Src X pins σ H s l ss) (hn:ss.Nodup) (hz:ss.length≤sizeLine) (ht:∀ a,Builtin.«list.sort» ⟨[.ref a],[(Str.ofString "key",f)]⟩=ksk_tree a f false)
    (h0:Φ 0 [] H) (hcall:KeyCall X σ f ss Φ)
    (hO:∀ (vs:List Value),StrsAre vs ss→∀ (s':Shared) (H':Hp) (pins':List (Addr×Obj)) (ks:List V) (keys:Array Value),Inv X pins' σ H' s'→Φ ss.length ks H'→Vals ks keys.toList→keys.size=vs.length →
      LtOk X.prog X.w X.A.in1.in1 s' kd (keys.zip vs.toArray) (odOf O (key s'.heap) (keys.zip vs.toArray)) ∧
      (2≤vs.length→∀ (E:Value→Shared→Prop) (Q:SortKind→Shared→Prop),Q kd s'→wpAny (model X.prog X.w) X.A.in1.in1 (keyKind' keys) Q E s') ∧
      ∀ p q,p∈(keys.zip vs.toArray).toList→q∈(keys.zip vs.toArray).toList→Od.lt (odOf O (key s'.heap) (keys.zip vs.toArray)) p q→R (strOf p.2) (strOf q.2))
    (q:∀ (a:Addr) (ks:List V) (H':Hp) (ss':List Str),H a=none→H' a=none→Φ ss.length ks H'→ss'.Perm ss→ss'.Pairwise R→Q (.ref a) (upd H' a (.lst (ss'.map V.str)))) :
    wpAny (model X.prog X.w) X.A (call (.builtin "sorted") [.ref l] [(Str.ofString "key",f)]) (EP X pins σ Q) E s:=by
  refine call_function_entry_kw kind_sorted plain_sorted entry_sorted (ksk_s1 _ _) ?_
  unfold Builtin.«sorted»
  refine wpAny_bind (m:=checkCount "sorted" 1 1 _) (wpAny_pure (wpAny_bind (hl _ _ fun s1 vs I1 hs1 r=>?_)))
  have hS:=strsAre_of r
  have hvl:vs.length=ss.length:=by rw [← r.length,List.length_map]
  refine wpAny_bind (wpAny_newList ?_ (by rw [hvl];exact hz))
  have hoL:(s1.heap.push (seqObj "list" vs.toArray 0)).get? s1.heap.objs.size=some (seqObj "list" vs.toArray 0):=Heap.get?_push_size _ rfl
  have I2:Inv X pins σ H { s1 with heap:=s1.heap.push (seqObj "list" vs.toArray 0) }:=I1.kept (t':=s1.toks) fun b o e=>Heap.get?_push_of_some _ e
  refine wpAny_bind (wpAny_holding (wpAny_call_entry_kw slot_list_sort ⟨_,hoL,rfl⟩ entry_list_sort ?_ (ksk_l1 _ _)))
  show wpAny (model X.prog X.w) X.A.in1.in1 (Builtin.«list.sort» ⟨[.ref s1.heap.objs.size],[(Str.ofString "key",f)]⟩) _ _ _
  rw [ht]
  refine wpAny_mono (sort_keyed (Q:=Q) I2 hs1 (I1.fpOk (Nat.le_refl _) (I1.hok.fresh (Nat.le_refl _))) hoL hS hn (by rw [hvl];exact hz) h0 hcall (hO vs hS) fun ks H' ss' a1 a2 a3 a4=>q _ ks H' ss' (I1.hok.fresh (Nat.le_refl _)) a1 a2 a3 a4) (fun fin s' hq=>?_) fun _ _ x=>x
  obtain ⟨v,e,hq⟩:=hq
  exact ⟨v,e,wpAny_pure ⟨_,rfl,hq⟩⟩
end
theorem slt_irrefl (x:Str):¬ Slt x x:=fun h=>List.lt_irrefl _ h
theorem slt_nodup {ss:List Str} (h:ss.Pairwise Slt):ss.Nodup:=h.imp fun {a b} (q:Slt a b) (e:a=b)=>slt_irrefl b (by rw [e] at q;exact q)
theorem ints_vals:∀ {ns:List Int} {us:List Value},Vals (ns.map V.int) us→IntsAre us ns
  | [],_,r=>by rw [List.map_nil] at r;cases r;exact .nil
  | n :: ns,_,r=>by
    rw [List.map_cons] at r
    cases r with
    | cons r1 r2=>obtain ⟨t,rfl⟩:=r1;exact .cons _ _ (ints_vals r2)
noncomputable def tSortLen (K:PySem.W.Frag) (ta:TA):TE:=fun σ H Q=>ta σ H fun xs H1=>∃ (l:Addr) (ss:List Str),xs=[.ref l]∧SqL K H1 l (ss.map V.str)∧ss.Pairwise Slt∧(∀ y∈ss,y.length≤sizeLine) ∧
  ∀ (a:Addr) (ss':List Str),H1 a=none→ss'.Perm ss→ss'.Pairwise Wlt→Q (.ref a) (upd H1 a (.lst (ss'.map V.str)))
section
variable {X:Cx}
theorem pe_sortLen {e:Expr} {ta:TA} {p pos kp kp2:Pos} (hg:Gl X "sorted") (hm:X.mg "sorted" = none) (hg2:Gl X "len") (hm2:X.mg "len" = none) (ha:PA X [e] ta)
    (h1:backTo pos (starEach [e] X.env)=(false,eval e X.env) :: backTo pos (starEach [] X.env):=by rfl)
    (h2:(backTo pos (starEach [e] X.env)).any (·.1)=false:=by rfl) :
    PE X (.Call (.Name "sorted" p) [e] [⟨some "key",.Name "len" kp2,kp⟩] pos) (tSortLen X.K ta):=by
  intro pins s σ H Q I h
  refine wpAny_Call_Name_kw (ld_blt I hg hm (u:=.builtin "sorted") rfl ?_)
  refine callWith_kw (thn (ha pos pins s σ H _ I h) fun us s1 hpq=>?_) h1 h2
  obtain ⟨vs,H1,I1,r,q⟩:=hpq
  refine kws_cons (ld_blt I1 hg2 hm2 (u:=.builtin "len") PySem.boot_len (kws_nil ?_))
  obtain ⟨l,ss,e1,e2,hso,hle,q⟩:=q
  subst e1
  obtain ⟨u,rfl,rx⟩:=vals1 r
  cases rx
  obtain ⟨its,_,_,hz⟩:=I1.list e2
  rw [List.length_map] at hz
  show wpAny _ _ (call (.builtin "sorted") [.ref l] [(Str.ofString "key",.builtin "len")]) _ _ _
  refine sorted_keyed (R:=Wlt) (O:=intOrd) (key:=fun _ p=>numOf p.1) (kd:=oneType') (Φ:=fun i ks H'=>H'=H1∧ks=(ss.take i).map fun x=>V.int x.length) I1 (src_list I1 e2) (slt_nodup hso) hz (fun a=>ksk_t4 "len" a) ⟨rfl,rfl⟩ ?call ?hO fun a ks H' ss' n0 n1 ph pm pw=>?fin
  case call =>
    intro i x t ks H' s' pins' hx J ph
    obtain ⟨rfl,rfl⟩:=ph
    have hxl:=hle x (List.mem_of_getElem? hx)
    have hn:=line63
    refine len_str (by omega) ⟨.int x.length,H',J.tok _,⟨_,rfl⟩,rfl,?_⟩
    rw [List.take_add_one,hx,List.map_append]
    rfl
  case hO =>
    intro vs hS s' H' pins' ks keys J ph rv hk
    obtain ⟨rfl,rfl⟩:=ph
    rw [List.take_length] at rv
    have hvl:vs.length=ss.length:=by have:=hS.strs;rw [← this,List.length_map]
    have hI:IntsAre keys.toList (ss.map fun x=>(x.length:Int)):=ints_vals (by rw [List.map_map];exact rv)
    refine ⟨?_,fun h2 E Q qq=>?_,fun p q hp hq hlt=>?_⟩
    · exact ltOk_int (ksk_intKeys hI)
    · rw [← hk] at h2
      rw [ksk_kind hI h2];exact wpAny_pure qq
    · refine lt_len hS hk hso (fun i x k e3 e4=>?_) (strs_nodup hS (slt_nodup hso)) hp hq hlt
      obtain ⟨u,hu,ru⟩:=rv.get (i:=i) (x:=V.int x.length) (by rw [List.getElem?_map,e3];rfl)
      rw [Array.getElem?_toList,e4] at hu
      cases hu
      obtain ⟨t,rfl⟩:=ru
      rfl
  case fin =>
    obtain ⟨rfl,_⟩:=ph
    exact q a ss' n0 pm pw
end
end L2
namespace L2
open PySem PySem.Spec PyProof.Rows Tim
noncomputable def spLF:Sp:=fun vs H Q _=>∃ x:Str,vs=[.str x]∧x.length≤sizeLine∧∀ p,H p=none→Q (.ref p) (upd H p (.tup [.int x.length,.str x]))
noncomputable def tSortOwn (ta:TA):TE:=fun σ H Q=>ta σ H fun xs H1=>∃ (d:Addr) (kvs:List (Key×V)) (ss:List Str),xs=[.ref d]∧Rd H1 d (.dK kvs)∧kvs.map (fun p=>kV p.1)=ss.map V.str∧ss.Nodup∧(∀ y∈ss,y.length≤sizeLine) ∧
  ∀ (a:Addr) (H2:Hp) (ss':List Str),H1 a=none→Same H1 H2→H2 a=none→ss'.Perm ss→ss'.Pairwise Wlt→Q (.ref a) (upd H2 a (.lst (ss'.map V.str)))
section
variable {X:Cx}
theorem pe_sortOwn {e:Expr} {ta:TA} {p pos kp kp2:Pos} {k:Nat} {f:Addr} {fd:FuncData} {g y:Str} (hc:X.calm=true) (hg:Gl X "sorted") (hm:X.mg "sorted" = none) (hg2:Gl X g) (hm2:X.mg g=some (.ref f)) (F:FnOk X.prog X.w X.K X.mg X.base CX0 k f fd [y] spLF)
    (hb:Binds X.K fd [y] []) (hr:Room (k + 2) X.A) (ha:PA X [e] ta) (hdb:(g == ("__debug__":Str))=false:=by decide)
    (h1:backTo pos (starEach [e] X.env)=(false,eval e X.env) :: backTo pos (starEach [] X.env):=by rfl)
    (h2:(backTo pos (starEach [e] X.env)).any (·.1)=false:=by rfl) :
    PE X (.Call (.Name "sorted" p) [e] [⟨some "key",.Name g kp2,kp⟩] pos) (tSortOwn ta):=by
  intro pins s σ H Q I h
  refine wpAny_Call_Name_kw (ld_blt I hg hm (u:=.builtin "sorted") rfl ?_)
  refine callWith_kw (thn (ha pos pins s σ H _ I h) fun us s1 hpq=>?_) h1 h2
  obtain ⟨vs,H1,I1,r,q⟩:=hpq
  refine kws_cons (ld_glob I1 hg2 hm2 (kws_nil ?_) hdb)
  obtain ⟨d,kvs,ss,e1,e2,hkv,hnd,hle,q⟩:=q
  subst e1
  obtain ⟨u,rfl,rx⟩:=vals1 r
  cases rx
  obtain ⟨z,_⟩:=dk_rd I1.hok e2
  have hz:ss.length≤sizeLine:=by
    have e:kvs.length=ss.length:=by have:=congrArg List.length hkv;simpa using this
    rw [← e];exact z
  show wpAny _ _ (call (.builtin "sorted") [.ref d] [(Str.ofString "key",.ref f)]) _ _ _
  refine sorted_keyed (R:=Wlt) (O:=pairOrd) (key:=pairKey) (kd:=tuples' true) (Φ:=fun i ks H'=>Same H1 H'∧ks.length=i∧∀ (j:Nat) k x,ks[j]? = some k→ss[j]? = some x→∃ p,k = .ref p∧H' p=some (.tup [.int (Str.length x),.str x]))
    I1 (src_dict I1 hc e2 hkv) hnd hz (fun a=>ksk_t1 f a) ⟨fun _ _ h=>h,rfl,fun j k x e=>by simp at e⟩ ?call ?hO fun a ks H' ss' n0 n1 ph pm pw=>?fin
  case call =>
    intro i x t ks H' s' pins' hx J ph
    obtain ⟨sm,hl,hk⟩:=ph
    have hxl:=hle x (List.mem_of_getElem? hx)
    refine wpAny_call (codeAny_mono (F.run X.A.in1.in1 X.stack s' H' ⟨[.str x t],[]⟩ [.str x t] [.str x] (fun v H2=>∃ p,H' p=none∧v = .ref p∧H2=upd H' p (.tup [.int x.length,.str x])) E0 hr.in1.in1 J.env0.in1.in1 (hb s' [.str x t] J.kIn rfl) (.cons ⟨t,rfl⟩ .nil) ⟨x,rfl,hxl,fun p hp=>⟨p,hp,rfl,rfl⟩⟩) fun r s'' hq=>?_)
    cases r with
    | error e=>exact hq
    | ok fl =>
      cases fl with
      | ret u =>
        obtain ⟨v,H2,J2,rv,p,hp,rfl,rfl⟩:=J.after hq
        refine ⟨.ref p,_,J2,rv,fun b o e=>by rw [upd_ne (ne_of_none (sm b o e) hp)];exact sm b o e,by simp [hl],fun j k y e1 e2=>?_⟩
        by_cases hj:j < ks.length
        · rw [List.getElem?_append_left hj] at e1
          obtain ⟨p',e3,e4⟩:=hk j k y e1 e2
          exact ⟨p',e3,by rw [upd_ne (ne_of_none e4 hp)];exact e4⟩
        · have hj2:j=i:=by
            have:=(List.getElem?_eq_some_iff.mp e1).1
            simp at this
            omega
          subst hj2
          rw [List.getElem?_append_right (by omega),hl,Nat.sub_self] at e1
          cases e1
          rw [hx] at e2
          cases e2
          exact ⟨p,rfl,upd_same⟩
      | next=>exact False.elim hq
      | brk=>exact False.elim hq
      | cont=>exact False.elim hq
  case hO =>
    intro vs hS s' H' pins' ks keys J ph rv hk
    obtain ⟨sm,hl,hp⟩:=ph
    have hvl:vs.length=ss.length:=by have:=hS.strs;rw [← this,List.length_map]
    have pat:∀ (i:Nat) x k,ss[i]? = some x→keys[i]? = some k→PairAt s'.heap k (x.length:Int) x:=fun i x k e3 e4=>by
      have hi:i < ks.length:=by rw [hl];exact (List.getElem?_eq_some_iff.mp e3).1
      obtain ⟨p,e5,e6⟩:=hp i ks[i] x (List.getElem?_eq_getElem hi) e3
      obtain ⟨u,hu,ru⟩:=rv.get (i:=i) (x:=.ref p) (by rw [List.getElem?_eq_getElem hi,e5])
      rw [Array.getElem?_toList,e4] at hu
      cases hu
      cases ru
      obtain ⟨_,us,ru,o,e7,e8,n,e9⟩:=(show ObjOk X.prog X.w H' s'.heap p (.tup [.int (x.length:Int),.str x]) from J.hok p _ e6)
      cases ru with
      | cons r1 r2 =>
        cases r2 with
        | cons r2 r3 =>
          cases r3
          obtain ⟨t,rfl⟩:=r1
          obtain ⟨t',rfl⟩:=r2
          exact ⟨p,o,t,t',n,rfl,e7,e8,e9⟩
    have all:∀ v∈keys.toList,∃ n x,PairAt s'.heap v n x:=fun v hv=>by
      obtain ⟨i,hi,e⟩:=List.mem_iff_getElem.mp hv
      have hi':i < ss.length:=by rw [Array.length_toList] at hi;omega
      exact ⟨_,_,pat i ss[i] v (List.getElem?_eq_getElem hi') (by rw [← Array.getElem?_toList,List.getElem?_eq_getElem hi,e])⟩
    refine ⟨?_,fun h2 E Q qq=>?_,fun p q hp hq hlt=>?_⟩
    · refine ltOk_pair fun p hp=>?_
      obtain ⟨i,i1,i2,i3,i4⟩:=zip_at hk hp
      refine all p.1 ?_
      rw [← Array.getElem?_toList] at i3
      exact List.mem_of_getElem? i3
    · exact kind_pair all (by omega) qq
    · exact lt_pair hS hnd hk pat hp hq hlt
  case fin =>
    obtain ⟨sm,_⟩:=ph
    exact q a H' ss' n0 sm n1 pm pw
end
end L2
end
section
namespace L2
open PySem PySem.Spec PyProof.Rows Tim
inductive Isi (H:Hp):V→String→Bool→Prop where
  | ss (x:Str):Isi H (.str x) "str" true
  | ii (i:Int):Isi H (.int i) "int" true
  | ib (i:Int):Isi H (.int i) "bool" false
  | ts {a:Addr} {xs:List V} (e:H a=some (.tup xs)):Isi H (.ref a) "str" false
  | tt {a:Addr} {xs:List V} (e:H a=some (.tup xs)):Isi H (.ref a) "tuple" true
  | ll {a:Addr} {xs:List V} (e:H a=some (.lst xs)):Isi H (.ref a) "list" true
  | st (x:Str):Isi H (.str x) "tuple" false
  | bb (b:Bool):Isi H (.bl b) "bool" true
section
variable {X:Cx}
theorem call_isi:CallR X (.builtin "isinstance") (fun xs H Q=>∃ x n b,xs=[x,.ty n]∧Isi H x n b∧Q (.bl b) H):=by
  intro pins s σ H xs us Q I r h
  obtain ⟨x,n,b,rfl,hi,q⟩:=h
  obtain ⟨u,v,rfl,rx,ry⟩:=vals2 r
  cases ry
  cases hi with
  | ss x=>obtain ⟨t,rfl⟩:=rx;exact PySem.IsiPair.str_str ⟨.bl true,H,I,rfl,q⟩
  | ii i=>obtain ⟨t,rfl⟩:=rx;exact PySem.IsiPair.int_int ⟨.bl true,H,I,rfl,q⟩
  | ib i=>obtain ⟨t,rfl⟩:=rx;exact PySem.IsiPair.int_bool ⟨.bl false,H,I.tok _,rfl,q⟩
  | st x=>obtain ⟨t,rfl⟩:=rx;exact PySem.IsiPair.str_tuple ⟨.bl false,H,I.tok _,rfl,q⟩
  | bb b=>cases rx;exact PySem.IsiPair.bool_bool ⟨.bl true,H,I,rfl,q⟩
  | @ts a xs e =>
    cases rx
    obtain ⟨_,us,ru,o,e7,e8,n,e9⟩:=(show ObjOk X.prog X.w H s.heap a (.tup xs) from I.hok a _ e)
    exact PySem.IsiPair.tuple_str e7 e8 ⟨.bl false,H,I.tok _,rfl,q⟩
  | @tt a xs e =>
    cases rx
    obtain ⟨_,us,ru,o,e7,e8,n,e9⟩:=(show ObjOk X.prog X.w H s.heap a (.tup xs) from I.hok a _ e)
    exact PySem.IsiPair.tuple_tuple e7 e8 ⟨.bl true,H,I,rfl,q⟩
  | @ll a xs e =>
    cases rx
    obtain ⟨_,us,n,ru,e7⟩:=(show ObjOk X.prog X.w H s.heap a (.lst xs) from I.hok a _ e)
    exact PySem.IsiPair.list_list e7 rfl ⟨.bl true,H,I,rfl,q⟩
theorem op_neL (hu:X.A.units < cLine):OpR X (compareOp .NotEq) (fun x y H Q=>∃ a b xs,x = .ref a∧y = .ref b∧SqL X.K H a xs∧SqL X.K H b xs∧(∀ v∈xs,(∃ i,v = .int i)∨(∃ x,v = .str x)∨∃ a,v = .ref a)∧Q (.bl false) H):=by
  intro pins s σ H x y v u Q I rx ry h
  obtain ⟨a,b,xs,rfl,rfl,h1,h2,hv,q⟩:=h
  cases rx
  cases ry
  obtain ⟨us1,r1,p1,_⟩:=I.list h1
  obtain ⟨us2,r2,p2,_⟩:=I.list h2
  have l1:=r1.length
  have l2:=r2.length
  have key:=SeqAt.RcNeAt.lists (A:=X.A) (s:=s) (e:=fun _=>true) p1.isList p2.isList (by simp;omega) hu fun j j1 j2=>by
    have j1:j < us1.length:=by simpa using j1
    have j2:j < us2.length:=by simpa using j2
    have jx:j < xs.length:=by omega
    obtain ⟨w1,e1,q1⟩:=r1.get (List.getElem?_eq_getElem jx)
    obtain ⟨w2,e2,q2⟩:=r2.get (List.getElem?_eq_getElem jx)
    rw [List.getElem?_eq_getElem j1] at e1
    rw [List.getElem?_eq_getElem j2] at e2
    have:=eqAt_rel (A:=X.A.in1) (s:=s) (hv _ (List.getElem_mem jx)) q1 q2
    simp only [List.getElem_toArray]
    rw [Option.some.inj e1,Option.some.inj e2]
    exact this
  refine key X.prog X.w _ _ ⟨.bl false,H,I,?_,q⟩
  show Value.bool _=Value.bool false
  simp
theorem pe_ty {x:Str} {n:String} {pos:Pos} (hg:Gl X x) (hm:X.mg x=none) (hv:bootBuiltins x=some (.type n)) (hn:x≠"__name__":=by decide) (hd:(x == ("__debug__":Str))=false:=by decide):PE X (.Name x pos) (tC (.ty n)) :=
  pe_bltn hg hm hv rfl hn hd
theorem boot_isi:bootBuiltins "isinstance" = some (.builtin "isinstance"):=by decide +kernel
theorem boot_tup:bootBuiltins "tuple" = some (.type "tuple"):=by decide +kernel
end
end L2
end
section
namespace L2
open PySem PySem.Spec PyProof.Rows
section
variable {X:Cx} {elt iter tst:Expr} {x:Str} {px pos:Pos} {scope:Scope} {N':List Str} {cl:List (Str×Addr)} {wi:TI} {te:TE} {tc:TT} {iw:Nat}
end
end L2
end
section
namespace L2
open PySem PySem.Spec PyProof.Rows
noncomputable def rSlS:V→Option Int→Option Int→Hp→VK→Prop:=fun x lo hi H Q=>∃ z,x = .str z∧z.length≤sizeLine∧Q (.str (Txt.slice z lo hi)) H
section
variable {X:Cx}
theorem part_ex {v:Value} {o:Option Int} (h:IsPart v o):∃ p:Option (Int×Tok),v=partValue p∧o=p.map (·.1):=by
  cases h with
  | none=>exact ⟨none,rfl,rfl⟩
  | int i t=>exact ⟨some (i,t),rfl,rfl⟩
theorem sl_str:SlR X rSlS:=by
  intro pins s σ H x v vl vu lo hi sl Q I rx hs pl pu h
  obtain ⟨z,rfl,hz,q⟩:=h
  obtain ⟨t,rfl⟩:=rx
  obtain ⟨p1,rfl,rfl⟩:=part_ex pl
  obtain ⟨p2,rfl,rfl⟩:=part_ex pu
  refine ⟨"str",_,PySem.F.slot_str_getitem.lookup,typeIs_str _ _ _,?_⟩
  refine wpAny_getItem_str_slice (l:=p1) (u:=p2) (st:=none) hs rfl (post_val_or_str ⟨Nat.le_trans (Txt.slice_le z _ _) hz,fun t' k=>⟨.str (Txt.slice z (p1.map (·.1)) (p2.map (·.1))),H,I.kept (t':=k) (fun b o e=>e),⟨t',rfl⟩,q⟩⟩)
theorem sl_to {x:Str} {j:Int} (h:0≤j∧j≤x.length):(Txt.slice x none (some j)).cps.toList=x.cps.toList.take j.toNat:=by
  have h':0≤j∧j≤(x.cps.toList.length:Int):=by
    have e:(x.cps.toList.length:Int)=x.length:=by rw [Array.length_toList];rfl
    omega
  have:=eq_of_beq (slice_closes_to h')
  rw [this]
  simp
theorem sl_from {x:Str} {i:Int} (h:0≤i∧i≤x.length):(Txt.slice x (some i) none).cps.toList=x.cps.toList.drop i.toNat:=by
  have e:(x.length:Nat)=x.cps.toList.length:=by rw [Array.length_toList];rfl
  rw [slice_from_eq (b:=x.length) h.1 h.2 rfl]
  show (x.cps.toList.drop i.toNat).take ((x.length:Int) - i).toNat=_
  refine List.take_of_length_le ?_
  rw [List.length_drop]
  omega
end
end L2
end
section
namespace L2
open PySem PySem.Spec PyProof.Rows Tim
theorem argBest_low {bt:Nat→Nat→Bool} (irr:∀ i,bt i i=false) (tr:∀ i j k,bt i j=true→bt j k=true→bt i k=true):∀ k i,i≤k→bt i (argBest bt k)=false
  | 0,i,h=>by
    have e:i=0:=by omega
    subst e;exact irr 0
  | k + 1,i,h=>by
    unfold argBest
    split
    · rename_i hb
      by_cases e:i=k + 1
      · subst e;exact irr _
      · have ih:=argBest_low irr tr k i (by omega)
        cases q:bt i (k + 1) with
        | false=>rfl
        | true=>rw [tr _ _ _ q hb] at ih;cases ih
    · rename_i hb
      by_cases e:i=k + 1
      · subst e;simpa using hb
      · exact argBest_low irr tr k i (by omega)
section
variable {X:Cx} {pins:List (Addr×Obj)} {σ:St} {H:Hp} {s:Shared}
end
section
variable {X:Cx}
theorem cmp_strs {P:Program} {w:World} {A:Around} {p:Nat→Value→Prop} (val:Nat→Str) (hval:∀ i v,p i v→∃ t,v = .str (val i) t):CmpOf P w A .Lt p (fun i j=>decide ((val i).cps.toList < (val j).cps.toList)):=fun i j vi vj s Q E hi hj h=>by
  obtain ⟨t,rfl⟩:=hval i vi hi
  obtain ⟨u,rfl⟩:=hval j vj hj
  exact lt_str h
end
end L2
end
section
namespace L2
open PySem PySem.Spec PyProof.Rows Tim
theorem boot_all:bootBuiltins "all" = some (.builtin "all"):=by decide +kernel
theorem boot_min:bootBuiltins "min" = some (.builtin "min"):=by decide +kernel
section
variable {X:Cx}
theorem call_all (hc:X.calm=true):CallR X (.builtin "all") (fun xs H Q=>∃ (l:Addr) (bs:List Bool),xs=[.ref l]∧SqL X.K H l (bs.map V.bl)∧Q (.bl (bs.all id)) H):=by
  intro pins s σ H xs us Q I r h
  obtain ⟨l,bs,rfl,hl,q⟩:=h
  obtain ⟨u,rfl,rx⟩:=vals1 r
  cases rx
  obtain ⟨its,r,p,hz⟩:=I.list hl
  have hlt:l < s.heap.objs.size:=by obtain ⟨o,n,e,_⟩:=p;exact Heap.lt_size e
  have hlen:its.length=bs.length:=by rw [← r.length,List.length_map]
  have hsz:its.toArray.size=bs.length:=by simp [hlen]
  refine call_all_walk (wpAny_pyIter_list p.isList ?_)
  refine ⟨_,_,_,_,_,_,fun i=>bs.getD i true,rfl,Walks.list (A:=X.A.in1) (I.ok.hd hc) s.heap.objs.size l (Nat.ne_of_lt hlt) its.toArray,⟨⟨_,Heap.get?_push_size _ rfl,rfl,rfl⟩,p.isList.push _⟩,?_,fun h' tk hk=>?_⟩
  · intro i v s' Q' E' hv h'
    have hv:its[i]? = some v:=by simpa using hv
    have hi:i < bs.length:=by rw [← hlen];exact (List.getElem?_eq_some_iff.mp hv).1
    obtain ⟨u,hu,ru⟩:=r.get (i:=i) (x:=V.bl bs[i]) (by rw [List.getElem?_map,List.getElem?_eq_getElem hi];rfl)
    rw [hu] at hv
    have e0:u=v:=Option.some.inj hv
    have ru:u=Value.bool bs[i]:=ru
    rw [← e0,ru]
    have e:bs.getD i true=bs[i]:=by simp [List.getD,List.getElem?_eq_getElem hi]
    have h':Q' (bs.getD i true) s':=h'
    rw [e] at h'
    exact wpAny_pure h'
  · rw [hsz]
    have e:(List.range bs.length).all (fun i=>bs.getD i true)=bs.all id:=by
      rw [Bool.eq_iff_iff,List.all_eq_true,List.all_eq_true]
      constructor
      · intro h b hb
        obtain ⟨i,hi,rfl⟩:=List.mem_iff_getElem.mp hb
        have:=h i (List.mem_range.mpr hi)
        simpa [List.getD,List.getElem?_eq_getElem hi] using this
      · intro h i hi
        have hi:=List.mem_range.mp hi
        have:=h bs[i] (List.getElem_mem hi)
        simpa [List.getD,List.getElem?_eq_getElem hi] using this
    rw [e]
    refine ⟨.bl (bs.all id),H,?_,rfl,q⟩
    refine I.kept (t':=tk) fun b o e=>hk b o (fun hm=>?_) (Heap.get?_push_of_some _ e)
    simp only [List.mem_cons,List.not_mem_nil,or_false] at hm
    subst hm
    exact absurd (Heap.lt_size e) (Nat.lt_irrefl _)
end
theorem upd_same2' {H:Hp} {D:Addr} {o:HO} (h:H D=none):Same H (upd H D o):=fun b u e=>by rw [upd_ne (ne_of_none e h)];exact e
end L2
end
section
namespace L2
open PySem PySem.Spec PyProof.Rows Tim
noncomputable def lstEq (xs ys:List V) (e:Nat→Bool):Bool:=decide (xs.length=ys.length) && (List.range xs.length).all e
inductive EqV (K:PySem.W.Frag) (H:Hp):Nat→V→V→Bool→Prop where
  | int (n:Nat) (i j:Int):EqV K H n (.int i) (.int j) (i == j)
  | str (n:Nat) (x y:Str):EqV K H n (.str x) (.str y) (x == y)
  | bl (n:Nat) (x y:Bool):EqV K H n (.bl x) (.bl y) (x == y)
  | same (n:Nat) (a:Addr):EqV K H n (.ref a) (.ref a) true
  | tup {n:Nat} {a b:Addr} {xs ys:List V} {e:Nat→Bool} (ne:a≠b) (ha:SqT K H a xs) (hb:SqT K H b ys) (h:∀ (j:Nat) u v,xs[j]? = some u→ys[j]? = some v→EqV K H n u v (e j)) :
      EqV K H (n + 1) (.ref a) (.ref b) ((List.range (min xs.length ys.length)).all e && xs.length == ys.length)
  | lst {n:Nat} {a b:Addr} {xs ys:List V} {e:Nat→Bool} (ne:a≠b) (ha:SqL K H a xs) (hb:SqL K H b ys) (h:xs.length=ys.length→∀ (j:Nat) u v,xs[j]? = some u→ys[j]? = some v→EqV K H n u v (e j)) :
      EqV K H (n + 1) (.ref a) (.ref b) (lstEq xs ys e)
section
variable {X:Cx}
theorem isTup_tuple {h:Heap} {a:Addr} {its:Array Value} (p:IsTup h a its):h.IsTuple a its:=p
theorem eqv_at {pins:List (Addr×Obj)} {σ:St} {H:Hp} {s:Shared} (I:Inv X pins σ H s) {n:Nat} {x y:V} {b:Bool} (h:EqV X.K H n x y b):∀ {A:Around} {u v:Value},RelV x u→RelV y v→A.units + n < cLine→SeqAt.EqAt A s u v b:=by
  induction h with
  | int n i j=>intro A u v r r' _;obtain ⟨t,rfl⟩:=r;obtain ⟨t',rfl⟩:=r';exact SeqAt.EqAt.int_int _ _ _ _
  | str n i j=>intro A u v r r' _;obtain ⟨t,rfl⟩:=r;obtain ⟨t',rfl⟩:=r';exact SeqAt.EqAt.str_str _ _ _ _
  | bl n i j=>intro A u v r r' _;cases r;cases r';exact SeqAt.EqAt.bool_bool _ _
  | same n a=>intro A u v r r' _;cases r;cases r';exact SeqAt.EqAt.same _
  | @tup n a b xs ys e ne ha hb h ih =>
    intro A u v r r' hu
    cases r
    cases r'
    obtain ⟨us1,r1,p1,_⟩:=I.tuple ha
    obtain ⟨us2,r2,p2,_⟩:=I.tuple hb
    have l1:=r1.length
    have l2:=r2.length
    have key:=SeqAt.RcAt.tuples (A:=A) (s:=s) (e:=e) (isTup_tuple p1) (isTup_tuple p2) (by omega) fun j j1 j2=>by
      have j1:j < us1.length:=by simpa using j1
      have j2:j < us2.length:=by simpa using j2
      have jx:j < xs.length:=by omega
      have jy:j < ys.length:=by omega
      obtain ⟨w1,e1,q1⟩:=r1.get (List.getElem?_eq_getElem jx)
      obtain ⟨w2,e2,q2⟩:=r2.get (List.getElem?_eq_getElem jy)
      rw [List.getElem?_eq_getElem j1] at e1
      rw [List.getElem?_eq_getElem j2] at e2
      have:=ih j _ _ (List.getElem?_eq_getElem jx) (List.getElem?_eq_getElem jy) (A:=A.in1) q1 q2 (by show A.units + 1 + n < cLine;omega)
      simp only [List.getElem_toArray]
      rw [Option.some.inj e1,Option.some.inj e2]
      exact this
    refine SeqAt.EqAt.of_refs ne ?_
    have e3:us1.toArray.size=xs.length:=by simp [l1]
    have e4:us2.toArray.size=ys.length:=by simp [l2]
    rw [e3,e4] at key
    exact key
  | @lst n a b xs ys e ne ha hb h ih =>
    intro A u v r r' hu
    cases r
    cases r'
    obtain ⟨us1,r1,p1,_⟩:=I.list ha
    obtain ⟨us2,r2,p2,_⟩:=I.list hb
    have l1:=r1.length
    have l2:=r2.length
    have e3:us1.toArray.size=xs.length:=by simp [l1]
    have e4:us2.toArray.size=ys.length:=by simp [l2]
    refine SeqAt.EqAt.of_refs ne ?_
    unfold lstEq
    by_cases hl:xs.length=ys.length
    · have key:=SeqAt.RcAt.lists (A:=A) (s:=s) (e:=e) p1.isList p2.isList (by omega) (by omega) fun j j1 j2=>by
        have j1:j < us1.length:=by simpa using j1
        have j2:j < us2.length:=by simpa using j2
        have jx:j < xs.length:=by omega
        have jy:j < ys.length:=by omega
        obtain ⟨w1,e1,q1⟩:=r1.get (List.getElem?_eq_getElem jx)
        obtain ⟨w2,e2,q2⟩:=r2.get (List.getElem?_eq_getElem jy)
        rw [List.getElem?_eq_getElem j1] at e1
        rw [List.getElem?_eq_getElem j2] at e2
        have:=ih hl j _ _ (List.getElem?_eq_getElem jx) (List.getElem?_eq_getElem jy) (A:=A.in1) q1 q2 (by show A.units + 1 + n < cLine;omega)
        simp only [List.getElem_toArray]
        rw [Option.some.inj e1,Option.some.inj e2]
        exact this
      rw [e3] at key
      rw [decide_eq_true hl,Bool.true_and]
      exact key
    · have key:=SeqAt.RcAt.lists_lengths (A:=A) (s:=s) p1.isList p2.isList (by rw [e3,e4];simpa using hl) (by omega)
      rw [decide_eq_false hl,Bool.false_and]
      exact key
structure Items (K:PySem.W.Frag) (H:Hp) (n:Nat) (xs ys:List V) (e:Nat→Bool):Prop where
  h:∀ (j:Nat) u v,xs[j]? = some u→ys[j]? = some v→EqV K H n u v (e j)
theorem items_at {pins:List (Addr×Obj)} {σ:St} {H:Hp} {s:Shared} (I:Inv X pins σ H s) {n:Nat} {xs ys:List V} {us1 us2:List Value} {e:Nat→Bool} (h:Items X.K H n xs ys e) {A:Around} (hu:A.units + n + 1 < cLine) (r1:Vals xs us1) (r2:Vals ys us2) :
    ∀ j (h1:j < us1.toArray.size) (h2:j < us2.toArray.size),SeqAt.EqAt A.in1 s us1.toArray[j] us2.toArray[j] (e j):=fun j j1 j2=>by
  have l1:=r1.length
  have l2:=r2.length
  have j1:j < us1.length:=by simpa using j1
  have j2:j < us2.length:=by simpa using j2
  have jx:j < xs.length:=by omega
  have jy:j < ys.length:=by omega
  obtain ⟨w1,e1,q1⟩:=r1.get (List.getElem?_eq_getElem jx)
  obtain ⟨w2,e2,q2⟩:=r2.get (List.getElem?_eq_getElem jy)
  rw [List.getElem?_eq_getElem j1] at e1
  rw [List.getElem?_eq_getElem j2] at e2
  have:=eqv_at I (h.h j _ _ (List.getElem?_eq_getElem jx) (List.getElem?_eq_getElem jy)) (A:=A.in1) q1 q2 (by show A.units + 1 + n < cLine;omega)
  simp only [List.getElem_toArray]
  rw [Option.some.inj e1,Option.some.inj e2]
  exact this
theorem op_eqLs:OpR X (compareOp .Eq) (fun x y H Q=>∃ a b xs ys n e,x = .ref a∧y = .ref b∧SqL X.K H a xs∧SqL X.K H b ys∧(xs.length=ys.length→Items X.K H n xs ys e)∧X.A.units + n + 1 < cLine∧Q (.bl (lstEq xs ys e)) H):=by
  intro pins s σ H x y v u Q I rx ry h
  obtain ⟨a,b,xs,ys,n,e,rfl,rfl,ha,hb,he,hu,q⟩:=h
  cases rx
  cases ry
  obtain ⟨us1,r1,p1,_⟩:=I.list ha
  obtain ⟨us2,r2,p2,_⟩:=I.list hb
  have e3:us1.toArray.size=xs.length:=by simp [r1.length]
  have e4:us2.toArray.size=ys.length:=by simp [r2.length]
  unfold lstEq at q
  by_cases hl:xs.length=ys.length
  · have key:=SeqAt.RcAt.lists (A:=X.A) (s:=s) (e:=e) p1.isList p2.isList (by omega) (by omega) (items_at I (he hl) hu r1 r2)
    rw [e3] at key
    rw [decide_eq_true hl,Bool.true_and] at q
    exact key X.prog X.w _ _ ⟨.bl _,H,I,rfl,q⟩
  · have key:=SeqAt.RcAt.lists_lengths (A:=X.A) (s:=s) p1.isList p2.isList (by rw [e3,e4];simpa using hl) (by omega)
    rw [decide_eq_false hl,Bool.false_and] at q
    exact key X.prog X.w _ _ ⟨.bl false,H,I,rfl,q⟩
end
noncomputable def Sc (v:V):Prop:=(∃ i,v = .int i)∨(∃ x,v = .str x)∨(∃ b,v = .bl b)∨∃ a,v = .ref a
theorem eqv_self {K:PySem.W.Frag} {H:Hp} {n:Nat} {v:V} (h:Sc v):EqV K H n v v true:=by
  rcases h with ⟨i,rfl⟩ | ⟨x,rfl⟩ | ⟨b,rfl⟩ | ⟨a,rfl⟩
  · have:=EqV.int (K:=K) (H:=H) n i i;simpa using this
  · have:=EqV.str (K:=K) (H:=H) n x x;simpa using this
  · have:=EqV.bl (K:=K) (H:=H) n b b;simpa using this
  · exact EqV.same n a
theorem items_self {K:PySem.W.Frag} {H:Hp} {n:Nat} {xs:List V} (h:∀ v∈xs,Sc v):Items K H n xs xs (fun _=>true):=⟨fun j u v e1 e2=>by
  rw [e1] at e2
  cases e2
  exact eqv_self (h _ (List.mem_of_getElem? e1))⟩
end L2
end
section
namespace L2
open PySem PySem.Spec PyProof.Rows Tim
noncomputable def tYes:TT:=fun _ H Q=>Q true H
noncomputable def PIfs (X:Cx) (ifs:List Expr) (tc:TT):Prop:=∀ (pins:List (Addr×Obj)) (s:Shared) (σ:St) (H:Hp) (Q:Bool→Hp→Prop),Inv X pins σ H s→tc σ H Q →
  wpAny (model X.prog X.w) X.A (forIn ifs true fun c r=>if r=true then do let ok ← isTrue c X.env (eval c X.env);pure (ForInStep.yield ok) else pure (ForInStep.yield r)) (TP X pins σ Q) X.xe s
theorem pifs_nil {X:Cx}:PIfs X [] tYes:=fun pins s σ H Q I h=>by
  rw [List.forIn_nil]
  exact wpAny_pure ⟨H,I,h⟩
theorem pifs_one {X:Cx} {c:Expr} {tc:TT} (hc:PT X c tc):PIfs X [c] tc:=fun pins s σ H Q I h=>by
  rw [List.forIn_cons]
  refine wpAny_bind ?_
  rw [if_pos rfl]
  refine wpAny_bind (thn (hc pins s σ H Q I h) fun b s1 q=>wpAny_pure ?_)
  dsimp only
  rw [List.forIn_nil]
  exact wpAny_pure q
theorem compLoopG {prog:Program} {w:World} {A:Around} {R:Result→Shared→Prop} {s:Shared} {elt target iter:Expr} {ifs:List Expr} {scope:Scope} {pos:Pos} {it acc:Value} {env:Env} (I:Nat→Shared→Prop)
    (turn:∀ n s,I n s→wpAny (model prog w) A (pyNext it) (fun r s₁=>match r with
      | none=>R (.ok .next) s₁
      | some v=>wpAny (model prog w) A (letOwnedTupleGo target it v) (fun _ s₁'=>wpAny (model prog w) A (assign target env v) (fun _ s₂ =>
          wpAny (model prog w) A (forIn ifs true fun c r=>if r=true then do let ok ← isTrue c env (eval c env);pure (ForInStep.yield ok) else pure (ForInStep.yield r)) (fun ok s₃ =>
            if ok=true then wpAny (model prog w) A (eval elt env) (fun x s₄ =>
              wpAny (model prog w) A (call (.builtin "list.append") [acc,x]) (fun _ s₅=>∃ m,m < n∧I m s₅) (notedBy (model prog w) A env fun e s'=>R (.error e) s') s₄) (notedBy (model prog w) A env fun e s'=>R (.error e) s') s₃
            else ∃ m,m < n∧I m s₃) (notedBy (model prog w) A env fun e s'=>R (.error e) s') s₂) (notedBy (model prog w) A env fun e s'=>R (.error e) s') s₁') (notedBy (model prog w) A env fun e s'=>R (.error e) s') s₁) (notedBy (model prog w) A env fun e s'=>R (.error e) s') s)
    (n:Nat) (h:I n s):codeAny (model prog w) A (.compLoop (.ListComp elt [⟨target,iter,ifs,0⟩] scope pos) 0 it acc env) R s:=by
  refine codeAny_loop rfl I (fun n s hI=>?_) n h
  show wpAny _ A ((compTurn (.ListComp elt [⟨target,iter,ifs,0⟩] scope pos) 0 it acc env).onRaise (fun x=>do noteFrame x env;theTreesLotGoes x)) _ _ s
  refine wpAny_noted ?_
  rw [compTurn_list]
  refine wpAny_bind (wpAny_standAt (wpAny_bind (wpAny_mono (turn n s hI) (fun r s₁ h₁=>?_) fun _ _ h'=>h')))
  cases r with
  | none=>exact wpAny_pure h₁
  | some v =>
    refine wpAny_bind (wpAny_mono h₁ (fun _ s₁' h₁=>?_) fun _ _ h'=>h')
    refine wpAny_bind (wpAny_mono h₁ (fun _ s₂ h₂=>wpAny_bind (wpAny_mono h₂ (fun ok s₃ h₃=>?_) fun _ _ h'=>h')) fun _ _ h'=>h')
    cases ok with
    | false=>exact wpAny_pure ⟨rfl,h₃⟩
    | true =>
      exact wpAny_bind (wpAny_bind (wpAny_mono h₃ (fun x s₄ h₄=>wpAny_bind (wpAny_mono h₄ (fun _ s₅ h₅=>wpAny_pure (wpAny_pure ⟨rfl,h₅⟩)) fun _ _ h'=>h')) fun _ _ h'=>h'))
noncomputable def tCompG (wi:TI) (g:TG) (tc:TT) (te:TE) (cap:St→St→Prop):TE:=fun σ H Q=>wi σ H fun J H1=>∃ σb:St,cap σ σb∧∀ D,H1 D=none→∃ W:Nat→Nat→St→Hp→Prop,(∃ m,W 0 m σb (upd H1 D (.lst []))) ∧
  ∀ i m σx H,W i m σx H→(J.stop i H∧Q (.ref D) H)∨(J.go i H∧∀ x H',J.yld i H x H'→g x σx H' fun σ2 H2=>tc σ2 H2 fun c H3=>if c=true then te σ2 H3 fun y H4=>∃ ys,H4 D=some (.lst ys)∧ys.length < sizeLine∧∃ m',m' < m∧W (i + 1) m' σ2 (upd H4 D (.lst (ys++[y])))
    else ∃ m',m' < m∧W (i + 1) m' σ2 H3)
section
variable {X:Cx} {elt iter tg:Expr} {ifs:List Expr} {pos:Pos} {scope:Scope} {N':List Str} {cl:List (Str×Addr)} {wi:TI} {g:TG} {te:TE} {tc:TT}
theorem comp_core {cpos:Pos} {use:Option (Value→Sem Unit)} {Qf:Value→Shared→Prop} {pins:List (Addr×Obj)} {s:Shared} {σ:St} {H:Hp} {Q:VK} (hc:X.calm=true) (O:CompOk X N' scope cl) (hi:PI X tg iter wi)
    (hg:∀ (C:Addr) (s₀:Shared) (H₀:Hp) (ex:List Addr) (pn:List (Addr×Obj)) (xe:Value→Shared→Prop),PG (compCx X N' scope cl C s₀ H₀ ex pn xe) tg g)
    (ht:∀ (C:Addr) (s₀:Shared) (H₀:Hp) (ex:List Addr) (pn:List (Addr×Obj)) (xe:Value→Shared→Prop),PIfs (compCx X N' scope cl C s₀ H₀ ex pn xe) ifs tc)
    (he:∀ (C:Addr) (s₀:Shared) (H₀:Hp) (ex:List Addr) (pn:List (Addr×Obj)) (xe:Value→Shared→Prop),PE (compCx X N' scope cl C s₀ H₀ ex pn xe) elt te)
    (hs:∀ x,foldedSetIterable iter X.env x=pure x)
    (hend:∀ (D C:Addr) (s4:Shared) (H3:Hp) (m:Str→Option Value),s4.heap.Ns C m→H3 C=none→X.s₀.heap.objs.size≤C→C≠X.env.locals→(∀ x c,X.env.cells.lookup x=some c→c≠C)→(∀ p∈X.pn++pins,p.1≠C)→(∀ h',Heap.SameBut C s4.heap h'→Inv X pins σ H3 { s4 with heap:=h' })→Q (.ref D) H3→compPost (model X.prog X.w) X.A X.xe use Qf (.ref D) C (.ok .next) s4)
    (I:Inv X pins σ H s) (h:tCompG wi g tc te (Capt X N' scope cl) σ H Q) :
    wpAny (model X.prog X.w) X.A (comprehension (.ListComp elt [⟨tg,iter,ifs,0⟩] scope pos) scope X.env cpos (newList []) false (eval iter X.env) use) Qf X.xe s:=by
  refine wpAny_comprehension_free (use:=use) rfl hs O.clos O.kind O.names (thn (hi pins s σ H _ I h) fun xv s1 h1=>thn h1 fun itv s2 h2=>?_)
  obtain ⟨it,fp,tn,J,H2,e,I2,T,st2,f2,σb,cap,q⟩:=h2
  subst e
  have hfp:∀ b∈fp,b < s2.heap.objs.size:=fun b hb=>by
    obtain ⟨o,ho,_⟩:=T.obj _ _ st2 b hb
    exact Heap.lt_size ho
  refine wpAny_newObj_type (wpAny_newFunctionEnv O.nocell (by intro y hy;simp at hy) (fun h₁ hns₁ hsb₁=>?_) O.kind)
  dsimp only at hns₁ hsb₁ ⊢
  generalize hH2:s2.heap.push { cls:=.type "list",dict:=none,data:=.seq ([]:List Value).toArray }=Hq at hns₁ hsb₁ ⊢
  have hCs:Hq.objs.size=s2.heap.objs.size + 1:=by rw [← hH2,Heap.size_push]
  have hDC:s2.heap.objs.size≠Hq.objs.size:=by omega
  have old:∀ b o,s2.heap.get? b=some o→h₁.get? b=some o:=fun b o e =>
    hsb₁.extBut b o (Nat.ne_of_lt (Nat.lt_trans (Heap.lt_size e) (by rw [hCs];exact Nat.lt_succ_self _))) (Heap.get?_push_of_some _ (hH2 ▸ Heap.get?_push_of_some _ e))
  have hDo:h₁.get? s2.heap.objs.size=some { cls:=.type "list",data:=.seq #[] }:=hsb₁.extBut _ _ hDC (Heap.get?_push_of_some _ (hH2 ▸ Heap.get?_push_size _ rfl))
  obtain ⟨W,⟨m0,w0⟩,turn⟩:=q s2.heap.objs.size (I2.hok.fresh (Nat.le_refl _))
  let R:Result→Shared→Prop:=compPost (model X.prog X.w) X.A X.xe use Qf (.ref s2.heap.objs.size) Hq.objs.size
  let xe:Value→Shared→Prop:=notedBy (model X.prog X.w) X.A (compEnvC scope cl Hq.objs.size X.env) fun e s'=>R (.error e) s'
  have I0:Inv (compCx X N' scope cl Hq.objs.size s2 H2 fp (X.pn++pins) xe) [] σb (upd H2 s2.heap.objs.size (.lst [])) { s2 with heap:=h₁,toks:=s2.toks + ([]:List (Str×Value)).length } :=
    comp_start I2 hc O cap f2 hfp (by omega) (Nat.le_refl _) hDC old hns₁ hDo
  have st0:tn 0 h₁:=T.keep _ _ _ st2 fun b hb o e=>old b o e
  have fr0:∀ b∈fp,upd H2 s2.heap.objs.size (.lst []) b=none:=fun b hb=>by
    rw [upd_ne (Nat.ne_of_lt (hfp b hb))];exact (f2 b hb).1
  have stat:∀ {H':Hp},(∀ b∈fp,H' b=none)→∀ b∈fp,FpOk (compCx X N' scope cl Hq.objs.size s2 H2 fp (X.pn++pins) xe) [] H' b:=fun hn b hb=>by
    obtain ⟨f0,f1,fb,f3,f4,f5⟩:=f2 b hb
    refine ⟨hn b hb,Nat.ne_of_lt (show b < Hq.objs.size from Nat.lt_trans (hfp b hb) (by rw [hCs];exact Nat.lt_succ_self _)),fun z=>?_,.inl hb,fun x c e=>f4 x c (O.sub x c e),fun p hp=>f5 p (by
      have hp:p∈(X.pn++pins)++[]:=hp
      simpa using hp)⟩
    rcases List.mem_cons.mp (I2.stkSub b z) with q | q
    · exact f1 q
    · exact fb q
  have hgg:=hg Hq.objs.size s2 H2 fp (X.pn++pins) xe
  have hb:=he Hq.objs.size s2 H2 fp (X.pn++pins) xe
  have htt:=ht Hq.objs.size s2 H2 fp (X.pn++pins) xe
  have loop:codeAny (model X.prog X.w) X.A (.compLoop (.ListComp elt [⟨tg,iter,ifs,0⟩] scope pos) 0 (.ref it) (.ref s2.heap.objs.size) (compEnvC scope cl Hq.objs.size X.env)) R
      { s2 with heap:=h₁,toks:=s2.toks + ([]:List (Str×Value)).length }:=by
    refine compLoopG (fun n s'=>∃ i σx H',Inv (compCx X N' scope cl Hq.objs.size s2 H2 fp (X.pn++pins) xe) [] σx H' s'∧tn i s'.heap∧(∀ b∈fp,H' b=none)∧W i n σx H') ?_ m0 ⟨0,σb,_,I0,st0,fr0,w0⟩
    rintro n s3 ⟨i,σx,H3,I3,st3,fr3,w3⟩
    rcases turn i n σx H3 w3 with ⟨stop,qn⟩ | ⟨go,step⟩
    · refine thn (T.done (compCx X N' scope cl Hq.objs.size s2 H2 fp (X.pn++pins) xe) rfl rfl rfl hc i [] s3 _ H3 xe I3 (stat fr3) st3 stop) fun r s4 ⟨hr,I4⟩=>?_
      subst hr
      obtain ⟨m,hn,_⟩:=I4.loc
      have hlt2:X.s₀.heap.objs.size≤Hq.objs.size:=by have:=I2.sz;omega
      refine hend s2.heap.objs.size Hq.objs.size s4 H3 m hn I4.free hlt2 ?_ ?_ ?_ (fun h' sb=>comp_end I2 f2 (by omega) I4 sb) qn
      · exact Nat.ne_of_gt (Nat.lt_of_lt_of_le I2.lt (by omega))
      · intro x c e z
        obtain ⟨v,o,ho,_⟩:=I2.cell x c e
        have:=Heap.lt_size ho
        rw [z,hCs] at this
        exact absurd this (Nat.not_lt.mpr (Nat.le_succ _))
      · intro p hp z
        have:=Heap.lt_size (I2.pin p hp).1
        rw [z,hCs] at this
        exact absurd this (Nat.not_lt.mpr (Nat.le_succ _))
    · refine thn (T.item (compCx X N' scope cl Hq.objs.size s2 H2 fp (X.pn++pins) xe) rfl rfl rfl hc i [] s3 _ H3 xe I3 (stat fr3) st3 go) fun r s4 hpq=>?_
      obtain ⟨u,hr,h4⟩:=hpq
      subst hr
      refine (thn h4 fun _ s5 hpq=>?_)
      obtain ⟨y,H5,I5,r5,y5,st5,fr5⟩:=hpq
      have I5':=I5.pinned (stat fr5) (T.obj _ _ st5)
      refine thn (hgg _ s5 _ H5 y u _ I5' r5 (step y H5 y5)) fun _ s6 hpq=>?_
      obtain ⟨σ6,H6,I6,q6⟩:=hpq
      refine thn (htt _ s6 _ H6 _ I6 q6) fun c s7 hpq=>?_
      obtain ⟨H7,I7,q7⟩:=hpq
      cases c with
      | false =>
        rw [if_neg Bool.false_ne_true] at q7 ⊢
        obtain ⟨m',hm,w7⟩:=q7
        refine ⟨m',hm,i + 1,σ6,_,I7.unpinned,T.keep _ _ _ st5 fun b hb o e=>(I7.pin (b,o) (List.mem_append_right _ (List.mem_append_right _ (mem_pinsAt hb e)))).1,fun b hb=>?_,w7⟩
        obtain ⟨o,e,d⟩:=T.obj _ _ st5 b hb
        exact (I7.pin (b,o) (List.mem_append_right _ (List.mem_append_right _ (mem_pinsAt hb e)))).2.1
      | true =>
        rw [if_pos rfl] at q7 ⊢
        refine thn (hb _ s7 _ H7 _ I7 q7) fun z s8 hpq=>?_
        obtain ⟨yv,H8,I8,r8,ys,eD,hz,m',hm,w8⟩:=hpq
        refine thn (mt_append _ s8 _ H8 (.ref s2.heap.objs.size) [yv] (.ref s2.heap.objs.size) [z] (fun _ H9=>H9=upd H8 s2.heap.objs.size (.lst (ys++[yv]))) I8 rfl (.cons r8 .nil) ⟨_,ys,yv,rfl,rfl,eD,hz,rfl⟩) fun _ s9 hpq=>?_
        obtain ⟨_,H9,I9,_,e9⟩:=hpq
        subst e9
        refine ⟨m',hm,i + 1,σ6,_,I9.unpinned,T.keep _ _ _ st5 fun b hb o e=>(I9.pin (b,o) (List.mem_append_right _ (List.mem_append_right _ (mem_pinsAt hb e)))).1,fun b hb=>?_,w8⟩
        obtain ⟨o,e,d⟩:=T.obj _ _ st5 b hb
        exact (I9.pin (b,o) (List.mem_append_right _ (List.mem_append_right _ (mem_pinsAt hb e)))).2.1
  exact codeAny_compStart_list loop (T.self X.A 0 _ _ _ st0 loop)
theorem pe_compG (hc:X.calm=true) (O:CompOk X N' scope cl) (hi:PI X tg iter wi)
    (hg:∀ (C:Addr) (s₀:Shared) (H₀:Hp) (ex:List Addr) (pn:List (Addr×Obj)) (xe:Value→Shared→Prop),PG (compCx X N' scope cl C s₀ H₀ ex pn xe) tg g)
    (ht:∀ (C:Addr) (s₀:Shared) (H₀:Hp) (ex:List Addr) (pn:List (Addr×Obj)) (xe:Value→Shared→Prop),PIfs (compCx X N' scope cl C s₀ H₀ ex pn xe) ifs tc)
    (he:∀ (C:Addr) (s₀:Shared) (H₀:Hp) (ex:List Addr) (pn:List (Addr×Obj)) (xe:Value→Shared→Prop),PE (compCx X N' scope cl C s₀ H₀ ex pn xe) elt te)
    (hs:∀ x,foldedSetIterable iter X.env x=pure x:=by intro _;rfl) :
    PE X (.ListComp elt [⟨tg,iter,ifs,0⟩] scope pos) (tCompG wi g tc te (Capt X N' scope cl)):=by
  intro pins s σ H Q I h
  rw [eval_ListComp]
  exact comp_core (use:=none) (Qf:=EP X pins σ Q) (Q:=Q) (pins:=pins) (σ:=σ) hc O hi hg ht he hs (fun D C s4 H3 m hn _ _ _ _ _ fin qn=>⟨m,hn,fun h' sb=>⟨.ref D,H3,fin h' sb,rfl,qn⟩⟩) I h
theorem ps_setComp {i:Nat} {x:Str} {pos' spos:Pos} (hN:X.N.Nodup) (hx:X.N[i]? = some x) (hl:X.env.scope.names.lookup x=some .local) (hc:X.calm=true) (O:CompOk X N' scope cl) (hi:PI X tg iter wi)
    (hg:∀ (C:Addr) (s₀:Shared) (H₀:Hp) (ex:List Addr) (pn:List (Addr×Obj)) (xe:Value→Shared→Prop),PG (compCx X N' scope cl C s₀ H₀ ex pn xe) tg g)
    (ht:∀ (C:Addr) (s₀:Shared) (H₀:Hp) (ex:List Addr) (pn:List (Addr×Obj)) (xe:Value→Shared→Prop),PIfs (compCx X N' scope cl C s₀ H₀ ex pn xe) ifs tc)
    (he:∀ (C:Addr) (s₀:Shared) (H₀:Hp) (ex:List Addr) (pn:List (Addr×Obj)) (xe:Value→Shared→Prop),PE (compCx X N' scope cl C s₀ H₀ ex pn xe) elt te)
    (hsw:swapsWith (.ListComp elt [⟨tg,iter,ifs,0⟩] scope pos) (some (.Name x pos')) spos.line X.env=pure true:=by rfl) (hs:∀ x,foldedSetIterable iter X.env x=pure x:=by intro _;rfl) :
    PS X (.Assign [.Name x pos'] (.ListComp elt [⟨tg,iter,ifs,0⟩] scope pos) spos) (tAsg (tCompG wi g tc te (Capt X N' scope cl)) (gName i)):=by
  intro pins s σ H D I h
  rw [exec_Assign_Name_used _ _ _ _ hsw]
  refine wpAny_bind (wpAny_standAt (wpAny_bind ?_))
  show wpAny _ X.A (do let _ ← comprehension (.ListComp elt [⟨tg,iter,ifs,0⟩] scope pos) scope X.env _ (newList []) false (eval iter X.env) (some (assign (.Name x pos') X.env))) _ _ s
  refine wpAny_bind (wpAny_mono (comp_core (use:=some (assign (.Name x pos') X.env)) (Qf:=fun _ s'=>SP X pins D .next s') (Q:=fun v H'=>D.nx (σ.set i (some v)) H') (pins:=pins) (σ:=σ) hc O hi hg ht he hs (fun D' C s4 H3 m hn hC hsz hne hcell hpin fin qn=>?_) I h)
    (fun _ s' hq=>wpAny_pure (wpAny_pure hq)) fun _ _ e=>e)
  have I4:Inv X pins σ H3 s4:=fin s4.heap (Heap.SameBut.refl _ _)
  show wpAny _ _ (assign (.Name x pos') X.env (.ref D')) _ _ s4
  refine wpAny_assign_Name ?_
  refine store_ok2 (v:=.ref D') I4 hN hx (Or.inl hl) rfl (fun s5 I5 hpq=>?_) (Or.inr hl)
  obtain ⟨a,sb,ha⟩:=hpq
  have hCa:C≠a:=by
    rcases ha with z | z
    · rw [z];exact hne
    · exact (hcell x a z).symm
  refine ⟨m,hn.sameBut sb hCa,fun h' sb'=>⟨_,H3,?_,qn⟩⟩
  exact I5.turned (t':=s5.toks) (it:=C) (fun b o n e=>(sb'.2 b n).trans e) hC hne (.inr hsz) hcell hpin
end
theorem comp_rngG {tc:TT} {te:TE} {QD:Hp→Prop} {H1:Hp} {D:Addr} {lo:Int} {n iw:Nat} {σb:St} (g:Nat→V) (p:Nat→Bool) (hz:n < sizeLine) (hD:H1 D=none)
    (ht:∀ (i:Nat) (Hx:Hp) (R:Bool→Hp→Prop),i < n→Same H1 Hx→(∀ Hy,Same Hx Hy→R (p i) Hy)→tc (σb.set iw (some (.int (lo + i)))) Hx R)
    (he:∀ (i:Nat) (Hx:Hp) (R:VK),i < n→p i=true→Same H1 Hx→(∀ Hy,Same Hx Hy→R (g i) Hy)→te (σb.set iw (some (.int (lo + i)))) Hx R)
    (q:∀ Hx,Same H1 Hx→Hx D=some (.lst (((List.range n).filter p).map g))→QD Hx) :
    ∃ W:Nat→Nat→St→Hp→Prop,(∃ m,W 0 m σb (upd H1 D (.lst [])))∧∀ i m σx H,W i m σx H→((Itr lo n).stop i H∧QD H)∨((Itr lo n).go i H∧∀ x H',(Itr lo n).yld i H x H'→gName iw x σx H' fun σ2 H2=>tc σ2 H2 fun c H3=>if c=true then te σ2 H3 fun y H4=>∃ ys,H4 D=some (.lst ys)∧ys.length < sizeLine∧∃ m',m' < m∧W (i + 1) m' σ2 (upd H4 D (.lst (ys++[y]))) else ∃ m',m' < m∧W (i + 1) m' σ2 H3):=by
  refine ⟨fun i m σx Hx=>(∀ y,σx.set iw y=σb.set iw y)∧m=n - i∧i≤n∧Same H1 Hx∧Hx D=some (.lst (((List.range i).filter p).map g)),⟨n,fun _=>rfl,rfl,Nat.zero_le _,upd_same2' hD,upd_same⟩,?_⟩
  rintro i m σx Hx ⟨eσ,rfl,hi,sx,xD⟩
  by_cases hlt:i < n
  · refine .inr ⟨hlt,fun x H' hy=>?_⟩
    obtain ⟨rfl,rfl⟩:=hy
    show tc (σx.set iw _) _ _
    rw [eσ]
    have eσ':∀ y,(σb.set iw (some (V.int (lo + i)))).set iw y=σb.set iw y:=fun y=>by rw [List.set_set]
    refine ht i _ _ hlt sx fun Hy sy=>?_
    by_cases hp:p i=true
    · rw [hp]
      refine iteT (he i _ _ hlt hp (fun b o e=>sy _ _ (sx _ _ e)) fun Hz sz=>⟨_,sz _ _ (sy _ _ xD),?_,n - (i + 1),by omega,eσ',rfl,hlt,?_,?_⟩)
      · have:=List.length_filter_le p (List.range i)
        simp at this ⊢;omega
      · intro b o e
        rw [upd_ne (ne_of_none e hD)];exact sz _ _ (sy _ _ (sx _ _ e))
      · rw [upd_same,List.range_succ,List.filter_append,List.map_append]
        simp [hp]
    · have hp:p i=false:=by simpa using hp
      rw [hp]
      refine iteF ⟨n - (i + 1),by omega,eσ',rfl,hlt,fun b o e=>sy _ _ (sx _ _ e),?_⟩
      rw [sy _ _ xD,List.range_succ,List.filter_append]
      simp [hp]
  · have e:i=n:=by omega
    subst e
    exact .inl ⟨Nat.le_refl _,q Hx sx xD⟩
theorem lk_mem {x:Str} {k:NameKind}:∀ {l:List (Str×NameKind)},l.lookup x=some k→(x,k)∈l
  | [],h=>by cases h
  | (y,j) :: r,h=>by
    rw [List.lookup_cons] at h
    split at h
    · rename_i e
      cases h
      rw [eq_of_beq e]
      exact List.mem_cons_self
    · exact List.mem_cons_of_mem _ (lk_mem h)
theorem lk_has {x:Str} {l:List (Str×NameKind)} {ys:List Str} (h:l.lookup x=some .cell∨l.lookup x=some .free) (e:(l.filter fun p=>p.2 == .cell || p.2 == .free).map (·.1)=ys):x∈ys:=by
  rw [← e]
  rcases h with h | h
  · exact List.mem_map.mpr ⟨_,List.mem_filter.mpr ⟨lk_mem h,rfl⟩,rfl⟩
  · exact List.mem_map.mpr ⟨_,List.mem_filter.mpr ⟨lk_mem h,rfl⟩,rfl⟩
end L2
end
section
namespace L2
open PySem PySem.Spec PyProof.Rows PySem.W PySem.Builtin PySem.Builtin.ObjectAttr PySem.Builtin.Getset_descriptor
noncomputable def bmVE:List Value:=[.type "ValueError",.type "Exception",.type "BaseException",.type "object"]
noncomputable def excKit (K:PySem.W.Frag) (C:Addr):Bool:=excIn K C bmVE "ValueError.__new__" && (clsIn K C).isSome && findIn K (.ref C) "__getattribute__" == some (some (.builtin "BaseException.__getattribute__")) && findIn K (.ref C) "__getattr__" == some none
  && findIn K (.ref C) "__class__" == some (some (.builtin "object.__class__")) && specialIn K (.builtin "object.__class__") "__get__" == some (some (.builtin "getset_descriptor.__get__")) && takesIn K (.builtin "object.__class__") == some true
  && mroIn K C (.type "object") == some true && mroIn K C (.type "BaseException") == some true && typeIn K (.ref C) == some (.type "type")
structure ExcF (K:PySem.W.Frag) (C:Addr):Prop where
  own:excIn K C bmVE "ValueError.__new__" = true
  cls:(clsIn K C).isSome=true
  ga:findIn K (.ref C) "__getattribute__" = some (some (.builtin "BaseException.__getattribute__"))
  gh:findIn K (.ref C) "__getattr__" = some none
  ca:findIn K (.ref C) "__class__" = some (some (.builtin "object.__class__"))
  sp:specialIn K (.builtin "object.__class__") "__get__" = some (some (.builtin "getset_descriptor.__get__"))
  tk:takesIn K (.builtin "object.__class__")=some true
  mo:mroIn K C (.type "object")=some true
  mb:mroIn K C (.type "BaseException")=some true
  ty:typeIn K (.ref C)=some (.type "type")
theorem excF_of {K:PySem.W.Frag} {C:Addr} (e:excKit K C=true):ExcF K C:=by
  unfold excKit at e
  simp only [Bool.and_eq_true,beq_iff_eq] at e
  obtain ⟨⟨⟨⟨⟨⟨⟨⟨⟨a,b⟩,c⟩,d⟩,f⟩,g⟩,h⟩,i⟩,j⟩,k⟩:=e
  exact ⟨a,b,c,d,f,g,h,i,j,k⟩
section
variable {K:PySem.W.Frag} {M:Model} {h:Heap} {x C:Addr}
end
section
variable {prog:Program} {w:World} {A:Around} {E:Value→Shared→Prop} {s:Shared} {K:PySem.W.Frag} {x C:Addr}
end
end L2
end
section
namespace L2
open PySem PySem.Spec PyProof.Rows
section
variable {X:Cx} {e e1 e2:Expr} {es:List Expr} {te:TE} {pos:Pos}
noncomputable def PJ (X:Cx) (es:List Expr) (t:Str→TE):Prop :=
  ∀ (pins:List (Addr×Obj)) (s:Shared) (σ:St) (H:Hp) (acc:Str) (Q:VK),Inv X pins σ H s→t acc σ H Q→wpAny (model X.prog X.w) X.A (joinParts acc (evalEach es X.env)) (EP X pins σ Q) X.xe s
noncomputable def jNil:Str→TE:=fun acc _ H Q=>acc.length≤sizeLine∧Q (.str acc) H
noncomputable def jCons (te:TE) (t:Str→TE):Str→TE:=fun acc σ H Q=>te σ H fun v H1=>∃ y,v = .str y∧(acc++y).length≤sizeLine∧t (acc++y) σ H1 Q
theorem pj_nil:PJ X [] jNil:=fun pins s σ H acc Q I h=>joinParts_nil ⟨.str acc,H,I.tok _,⟨_,rfl⟩,h.2⟩ h.1
theorem pj_cons {t:Str→TE} (he:PE X e te) (hr:PJ X es t) (hs:evalEach (e :: es) X.env=eval e X.env :: evalEach es X.env:=by rfl):PJ X (e :: es) (jCons te t):=by
  intro pins s σ H acc Q I h
  rw [hs]
  refine joinParts_cons (thn (he pins s σ H _ I h) fun v s1 hpq=>?_)
  obtain ⟨x,H1,I1,r1,y,e,z,q⟩:=hpq
  subst e
  obtain ⟨t,rfl⟩:=r1
  exact ⟨z,hr pins s1 σ H1 _ _ I1 q⟩
theorem pe_join {t:Str→TE} (h:PJ X (e1 :: e2 :: es) t):PE X (.JoinedStr (e1 :: e2 :: es) pos) (t Str.empty):=fun pins s σ H Q I hq=>JoinedStr_many (h pins s σ H _ Q I hq)
noncomputable def tRep (te:TE):TE:=fun σ H Q=>te σ H fun v H1=>∃ y,v = .str y∧y.length≤1000∧(∀ c∈y.cps.toList,c < 16 ^ 8)∧∀ z:Str,z.length≤10002→Q (.str z) H1
theorem pe_fmtR (he:PE X e te):PE X (.FormattedValue e 114 none pos) (tRep te):=by
  intro pins s σ H Q I h
  refine wpAny_FormattedValue_repr (thn (he pins s σ H _ I h) fun v s1 hpq=>?_)
  obtain ⟨x,H1,I1,r1,y,e,z,hc,q⟩:=hpq
  subst e
  obtain ⟨t,rfl⟩:=r1
  have hl:=PySem.StrLaws.reprText_len y hc
  have hz:=sizeLine_eq
  refine pyReprObj_str ?_ (by omega)
  exact formatField_str (fun t' tk=>⟨.str (reprText y),H1,I1.tok _,⟨_,rfl⟩,q _ (by omega)⟩) (by omega)
end
structure Fly (P:Program) (w:World) (outer:List Env) (H H':Hp) (s s':Shared) (a C:Addr):Prop where
  os:s'.os=s.os
  bare:AllBare s'.gens
  un:Un (frs outer) [] H H' s.heap s'.heap
  hok:HOk P w H' s'.heap
  no:H' a=none
  new:s.heap.get? a=none
  fl:∃ B a0,Heap.FlyingW B outer a (.ref C) a0 s'.heap∧∀ b o,s'.heap.get? b=some o→b ∉ frs outer→(H' b≠none∨s.heap.get? b≠none)→B.get? b=some o
noncomputable def CXE (P:Program) (w:World):CXT:=fun outer H s E e s'=>∃ a C H',e = .ref a∧Fly P w outer H H' s s' a C∧E (.ref C) none H'
theorem objThere {P:Program} {w:World} {H:Hp} {h:Heap} {a:Addr} {o:HO} (x:ObjOk P w H h a o):∃ u,h.get? a=some u:=by
  cases o with
  | lst xs=>obtain ⟨_,_,_,_,e⟩:=x;exact ⟨_,e⟩
  | tup xs=>obtain ⟨_,_,_,o,e,_⟩:=x;exact ⟨o,e⟩
  | dK kvs=>obtain ⟨_,_,_,_,o,_,_,e,_⟩:=x;exact ⟨o,e⟩
  | dT kvs=>obtain ⟨_,_,_,_,o,_,_,e,_⟩:=x;exact ⟨o,e⟩
  | set S n=>obtain ⟨o,_,_,_,e,_⟩:=x;exact ⟨o,e⟩
  | ins C dx fs=>obtain ⟨_,_,_,e,_⟩:=x;exact ⟨_,e⟩
  | own y=>exact x
  | xd fs=>obtain ⟨_,⟨o,_,_,e,_⟩,_⟩:=x;exact ⟨o,e⟩
  | rng lo hi=>obtain ⟨_,_,_,e⟩:=x;exact ⟨_,e⟩
  | frz ob u=>obtain ⟨e,_⟩:=x;exact ⟨_,e⟩
  | tbl ps=>exact ⟨_,(show h.get? a=some _ from x)⟩
  | met f y=>exact ⟨_,(show h.get? a=some _ from x)⟩
  | ext φ=>exact x.2.1
theorem hok_by {P:Program} {w:World} {H:Hp} {h h':Heap} (ok:HOk P w H h) (k:∀ b o,H b≠none→h.get? b=some o→h'.get? b=some o):HOk P w H h':=fun b u e =>
  (ok b u e).stay (fun c v hc q=>k c v (by
    rcases hc with z | z
    · rw [z,e];exact fun y=>nomatch y
    · rw [z];exact fun y=>nomatch y) q) (fun _ q=>q) fun _ _ q=>q
section
variable {X:Cx} {pins:List (Addr×Obj)} {σ:St} {H H':Hp} {s s':Shared}
theorem fly_on {h' B:Heap} {a C:Addr} {a0:Value} (I:Inv X pins σ H s) (I':Inv X pins σ H' s') (hex:X.ex=[]) (hst:X.stack=X.env :: X.outer) (hf:X.env.frame=some X.env.locals)
    (sm:s'.heap.UpToSlots h') (fl:Heap.FlyingW B X.outer a (.ref C) a0 h') (cov:∀ b o,s'.heap.get? b=some o→b ∉ frs X.stack→(H' b≠none∨s.heap.get? b≠none)→B.get? b=some o) (no:H' a=none) (new:s.heap.get? a=none) :
    Fly X.prog X.w X.outer X.H₀ H' X.s₀ { s' with heap:=h' } a C:=by
  have old:∀ b o,X.s₀.heap.get? b=some o→s.heap.get? b≠none:=fun b o e=>by
    obtain ⟨o',q⟩:=I.base.there b o e (by rw [hex];simp)
    rw [q];exact fun y=>nomatch y
  have noL:∀ b o,X.s₀.heap.get? b=some o→b≠X.env.locals:=fun b o e=>Nat.ne_of_lt (Nat.lt_of_lt_of_le (Heap.lt_size e) I.ok.above)
  have inS:∀ b,b∈frs X.stack↔b=X.env.locals∨b∈X.fs:=fun b=>by
    rw [hst]
    unfold frs
    rw [List.filterMap_cons,hf]
    exact List.mem_cons
  have kp:∀ b o,s'.heap.get? b=some o→b ∉ frs X.stack→(H' b≠none∨s.heap.get? b≠none)→h'.get? b=some o:=fun b o e nb q=>fl.1 _ _ (cov b o e nb q)
  have trk:∀ b,H' b≠none→b ∉ frs X.stack:=fun b hb z=>hb (I'.stkFree b z)
  refine ⟨I'.os,I'.bare,⟨fun b o e n hb hx=>?_,fun b o e n hb hx=>?_,fun b o e n hx=>?_,fun b o e hx=>?_,I'.base.tups,I'.base.frzs,I'.base.tbls⟩,hok_by I'.hok fun b o hb e=>kp b o e (trk b hb) (.inl hb),no,?_,B,a0,fl,fun b o e nb q=>?_⟩
  · have e1:=I'.base.keep b o e n hb (by rw [hex];simp)
    exact kp b o e1 (fun z=>((inS b).mp z).elim (noL b o e) hb) (.inr (old b o e))
  · obtain ⟨sl,e1⟩:=I'.base.slot b o e n hb (by rw [hex];simp)
    obtain ⟨_,o',e2,nf⟩:=I'.funs.mem hb
    rw [e1] at e2
    cases e2
    obtain ⟨sl',e3⟩:=sm b _ e1 nf
    exact ⟨sl',e3⟩
  · exact I'.base.free b o e n (by rw [hex];simp)
  · obtain ⟨o',e1⟩:=I'.base.there b o e (by rw [hex];simp)
    by_cases hb:b∈X.fs
    · obtain ⟨_,o2,e2,nf⟩:=I'.funs.mem hb
      obtain ⟨sl',e3⟩:=sm b _ e2 nf
      exact ⟨_,e3⟩
    · exact ⟨o',kp b o' e1 (fun z=>((inS b).mp z).elim (noL b o e) hb) (.inr (old b o e))⟩
  · cases z:X.s₀.heap.get? a with
    | none=>rfl
    | some o=>exact absurd new (old a o z)
  · rcases q with q | q
    · cases z:H' b with
      | none=>exact absurd z q
      | some u =>
        obtain ⟨o',e1⟩:=objThere (I'.hok b u z)
        have e2:=cov b o' e1 (trk b q) (.inl q)
        have e3:=fl.1 _ _ e2
        rw [e] at e3
        cases e3
        exact e2
    · cases z:X.s₀.heap.get? b with
      | none=>exact absurd z q
      | some o1 =>
        obtain ⟨o',e1⟩:=I'.base.there b o1 z (by rw [hex];simp)
        have ns:b ∉ frs X.stack:=fun y=>((inS b).mp y).elim (noL b o1 z) nb
        have e2:=cov b o' e1 ns (.inr (old b o1 z))
        have e3:=fl.1 _ _ e2
        rw [e] at e3
        cases e3
        exact e2
end
section
variable {P:Program} {w:World} {K:PySem.W.Frag} {mg:Str→Option Value} {base:Heap} {N:List Str} {qual:Str} {scope:Scope} {f:Addr} {cd:Value} {A:Around} {outer:List Env} {s₀:Shared} {H₀:Hp} {E:XK}
theorem passE:Passes (CXE P w) (cxOf (CXE P w) P w K mg base N qual scope f cd A outer s₀ H₀ E) E:=by
  intro pins σ H s e s' I h
  obtain ⟨a,C,H',rfl,F,q⟩:=h
  obtain ⟨B,a0,hf,cov⟩:=F.fl
  have I':=I.call' F.os F.un F.hok F.bare (fun b z=>absurd z (by simp))
  refine wpAny_leaves_onW (I.ok.frames) rfl hf fun h'' hf' sm=>?_
  exact ⟨a,C,H',rfl,fly_on I I' rfl rfl rfl sm hf' cov F.no F.new,q⟩
structure ExcAt (K:PySem.W.Frag) (mg:Str→Option Value) (x:Str) (C:Addr):Prop where
  m:mg x=some (.ref C)
  f:ExcF K C
  n:PySem.W.nsIn K mainGlobals x=some (some (.ref C))
theorem excAt_mk {h:Heap} {x:Str} {C:Addr} (X:K.In h) (G:h.Ns mainGlobals mg) (a:PySem.W.nsIn K mainGlobals x=some (some (.ref C))) (b:excKit K C=true):ExcAt K mg x C:=⟨PySem.W.mg_of X G a,excF_of b,a⟩
theorem ExcAt.own' {h:Heap} {x:Str} {C:Addr} (F:ExcAt K mg x C) (M:Mod K mg h):∃ bm N nm q bs hdct sn sub ab col dd k0 k1 k2 k3 k5 mN,h.get? C=some (excClassObj nm q C N bs bm hdct sn sub ab col dd k0 k1 k2 k3 k5 "ValueError.__new__")∧h.Ns N mN∧mN "__init__" = none∧OwnTail h bmVE bm:=by
  obtain ⟨mb,hb,hm⟩:=M.blt
  exact (PySem.W.own_of_in (p:=default) (loose:=h.nsKeys mainGlobals) M.kin ⟨M.glob,hb,M.nolimit,hm,fun y _ hy _ _ _=>by rw [M.glob.eq_nsMap];exact Heap.nsMap_none hy⟩ F.n F.f.own).obj
end
noncomputable def tRaise (C:Addr) (E:XK) (t:TA):TS:=fun _ σ H=>t σ H fun vs H1=>vs.length≤sizeLine∧E (.ref C) none H1
section
variable {P:Program} {w:World} {K:PySem.W.Frag} {mg:Str→Option Value} {base:Heap} {N:List Str} {qual:Str} {scope:Scope} {f C:Addr} {cd:Value} {A:Around} {outer:List Env} {s₀:Shared} {H₀:Hp} {E:XK} {x:Str} {np cpos pos:Pos} {e:Expr} {es:List Expr} {t:TA}
theorem ps_raise (hr:(A.deeper (envOfC qual scope s₀.heap.objs.size f cd)).handled=none) (O:ExcAt K mg x C) (hg:Gl (cxOf (CXE P w) P w K mg base N qual scope f cd A outer s₀ H₀ E) x) (ha:PA (cxOf (CXE P w) P w K mg base N qual scope f cd A outer s₀ H₀ E) (e :: es) t)
    (hdb:(x == ("__debug__":Str))=false:=by decide)
    (he:starEach (e :: es) (envOfC qual scope s₀.heap.objs.size f cd)=(false,eval e (envOfC qual scope s₀.heap.objs.size f cd)) :: starEach es (envOfC qual scope s₀.heap.objs.size f cd):=by rfl) (hpl:(backTo cpos (starEach es (envOfC qual scope s₀.heap.objs.size f cd))).any (·.1)=false:=by rfl) :
    PS (cxOf (CXE P w) P w K mg base N qual scope f cd A outer s₀ H₀ E) (.Raise (some (.Call (.Name x np) (e :: es) [] cpos)) none pos) (tRaise C E t):=by
  intro pins s σ H D I h
  obtain ⟨bm,N',nm,q,bs,hdct,sn,sub,ab,col,dd,k0,k1,k2,k3,k5,mN,hC,hN,hni,T⟩:=O.own' I.mod
  refine wpAny_Raise_call_subT (C:=C) (nm:=nm) (q:=q) (N:=N') (bs:=bs) (bm:=bm) (hdct:=hdct) (sn:=sn) (sub:=sub) (ab:=ab) (col:=col) (dd:=dd) (k0:=k0) (k1:=k1) (k2:=k2) (k3:=k3) (k5:=k5)
    PySem.F.excBase_ValueError (mN:=mN) (T.hasType PySem.F.excBase_ValueError.hasBase) hr (by show (backTo cpos (starEach (e :: es) (envOfC qual scope s₀.heap.objs.size f cd))).any (·.1)=false;rw [he];show (false || (backTo cpos (starEach es (envOfC qual scope s₀.heap.objs.size f cd))).any (·.1))=false;rw [hpl];rfl) hni (ld_glob I hg O.m ⟨rfl,?_⟩ hdb)
  have hs:=ha cpos pins s σ H _ I h
  have hs:wpAny (model P w) (A.deeper (envOfC qual scope s₀.heap.objs.size f cd)) (spliced (backTo cpos (starEach (e :: es) (envOfC qual scope s₀.heap.objs.size f cd)))) _ _ s:=hs
  show wpAny (model P w) (A.deeper (envOfC qual scope s₀.heap.objs.size f cd)) (evalArgs _ true (backTo cpos (starEach (e :: es) (envOfC qual scope s₀.heap.objs.size f cd))) []) _ _ s
  rw [he] at hs ⊢
  refine Calls.evalArgs_plain (wpAny_mono hs (fun vs s2 h2=>?_) fun _ _ y=>y)
  obtain ⟨xs,H2,I2,r2,hl,hE⟩:=h2
  refine ⟨rfl,by show vs.length≤_;rw [← r2.length];exact hl,I2.bk _ _ hC,hN.keeps I2.bk,T.keeps I2.bk,fun h' a hm=>?_⟩
  have hstk:frs (envOfC qual scope s₀.heap.objs.size f cd :: outer)=s₀.heap.objs.size :: frs outer:=rfl
  have hfun:=I2.stack
  have hin:∀ env∈(envOfC qual scope s₀.heap.objs.size f cd :: outer),∀ b,env.frame=some b→b∈frs (envOfC qual scope s₀.heap.objs.size f cd :: outer):=fun env he b hb=>List.mem_filterMap.mpr ⟨env,he,hb⟩
  have hfun':s2.heap.FunFrames (PySem.W.hideAll s2.heap (frs (envOfC qual scope s₀.heap.objs.size f cd :: outer))) (envOfC qual scope s₀.heap.objs.size f cd :: outer):=PySem.W.funFrames_hide hfun hin
  refine wpAny_leaves_madeW (h:=s2.heap) (I2.ok.frames) rfl (fun b o q=>PySem.W.of_hideAll _ q) hfun' hm fun h'' t fl _ _ sm=>?_
  have I3:Inv (cxOf (CXE P w) P w K mg base N qual scope f cd A outer s₀ H₀ E) pins σ H2 { s2 with heap:=h' }:=I2.kept (t':=s2.toks) hm.keeps
  have na:H2 a=none:=by
    cases z:H2 a with
    | none=>rfl
    | some u =>
      obtain ⟨o,e⟩:=objThere (I2.hok a u z)
      rw [hm.new] at e;cases e
  refine ⟨a,C,H2,rfl,fly_on I2 I3 rfl rfl rfl sm fl (fun b o e nb q=>?_) na hm.new,hE⟩
  obtain ⟨o',e1⟩:∃ o',s2.heap.get? b=some o':=by
    rcases q with q | q
    · cases z:H2 b with
      | none=>exact absurd z q
      | some u=>exact objThere (I2.hok b u z)
    · cases z:s2.heap.get? b with
      | none=>exact absurd z q
      | some o'=>exact ⟨o',rfl⟩
  have e2:=hm.keeps _ _ e1
  have e:h'.get? b=some o:=e
  rw [e2] at e
  cases e
  exact PySem.W.hideAll_get _ e1 nb
end
end L2
end
section
namespace L2
open PySem PySem.Spec PyProof.Rows
section
variable {X:Cx} {pins pn:List (Addr×Obj)} {σ:St} {H:Hp} {s:Shared} {xe:Value→Shared→Prop}
end
section
variable {X:Cx} {CX:CXT} {k:Nat} {f:Addr} {fd:FuncData} {ps:List Str} {sp:Sp} {E:St→XK} {x:Str} {p pos:Pos} {e:Expr} {es:List Expr} {t:TA}
end
theorem Fun.okE {P:Program} {w:World} {K:PySem.W.Frag} {mg:Str→Option Value} {base:Heap} {x qual:Str} {st:Stmt} {f:Addr} {fd:FuncData} {N ps:List Str} {k:Nat} {sp:Sp} (F:Fun K x qual st f fd) (S:FnScope N ps (defScope st)) (len:∀ vs H Q E,sp vs H Q E→vs.length=ps.length)
    (hbody:∀ (cdv:Value) (A:Around) (outer:List Env) (s:Shared) (H:Hp) (vs:List V) (Q:VK) (E:XK),Room k (A.deeper (envOfC qual (defScope st) s.heap.objs.size f cdv))→sp vs H Q E →
      ∃ t,PSs (cxOf (CXE P w) P w K mg base N qual (defScope st) f cdv A outer s H E) (defBody st) t∧t { nx:=fun _ H'=>Q .non H',rt:=Q } (start N vs) H):FnOk P w K mg base (CXE P w) (k + 1) f fd ps sp:=by
  obtain ⟨oc,od,kV,doc,pm,an,cdv,ct,osl,rfl,lk,hcd⟩:=F.ex
  exact fn_of lk hcd S len fun A outer s H vs Q E hr hsp=>hbody cdv A outer s H vs Q E hr hsp
end L2
end
section
namespace HT
open PySem PySem.Spec PyProof.Rows
section
variable {prog:Program} {w:World} {A:Around} {E:Value→Shared→Prop} {s:Shared}
end
end HT
namespace L2
open PySem PySem.Spec PyProof.Rows Tim
section
variable {X:Cx}
theorem passF {P:Program} {w:World}:Passes (CXE P w) X (fun _ _ _=>False):=fun _ _ _ _ _ _ _ h=>by
  obtain ⟨a,C,H',_,_,q⟩:=h
  exact q.elim
end
structure PSW (X:Cx) (st:Stmt) (t:TS):Prop where
  h:PS X st t
structure PSsW (X:Cx) (st:List Stmt) (t:TS):Prop where
  h:PSs X st t
section
variable {X:Cx}
theorem PSsW.out {st:List Stmt} {t:TS} (h:PSsW X st t):PSs X st t:=h.h
theorem w_cons {st:Stmt} {rest:List Stmt} {t u:TS} (h1:PSW X st t) (h2:PSsW X rest u):PSsW X (st :: rest) (tSeq t u):=⟨pss_cons h1.h h2.h⟩
theorem w_one {st:Stmt} {t:TS} (h1:PSW X st t):PSsW X [st] t:=⟨pss_one h1.h⟩
end
end L2
end
section
namespace MW
noncomputable abbrev W:=List Nat
theorem lt_cases {x y:W} (h:x < y):(∃ t,t≠[]∧y=x++t)∨∃ p a b s t,x=p++a :: s∧y=p++b :: t∧a < b:=by
  induction x generalizing y with
  | nil =>
    cases y with
    | nil=>exact absurd h (List.lt_irrefl _)
    | cons b t=>exact .inl ⟨b :: t,by simp,rfl⟩
  | cons a s ih =>
    cases y with
    | nil=>exact absurd h (List.not_lt_nil _)
    | cons b t =>
      rcases List.cons_lt_cons_iff.mp h with q | ⟨rfl,q⟩
      · exact .inr ⟨[],a,b,s,t,rfl,rfl,q⟩
      · rcases ih q with ⟨u,hu,rfl⟩ | ⟨p,a',b',s',t',rfl,rfl,q'⟩
        · exact .inl ⟨u,hu,rfl⟩
        · exact .inr ⟨a :: p,a',b',s',t',rfl,rfl,q'⟩
theorem lt_append_left {p x y:W}:p++x < p++y↔x < y:=by
  induction p with
  | nil=>exact Iff.rfl
  | cons a p ih=>rw [List.cons_append,List.cons_append,List.cons_lt_cons_iff];simp [ih]
theorem diff_lt {p:W} {a b:Nat} {s t:W} (h:a < b):p++a :: s < p++b :: t:=lt_append_left.mpr (List.cons_lt_cons_iff.mpr (.inl h))
theorem lt_trans {x y z:W} (a:x < y) (b:y < z):x < z:=List.lt_trans a b
theorem lt_irrefl (x:W):¬ x < x:=List.lt_irrefl x
theorem lt_asymm {x y:W} (a:x < y):¬ y < x:=fun b=>lt_irrefl x (lt_trans a b)
theorem tri (x y:W):x < y∨x=y∨y < x:=by
  by_cases h:x < y
  · exact .inl h
  · by_cases g:y < x
    · exact .inr (.inr g)
    · exact .inr (.inl (List.le_antisymm (List.not_lt.mp g) (List.not_lt.mp h)))
theorem lt_more {x y:W} (h:x < y) (hl:y.length≤x.length) (s t:W):x++s < y++t:=by
  rcases lt_cases h with ⟨u,hu,rfl⟩ | ⟨p,a,b,s',t',rfl,rfl,q⟩
  · have:u.length=0:=by simp at hl;omega
    exact absurd (List.length_eq_zero_iff.mp this) hu
  · simpa using diff_lt q
theorem lt_of_more {x y s t:W} (h:x++s < y++t) (hl:x.length=y.length):x < y∨(x=y∧s < t):=by
  rcases tri x y with q | q | q
  · exact .inl q
  · subst q;exact .inr ⟨rfl,lt_append_left.mp h⟩
  · exact absurd h (lt_asymm (lt_more q (by omega) t s))
noncomputable def Pl (w:W):Prop:=w≠[]∧∀ i,0 < i→i < w.length→w < w.drop i
noncomputable def PlT (w:W):Prop:=w≠[]∧∀ i,0 < i→i < w.length→w < w.drop i++w.take i
theorem plT_of {w:W} (h:Pl w):PlT w:=⟨h.1,fun i h0 h1=>by
  have:=lt_more (h.2 i h0 h1) (by simp) [] (w.take i)
  simpa using this⟩
theorem pl_of {w:W} (h:PlT w):Pl w:=⟨h.1,fun i h0 h1=>by
  have hr:=h.2 i h0 h1
  rcases tri w (w.drop i) with q | q | q
  · exact q
  · have:=congrArg List.length q
    simp at this;omega
  · exfalso
    rcases lt_cases q with ⟨t,ht,e⟩ | ⟨p,a,b,s,t,e1,e2,q'⟩
    · -- the end is a beginning too
      have hlt:t.length=i:=by have:=congrArg List.length e;simp at this;omega
      have e3:w=w.take i++w.drop i:=(List.take_append_drop i w).symm
      have h2:=h.2 (w.drop i).length (by simp;omega) (by simp;omega)
      have d1':∀ v:W,w=v++t→w.drop v.length=t∧w.take v.length=v:=fun v e=>by subst e;exact ⟨List.drop_left,List.take_left⟩
      have d1:w.drop (w.drop i).length=t:=(d1' _ e).1
      have d2:w.take (w.drop i).length=w.drop i:=(d1' _ e).2
      rw [d1,d2] at h2
      have h3:w.take i < t:=by
        have:w.take i++w.drop i < t++w.drop i:=by rw [← e3];exact h2
        rcases lt_of_more this (by rw [hlt,List.length_take];omega) with z | ⟨_,z⟩
        · exact z
        · exact absurd z (lt_irrefl _)
      have h4:t < w.take i:=by
        have:w.drop i++t < w.drop i++w.take i:=by rw [← e];exact hr
        exact lt_append_left.mp this
      exact lt_asymm h3 h4
    · have:w.drop i++w.take i < w:=by
        conv=>rhs;rw [e2]
        rw [e1]
        simpa using diff_lt q'
      exact lt_asymm hr this⟩
noncomputable def pl (w:W):Bool:=decide (w≠[]) && (List.range (w.length - 1)).all fun i=>decide (w < w.drop (1 + i))
theorem pl_true {w:W}:pl w=true↔Pl w:=by
  unfold pl Pl
  rw [Bool.and_eq_true,List.all_eq_true]
  constructor
  · rintro ⟨a,b⟩
    refine ⟨of_decide_eq_true a,fun i h0 h1=>?_⟩
    have:=of_decide_eq_true (b (i - 1) (List.mem_range.mpr (by omega)))
    rwa [show 1 + (i - 1)=i by omega] at this
  · rintro ⟨a,b⟩
    exact ⟨decide_eq_true a,fun i hi=>decide_eq_true (b (1 + i) (by omega) (by have:=List.mem_range.mp hi;omega))⟩
noncomputable instance (w:W):Decidable (Pl w):=decidable_of_iff _ pl_true
theorem pl_one (a:Nat):Pl [a]:=⟨by simp,fun i h0 h1=>by simp at h1;omega⟩
noncomputable def CutAt (w:W) (i:Nat):Prop:=0 < i∧i < w.length∧Pl (w.drop i)∧∀ j,0 < j→j < i→¬ Pl (w.drop j)
theorem last_plain {w:W} (h:w≠[]):Pl (w.drop (w.length - 1)):=by
  have hl:0 < w.length:=List.length_pos_iff.mpr h
  have:(w.drop (w.length - 1)).length=1:=by rw [List.length_drop];omega
  obtain ⟨a,e⟩:=List.length_eq_one_iff.mp this
  rw [e];exact pl_one a
theorem cut_ex {w:W} (h:2≤w.length):∃ i,CutAt w i:=by
  have ex:∃ i,0 < i∧i < w.length∧Pl (w.drop i):=⟨w.length - 1,by omega,by omega,last_plain (by intro z;rw [z] at h;simp at h)⟩
  have key:∀ n i,i=n→0 < i→i < w.length→Pl (w.drop i)→∃ i,CutAt w i:=by
    intro n
    induction n using Nat.strongRecOn with
    | ind n ih =>
      intro i e h0 h1 hp
      by_cases q:∃ j,0 < j∧j < i∧Pl (w.drop j)
      · obtain ⟨j,a,b,c⟩:=q
        exact ih j (by omega) j rfl a (by omega) c
      · exact ⟨i,h0,h1,hp,fun j a b c=>q ⟨j,a,b,c⟩⟩
  obtain ⟨i,a,b,c⟩:=ex
  exact key i i rfl a b c
theorem cut_uni {w:W} {i j:Nat} (a:CutAt w i) (b:CutAt w j):i=j:=by
  rcases Nat.lt_trichotomy i j with h | h | h
  · exact absurd a.2.2.1 (b.2.2.2 i a.1 h)
  · exact h
  · exact absurd b.2.2.1 (a.2.2.2 j b.1 h)
theorem not_pl {w:W} (hn:w≠[]) (h:¬ Pl w):∃ i,0 < i∧i < w.length∧w.drop i < w:=by
  by_cases q:∃ i,0 < i∧i < w.length∧w.drop i < w
  · exact q
  · refine absurd ⟨hn,fun i h0 h1=>?_⟩ h
    rcases tri w (w.drop i) with z | z | z
    · exact z
    · have:=congrArg List.length z
      simp at this;omega
    · exact absurd ⟨i,h0,h1,z⟩ q
theorem behind {u v:W} (hv:Pl v) (hc:∀ j,0 < j→j < u.length→¬ Pl (u.drop j++v)):∀ n j,u.length - j=n→0 < j→j < u.length→v < u.drop j++v:=by
  intro n
  induction n using Nat.strongRecOn with
  | ind n ih =>
    intro j e h0 h1
    have hne:u.drop j++v≠[]:=by simp [hv.1]
    obtain ⟨i,i0,i1,hi⟩:=not_pl hne (hc j h0 h1)
    rw [List.length_append,List.length_drop] at i1
    by_cases q:i < u.length - j
    · have d:(u.drop j++v).drop i=u.drop (j + i)++v:=by
        rw [List.drop_append_of_le_length (by rw [List.length_drop];omega),List.drop_drop]
      rw [d] at hi
      exact lt_trans (ih (u.length - (j + i)) (by omega) (j + i) rfl (by omega) (by omega)) hi
    · have d:(u.drop j++v).drop i=v.drop (i - (u.length - j)):=by
        rw [List.drop_append,List.drop_eq_nil_of_le (by rw [List.length_drop];omega),List.nil_append,List.length_drop]
      rw [d] at hi
      by_cases z:i - (u.length - j)=0
      · rw [z,List.drop_zero] at hi;exact hi
      · exact lt_trans (hv.2 _ (by omega) (by omega)) hi
theorem cut_plain {w:W} (hw:Pl w) {i:Nat} (hc:CutAt w i):Pl (w.take i):=by
  obtain ⟨i0,i1,hv,hn⟩:=hc
  have hu:(w.take i).length=i:=by rw [List.length_take];omega
  have e:w=w.take i++w.drop i:=(List.take_append_drop i w).symm
  have hj:∀ j,0 < j→j < (w.take i).length→¬ Pl ((w.take i).drop j++w.drop i):=fun j j0 j1=>by
    have d:(w.take i).drop j++w.drop i=w.drop j:=by
      conv=>rhs;rw [e]
      rw [List.drop_append_of_le_length (by omega)]
    rw [d];exact hn j j0 (by omega)
  refine ⟨fun z=>by rw [z] at hu;simp at hu;omega,fun j j0 j1=>?_⟩
  have b1:=behind hv hj _ j rfl j0 j1
  have b0:w < w.drop i:=hw.2 i i0 i1
  have b2:w.take i++w.drop i < (w.take i).drop j++w.drop i:=by rw [← e];exact lt_trans b0 b1
  rcases tri (w.take i) ((w.take i).drop j) with q | q | q
  · exact q
  · have:=congrArg List.length q
    rw [List.length_drop] at this;omega
  · exfalso
    rcases lt_cases q with ⟨t,ht,et⟩ | ⟨p,a,b,s,t,e1,e2,q'⟩
    · have tl:t.length=j:=by have:=congrArg List.length et;rw [List.length_append,List.length_drop] at this;omega
      have b3:t++w.drop i < w.drop i:=by
        have z:=b2
        conv at z=>lhs;rw [et]
        rw [List.append_assoc] at z
        exact lt_append_left.mp z
      have et2:t=(w.take i).drop (i - j):=by
        have:(w.take i).drop (i - j)=t:=by
          conv=>lhs;rw [et]
          rw [List.drop_append,List.drop_eq_nil_of_le (by rw [List.length_drop];omega),List.nil_append,List.length_drop]
          rw [show i - j - ((w.take i).length - j)=0 by omega,List.drop_zero]
        exact this.symm
      have b4:=behind hv hj _ (i - j) rfl (by omega) (by omega)
      rw [← et2] at b4
      exact lt_asymm b3 b4
    · have:(w.take i).drop j++w.drop i < w.take i++w.drop i:=by
        conv=>rhs;rw [e2]
        rw [e1]
        simpa using diff_lt (p:=p) (s:=s++w.drop i) (t:=t++w.drop i) q'
      exact lt_asymm b2 this
end MW
end
section
namespace L2
open PySem PySem.Spec PyProof.Rows Tim
theorem nd_uni {α β:Type} {l:List (α×β)} (h:(l.map (·.1)).Nodup) {k:α} {a b:β} (ha:(k,a)∈l) (hb:(k,b)∈l):a=b:=by
  induction l with
  | nil=>cases ha
  | cons p r ih =>
    rw [List.map_cons,List.nodup_cons] at h
    rcases List.mem_cons.mp ha with z | z
    · rcases List.mem_cons.mp hb with y | y
      · rw [← z] at y;exact (Prod.mk.inj y).2.symm
      · exact absurd (List.mem_map.mpr ⟨_,y,rfl⟩) (by rw [← z] at h;exact h.1)
    · rcases List.mem_cons.mp hb with y | y
      · exact absurd (List.mem_map.mpr ⟨_,z,rfl⟩) (by rw [← y] at h;exact h.1)
      · exact ih h.2 z y
theorem arr_find {α:Type} (es:Array α) (p:α→Bool):es.findIdx? p=es.toList.findIdx? p:=by
  obtain ⟨l⟩:=es
  simp
section
variable {K:Type} [DecidableEq K] {prog:Program} {w:World} {knd:PySem.KeyKind prog w K} {A:Around} {E:Value→Shared→Prop} {s:Shared}
theorem wp_samePairs {nm:String} {a b:Addr} {kva kvb:List (K×Value)} {Q:Bool→Shared→Prop} (hSa:(a == sysModules)=false) (hSb:(b == sysModules)=false) (ha:s.heap.DictOf knd a kva) (hb:s.heap.DictOf knd b kvb)
    (hl:kva.length=kvb.length) (hv:∀ k v,(k,v)∈kva→∃ i t u,v = .int i t∧(k,Value.int i u)∈kvb) (h:Q true s):wpAny (model prog w) A (Builtin.Dict.samePairs nm a b) Q E s:=by
  obtain ⟨oa,esa,epa,hoa,hca,hda,hka,hpa,hna⟩:=id ha
  obtain ⟨ob,esb,epb,hob,hcb,hdb,hkb,hpb,hnb⟩:=id hb
  have la:kva.length=esa.size:=by rw [← hpa.length];simp
  have lb:kvb.length=esb.size:=by rw [← hpb.length];simp
  unfold Builtin.Dict.samePairs Builtin.Dict.showsAll
  rw [if_neg (by rw [hSa];exact Bool.false_ne_true),if_neg (by rw [hSb];exact Bool.false_ne_true)]
  refine wpAny_bind (wpAny_pure (wpAny_bind (wpAny_pure ?_)))
  refine wpAny_bind (wpAny_dictEntries hoa hda ?_)
  refine wpAny_bind (wpAny_dictEntries hob hdb ?_)
  rw [if_neg (by rw [← la,← lb,hl];simp)]
  refine wpAny_bind (wpAny_dictEpoch hoa hda ?_)
  refine wpAny_bind ?_
  rw [Std.Legacy.Range.forIn_eq_forIn_range']
  simp only [Std.Legacy.Range.size,Nat.sub_zero,Nat.add_sub_cancel,Nat.div_one]
  refine wpAny_forIn_list _ (fun rest r s'=>r=(none,())∧s'=s∧∃ i,rest=List.range' i (esa.size - i)∧i≤esa.size) _ ?_ ?_ _ _ ⟨rfl,rfl,0,by simp,Nat.zero_le _⟩
  · rintro x rest r s' ⟨rfl,rfl,i,hr,hi⟩
    have hlt:i < esa.size:=by
      rcases Nat.lt_or_ge i esa.size with h | h
      · exact h
      · rw [Nat.sub_eq_zero_of_le h] at hr;simp at hr
    obtain ⟨rfl,hrest⟩:x=i∧rest=List.range' (i + 1) (esa.size - (i + 1)):=by
      have e:esa.size - i=(esa.size - (i + 1)) + 1:=by omega
      rw [e,List.range'_succ] at hr
      injection hr with h1 h2
      exact ⟨h1,h2⟩
    refine wpAny_bind (wpAny_dictEntries hoa hda ?_)
    rw [Array.getElem?_eq_getElem hlt]
    obtain ⟨kv,hkv⟩:∃ kv,kva[x]? = some kv:=⟨kva[x]'(by rw [la];exact hlt),List.getElem?_eq_getElem _⟩
    obtain ⟨k,v⟩:=kv
    obtain ⟨hkey,hval⟩:=hpa.get? (e:=esa[x]) (by simp [hlt]) hkv
    obtain ⟨k',hkey',hhash⟩:=hka esa[x] (Array.getElem_mem hlt)
    obtain rfl:k'=k:=knd.inj _ _ _ hkey' hkey
    obtain ⟨j,t,u,rfl,hm⟩:=hv k' v (List.mem_of_getElem? hkv)
    have hidx:(esb.findIdx? fun e=>knd.is k' e.key)=(esb.toList.findIdx? fun e=>knd.is k' e.key):=arr_find _ _
    have hsome:∃ n,(esb.toList.findIdx? fun e=>knd.is k' e.key)=some n:=by
      cases z:(esb.toList.findIdx? fun e=>knd.is k' e.key) with
      | some n=>exact ⟨n,rfl⟩
      | none =>
        rw [hpb.findIdx] at z
        exact absurd (List.mem_map.mpr ⟨_,hm,rfl⟩) (not_mem_of_findIdx_none z)
    obtain ⟨n,hn⟩:=hsome
    obtain ⟨f,hf,hfk,hfv⟩:=hpb.at hn
    have hfv':f.val = .int j u:=by
      have e:valueAt kvb k'=some (.int j u):=by
        unfold valueAt
        have:(kvb.find? fun kv=>kv.1=k')=some (k',.int j u):=by
          cases z:(kvb.find? fun kv=>kv.1=k') with
          | none=>exact absurd hm (by have:=List.find?_eq_none.mp z _ hm;simp at this)
          | some q =>
            have h1:=List.mem_of_find?_eq_some z
            have h2:q.1=k':=by have:=List.find?_some z;simpa using this
            have:q=(k',.int j u):=by
              obtain ⟨q1,q2⟩:=q
              have h2:q1=k':=h2
              subst h2
              rw [nd_uni hnb h1 hm]
            rw [this]
        rw [this];rfl
      rw [e] at hfv
      exact (Option.some.inj hfv).symm
    dsimp only
    refine wpAny_bind (wpAny_holding ?_)
    rw [hhash]
    refine wpAny_bind (wpAny_dictFind_of hkey hob hdb hkb ?_)
    rw [hidx,hn]
    dsimp only
    refine wpAny_bind (wpAny_dictEntries hob hdb ?_)
    rw [← Array.getElem?_toList,hf]
    dsimp only
    refine wpAny_holding ?_
    rw [hval,hfv']
    refine wpAny_eqBool_int ?_
    rw [beq_self_eq_true]
    rw [if_neg (by simp)]
    refine wpAny_bind (wpAny_dictEpoch hoa hda ?_)
    rw [if_neg (by simp)]
    exact wpAny_pure ⟨rfl,rfl,x + 1,hrest,hlt⟩
  · rintro r s' ⟨rfl,rfl,i,hr,hi⟩
    exact wpAny_pure h
end
section
variable {X:Cx}
theorem kv_back {kvs:List (Key×V)} {vs:List (Key×Value)} (r:KV kvs vs) {k:Key} {u:Value} (h:(k,u)∈vs):∃ v,(k,v)∈kvs∧RelV v u:=by
  obtain ⟨i,hi⟩:=List.getElem?_of_mem h
  cases z:kvs[i]? with
  | none =>
    have h1:=List.getElem?_eq_none_iff.mp z
    have h2:=(List.getElem?_eq_some_iff.mp hi).1
    rw [r.length] at h1
    omega
  | some p =>
    obtain ⟨k',v⟩:=p
    obtain ⟨u',e,rv⟩:=r.at z
    rw [hi] at e
    cases e
    exact ⟨v,List.mem_of_getElem? z,rv⟩
theorem kv_fwd {kvs:List (Key×V)} {vs:List (Key×Value)} (r:KV kvs vs) {k:Key} {v:V} (h:(k,v)∈kvs):∃ u,(k,u)∈vs∧RelV v u:=by
  obtain ⟨i,hi⟩:=List.getElem?_of_mem h
  obtain ⟨u,e,rv⟩:=r.at hi
  exact ⟨u,List.mem_of_getElem? e,rv⟩
noncomputable def DSame (ka kb:List (Key×V)):Prop:=ka.length=kb.length∧∀ k v,(k,v)∈ka→∃ i,v = .int i∧(k,V.int i)∈kb
theorem dsame_pairs {P:Program} {w:World} {A:Around} {E:Value→Shared→Prop} {nm:String} {H:Hp} {s:Shared} {a b:Addr} {ka kb:List (Key×V)} {Q:Bool→Shared→Prop} (ok:HOk P w H s.heap) (ha:Rd H a (.dK ka)) (hb:Rd H b (.dK kb)) (hs:DSame ka kb) (h:Q true s) :
    wpAny (model P w) A (Builtin.Dict.samePairs nm a b) Q E s:=by
  obtain ⟨_,sa,va,ra,da⟩:=dk_rd ok ha
  obtain ⟨_,sb,vb,rb,db⟩:=dk_rd ok hb
  refine wp_samePairs (knd:=mixKind P w) sa sb da db (by rw [← ra.length,← rb.length];exact hs.1) (fun k v hm=>?_) h
  obtain ⟨v',h1,r1⟩:=kv_back ra hm
  obtain ⟨i,rfl,h2⟩:=hs.2 k v' h1
  obtain ⟨u,h3,r2⟩:=kv_fwd rb h2
  obtain ⟨t,rfl⟩:=r1
  obtain ⟨t',rfl⟩:=r2
  exact ⟨i,t,t',rfl,h3⟩
theorem dict_type {P:Program} {w:World} {H:Hp} {s:Shared} {a:Addr} {ka:List (Key×V)} (ok:HOk P w H s.heap) (ha:Rd H a (.dK ka)):s.TypeIs (.ref a) "dict":=by
  obtain ⟨_,_,va,_,da⟩:=dk_rd ok ha
  exact da.typeIs
theorem op_eqD (hu:X.A.units < cLine):OpR X (compareOp .Eq) (fun x y H Q=>∃ a b ka kb,x = .ref a∧y = .ref b∧Rd H a (.dK ka)∧Rd H b (.dK kb)∧DSame ka kb∧Q (.bl true) H):=by
  intro pins s σ H x y v u Q I rx ry h
  obtain ⟨a,b,ka,kb,rfl,rfl,ha,hb,hs,q⟩:=h
  cases rx
  cases ry
  have ta:=dict_type I.hok ha
  have tb:=dict_type I.hok hb
  show wpAny _ _ (richCompare .Eq (.ref a) (.ref b)) _ _ s
  refine wpAny_richCompare_same_room (op:=.Eq) ta tb F.slot_dict_eq (wpAny_call_entry F.slot_dict_eq ta F.entry_dict_eq ?_ (F.args_dict_eq_2 _ _)) hu
  show wpAny _ _ (Builtin.Dict.dictSlotArgs "__eq__" ⟨[.ref a,.ref b],[]⟩ >>= _) _ _ s
  unfold Builtin.Dict.dictSlotArgs
  refine wpAny_bind (wpAny_bind (wpAny_notOrdered_dict ta ?_))
  show wpAny _ _ (pure (Value.ref a,Value.ref b)) _ _ s
  refine wpAny_pure ?_
  refine wpAny_bind (wpAny_isInstance (b:=true) tb (by rw [isSubtype_type];kernel_rfl) ?_)
  rw [if_neg (by simp)]
  show wpAny _ _ (Builtin.Dict.samePairs _ a b >>= _) _ _ s
  refine wpAny_bind (dsame_pairs I.hok ha hb hs ?_)
  exact wpAny_pure ⟨_,rfl,(fun z=>by cases z),.bl true,H,I,rfl,q⟩
end
end L2
namespace L2
open PySem PySem.Spec PyProof.Rows Tim
end L2
namespace L2
open PySem PySem.Spec PyProof.Rows Tim
section
variable {X:Cx}
theorem key_text {P:Program} {w:World} {kvs:List (Key×V)} {vs:List (Key×Value)} {ss:List Str} (rel:KV kvs vs) (hk:kvs.map (fun p=>kV p.1)=ss.map V.str) {i:Nat} {v:Value} (h:∃ k x,vs[i]? = some (k,x)∧(mixKind P w).is k v=true):i < ss.length∧∃ t,v = .str (ss.getD i Str.empty) t:=by
  obtain ⟨k,x,e2,e3⟩:=h
  have hl:kvs.length=ss.length:=by have:=congrArg List.length hk;simpa using this
  have hi:i < kvs.length:=by rw [rel.length];exact (List.getElem?_eq_some_iff.mp e2).1
  obtain ⟨u,e5,_⟩:=rel.at (i:=i) (k:=kvs[i].1) (v:=kvs[i].2) (List.getElem?_eq_getElem hi)
  rw [e2] at e5
  have ek:k=kvs[i].1:=by injection e5 with e5;exact (Prod.mk.inj e5).1
  have e6:(kvs.map fun p=>kV p.1)[i]? = some (kV k):=by rw [List.getElem?_map,List.getElem?_eq_getElem hi,ek];rfl
  have hs:i < ss.length:=by omega
  rw [hk,List.getElem?_map,List.getElem?_eq_getElem hs] at e6
  have e7:kV k=V.str ss[i]:=(Option.some.inj e6).symm
  have r:=kV_rel e3
  rw [e7] at r
  obtain ⟨t,rfl⟩:=r
  exact ⟨hs,t,by simp [List.getD,List.getElem?_eq_getElem hs]⟩
theorem call_min_dict (hc:X.calm=true):CallR X (.builtin "min") (fun xs H Q=>∃ (d:Addr) (kvs:List (Key×V)) (ss:List Str),xs=[.ref d]∧Rd H d (.dK kvs)∧kvs.map (fun p=>kV p.1)=ss.map V.str∧ss≠[]∧∀ m∈ss,(∀ n∈ss,¬ Slt n m)→Q (.str m) H):=by
  intro pins s σ H xs us Q I r h
  obtain ⟨d,kvs,ss,rfl,hd,hk,hne,q⟩:=h
  obtain ⟨u,rfl,rx⟩:=vals1 r
  cases rx
  obtain ⟨z,hsm,vs,rel,dd⟩:=dk_rd I.hok hd
  obtain ⟨ep,da⟩:=dd.dictAt
  have hl:kvs.length=ss.length:=by have:=congrArg List.length hk;simpa using this
  have hvl:vs.length=ss.length:=by rw [← rel.length];exact hl
  have hpos:0 < ss.length:=List.length_pos_iff.mpr hne
  have hlt:d < s.heap.objs.size:=by obtain ⟨o,es,e,_⟩:=id da;exact Heap.lt_size e
  let bt:Nat→Nat→Bool:=fun i j=>decide ((ss.getD i Str.empty).cps.toList < (ss.getD j Str.empty).cps.toList)
  refine call_min_walk (wpAny_pyIter_dict hsm da ?_)
  refine ⟨_,_,_,_,_,_,bt,rfl,Walks.dictKeys (knd:=mixKind X.prog X.w) (A:=X.A.in1) (I.ok.hd hc) s.heap.objs.size d (Nat.ne_of_lt hlt) vs ep,⟨⟨_,Heap.get?_push_size _ rfl,rfl,rfl⟩,da.at' fun o e=>Heap.get?_push_of_some _ e⟩,fun b hb=>?_,by rw [hvl];exact hpos,cmp_strs (fun i=>ss.getD i Str.empty) fun i v e=>(key_text rel hk e).2,fun v h' tk hP hkk=>?_⟩
  · show b < (s.heap.push _).objs.size
    rw [Heap.size_push]
    simp only [List.mem_cons,List.not_mem_nil,or_false] at hb
    rcases hb with rfl | rfl
    · exact Nat.lt_succ_self _
    · exact Nat.lt_succ_of_lt hlt
  · obtain ⟨hb,t,rfl⟩:=key_text rel hk hP
    rw [hvl] at hb ⊢
    refine ⟨.str _,H,?_,⟨t,rfl⟩,q _ ?_ fun n hn=>?_⟩
    · refine I.kept (t':=tk) fun b o e=>hkk b o (fun hm=>?_) (Heap.get?_push_of_some _ e)
      simp only [List.mem_cons,List.not_mem_nil,or_false] at hm
      subst hm
      exact absurd (Heap.lt_size e) (Nat.lt_irrefl _)
    · simp only [List.getD,List.getElem?_eq_getElem hb,Option.getD_some]
      exact List.getElem_mem hb
    · obtain ⟨i,hi,rfl⟩:=List.mem_iff_getElem.mp hn
      have:=argBest_low (bt:=bt) (fun i=>decide_eq_false (List.lt_irrefl _)) (fun i j k a b=>decide_eq_true (List.lt_trans (of_decide_eq_true a) (of_decide_eq_true b))) (ss.length - 1) i (by omega)
      have this:¬ (ss.getD i Str.empty).cps.toList < (ss.getD (argBest bt (ss.length - 1)) Str.empty).cps.toList:=of_decide_eq_false this
      have e:ss.getD i Str.empty=ss[i]:=by simp [List.getD,List.getElem?_eq_getElem hi]
      rw [e] at this
      exact this
end
end L2
namespace L2
open PySem PySem.Spec PyProof.Rows Tim
noncomputable def signs (x:Str):List Str:=x.cps.toList.map fun c=>⟨#[c]⟩
theorem rising_all:∀ (p:Str) (l:List Str),risingS p l=true→(p :: l).Pairwise (fun a b=>¬ Slt b a)
  | p,[],_=>List.pairwise_singleton _ _
  | p,x :: r,h=>by
    have h:(!ltCps x.cps.toList p.cps.toList && risingS x r)=true:=h
    rw [Bool.and_eq_true,ltCps_eq] at h
    have h1:¬ Slt x p:=by simpa [Slt] using h.1
    have ih:=rising_all x r h.2
    refine List.pairwise_cons.mpr ⟨fun y hy=>?_,ih⟩
    rcases List.mem_cons.mp hy with z | z
    · rw [z];exact h1
    · have h2:¬ Slt y x:=List.rel_of_pairwise_cons ih z
      intro q
      rcases MW.tri x.cps.toList p.cps.toList with t | t | t
      · exact h1 t
      · exact h2 (by show y.cps.toList < x.cps.toList;rw [t];exact q)
      · exact h2 (List.lt_trans q t)
theorem sorted_all:∀ {l:List Str},sortedS l=true→l.Pairwise (fun a b=>¬ Slt b a)
  | [],_=>.nil
  | p :: l,h=>rising_all p l h
section
variable {X:Cx}
theorem call_sorted_str (hc:X.calm=true):CallR X (.builtin "sorted") (fun xs H Q=>∃ x:Str,xs=[.str x]∧x.length < 64∧∀ (a:Addr) (ss:List Str),H a=none→ss.Perm (signs x)→sortedS ss=true→Q (.ref a) (upd H a (.lst (ss.map V.str)))):=by
  intro pins s σ H xs us Q I r h
  obtain ⟨x,rfl,h64,q⟩:=h
  obtain ⟨u,rfl,rx⟩:=vals1 r
  obtain ⟨t,rfl⟩:=rx
  have hz:=sizeLine_eq
  have hx:x.cps.size=x.length:=rfl
  refine Calls.call_function_entry kind_sorted plain_sorted entry_sorted (args_sorted1 _) ?_
  unfold Builtin.«sorted»
  refine wpAny_bind (m:=checkCount "sorted" 1 1 _) (wpAny_pure ?_)
  refine wpAny_bind (wpAny_collect_str (A:=X.A.in1) (I.ok.hd hc) x t (fun s1 acc kp kg kd ko hit=>?_) (by omega))
  have r1:Vals ((signs x).map V.str) acc.toList:=by
    refine vals_of_items (P:=SignAt x) (by unfold signs;rw [List.length_map,List.length_map,Array.length_toList];exact hit) ?_
    rintro i v u e ⟨c,w',e2,rfl⟩
    unfold signs at e
    rw [List.map_map,List.getElem?_map,Array.getElem?_toList,e2] at e
    cases e
    exact ⟨w',rfl⟩
  have I1:Inv X pins σ H s1:=by
    have I1:Inv X pins σ H { s with heap:=s1.heap,toks:=s1.toks }:=I.kept kp
    have e:s1={ s with heap:=s1.heap,toks:=s1.toks }:=by
      cases s1
      simp only at kg kd ko
      subst kg kd ko
      rfl
    rw [e]
    exact I1
  have hS:=strsAre_of r1
  have hvl:acc.toList.length=x.length:=by rw [← r1.length];unfold signs;rw [List.length_map,List.length_map,Array.length_toList];rfl
  refine wpAny_bind (wpAny_newList ?_ (by rw [hvl];omega))
  have hoL:(s1.heap.push (seqObj "list" acc.toList.toArray 0)).get? s1.heap.objs.size=some (seqObj "list" acc.toList.toArray 0):=Heap.get?_push_size _ rfl
  refine wpAny_bind (wpAny_holding (wpAny_call_entry slot_list_sort ⟨_,hoL,rfl⟩ entry_list_sort (list_sort_treeK strKind_oneLt hoL hS.keysOf (fun v₁ v₂ rest e=>keyKind_strs (by rw [← e];exact hS)) (by omega) fun st' hp hs=>⟨_,rfl,?_⟩) (args_list_sort _)))
  obtain ⟨ss',a1,a2,a3⟩:=sorted_out_str hS hp hs
  refine wpAny_pure ⟨_,rfl,.ref s1.heap.objs.size,_,?_,rfl,q s1.heap.objs.size ss' (I1.hok.fresh (Nat.le_refl _)) a2 a3⟩
  have old:∀ b o,s1.heap.get? b=some o→(sortedHeap (s1.heap.push (seqObj "list" acc.toList.toArray 0)) s1.heap.objs.size acc.toList ((arrOf st').map (·.2))).get? b=some o:=fun b o e=>by
    rw [sortedHeap_old (Nat.ne_of_lt (Heap.lt_size e)) (by rw [size_push'];exact Nat.lt_succ_of_lt (Heap.lt_size e))]
    exact Heap.get?_push_of_some _ e
  obtain ⟨c,hat⟩:=sortedHeap_at (out:=(arrOf st').map (·.2)) hoL
  exact I1.laid (a:=s1.heap.objs.size) (o:=.lst (ss'.map V.str)) (t':=s1.toks) old (Nat.le_refl _) ⟨by rw [List.length_map,a2.length_eq];unfold signs;rw [List.length_map,Array.length_toList];omega,((arrOf st').map (·.2)).toList,c,vals_of_strs a1,by
    have e:(((arrOf st').map (·.2)).toList).toArray=(arrOf st').map (·.2):=(fun (z:Array Value)=>(by cases z;rfl:z.toList.toArray=z)) _
    rw [e];exact hat⟩
end
end L2
namespace L2
open PySem PySem.Spec PyProof.Rows Tim
section
variable {X:Cx}
theorem call_dict_of:CallR X (.type "dict") (fun xs H Q=>∃ (d:Addr) (kvs:List (Key×V)),xs=[.ref d]∧Rd H d (.dK kvs)∧∀ a,H a=none→Q (.ref a) (upd H a (.dK kvs))):=by
  intro pins s σ H xs us Q I r h
  obtain ⟨d,kvs,rfl,hd,q⟩:=h
  obtain ⟨u,rfl,rx⟩:=vals1 r
  cases rx
  obtain ⟨z,hsm,vs,rel,dd⟩:=dk_rd I.hok hd
  refine kt_call_dict (knd:=mixKind X.prog X.w) hsm dd (by rw [← rel.length];exact z) fun h' hd' sb=>?_
  refine ⟨.ref s.heap.objs.size,_,I.laid (a:=s.heap.objs.size) (o:=.dK kvs) (t':=s.toks) (fun b o e=>?_) (Nat.le_refl _) ⟨z,beq_eq_false_iff_ne.mpr (Ne.symm (Nat.ne_of_lt I.big)),vs,rel,hd'⟩,rfl,q _ (I.hok.fresh (Nat.le_refl _))⟩
  exact (sb.2 b (Nat.ne_of_lt (Heap.lt_size e))).trans (Heap.get?_push_of_some _ e)
end
end L2
end
section
namespace PySem
open Sem (wp)
section
variable {prog:Program} {w:World} {K:Type} [DecidableEq K] {knd:KeyKind prog w K} {A:Around}
end
end PySem
namespace L2
open PySem PySem.Spec PyProof.Rows Tim
theorem kv_keys {kvs:List (Key×V)} {vs:List (Key×Value)} (r:KV kvs vs):vs.map (·.1)=kvs.map (·.1):=by
  induction r with
  | nil=>rfl
  | cons h _ ih=>rw [List.map_cons,List.map_cons,ih,h.1]
section
variable {X:Cx}
end
end L2
end
section
namespace PySem
open Sem (wp)
section
variable {prog:Program} {w:World} {K:Type} [DecidableEq K] {knd:KeyKind prog w K} {A:Around} {E:Value→Shared→Prop} {s:Shared}
theorem setdef_list {d:Addr} {kvs:List (K×Value)} {k:K} {key x:Value} {Q:Value→Shared→Prop} (ik:knd.is k key=true) (D:s.heap.DictOf knd d kvs) (sz:kvs.length≤sizeLine)
    (old:∀ v,valueAt kvs k=some v→Q v { s with toks:=s.toks + 1 }) (new:valueAt kvs k=none→∀ h',h'.DictOf knd d (stored kvs k x)→Heap.SameBut d s.heap h'→Q x { s with heap:=h',toks:=s.toks + 1 }) :
    wpAny (model prog w) A (dictSetDefault d key x) Q E s:=by
  rcases D with ⟨ob,ents,n,at',ex,dat,ks,prs,dist⟩
  have fits:ents.size≤sizeLine:=by
    have l1:=prs.length
    rw [Array.length_toList] at l1
    omega
  have look:valueAt kvs k=(ents.findIdx? fun e=>knd.is k e.key).bind fun i=>(ents[i]?).map (·.val):=by
    have m:=Heap.DictOf.mapOf (knd:=knd) ⟨ob,ents,n,at',ex,dat,ks,prs,dist⟩
    rcases m with ⟨ob2,ents2,n2,at2,_,dat2,_,fnd⟩
    cases at'.symm.trans at2
    cases dat.symm.trans dat2
    have f:=fnd k
    rw [findBy_of_findIdx?] at f
    unfold valueAt at f
    unfold valueAt
    rw [← f]
    cases ents.findIdx? fun e=>knd.is k e.key <;> rfl
  have same:(ents.findIdx? fun e=>knd.is k e.key)=kvs.findIdx? fun kv=>decide (kv.1=k):=by
    rw [← prs.findIdx k]
    cases ents
    simp
  unfold dictSetDefault
  refine wpAny_holding (wpAny_bind (knd.pyHash ik ?_))
  refine wpAny_bind (wpAny_dictFind_of (s:={ s with toks:=s.toks + 1 }) ik at' dat ks ?_)
  cases found:ents.findIdx? fun e=>knd.is k e.key with
  | none =>
    rw [found] at look same
    have away:=not_mem_of_findIdx_none same.symm
    have app:stored kvs k x=kvs++[(k,x)]:=by
      rw [stored,if_neg]
      intro y
      obtain ⟨p,hp,e⟩:=List.any_eq_true.mp y
      exact away (List.mem_map.mpr ⟨p,hp,of_decide_eq_true e⟩)
    refine wpAny_bind (wpAny_rule (wpAny_bind (wpAny_updateDictKeys (hz:=fits) (s:={ s with toks:=s.toks + 1 }) at' dat (wpAny_pure ?_))))
    refine new look _ ⟨_,_,n + 1,Heap.get?_update_self _ at' (Obj.isFreed_of_dict (Obj.data_mapDictKeys dat _)),ex.mapDictKeys _,Obj.data_mapDictKeys dat _,ks.push ik _,?_,?_⟩ (Heap.SameBut.update ..)
    · rw [app,Array.toList_push]
      exact prs.append ik (knd.hash k) x
    · rw [app,List.map_append]
      exact List.nodup_append.mpr ⟨dist, by simp, fun a ha b hb e => away (by have : b = k := by simpa using hb
                                                                              rw [← this,← e];exact ha)⟩
  | some i =>
    rw [found] at look
    have il:i < ents.size:=(Array.findIdx?_eq_some_iff_findIdx_eq.mp found).1
    have ei:ents[i]? = some ents[i]:=Array.getElem?_eq_getElem il
    refine wpAny_bind (wpAny_dictEntries (s:={ s with toks:=s.toks + 1 }) at' dat ?_)
    rw [ei]
    refine wpAny_bind (wpAny_rule (wpAny_pure (old _ ?_)))
    rw [look]
    show (ents[i]?).map (·.val)=_
    rw [ei]
    rfl
theorem setdef_meets {k:K} {key:Value} {d:Addr} (ik:knd.is k key=true) (nS:(d == sysModules)=false) (x:Value) :
    MeetsIn prog w (Builtin.«dict.setdefault» ⟨[.ref d,key,x],[]⟩) (fun _ R s=>∃ kvs,s.heap.DictOf knd d kvs∧kvs.length≤sizeLine∧(∀ v,valueAt kvs k=some v→R (.ok (.ret v)) { s with toks:=s.toks + 1 }) ∧
      (valueAt kvs k=none→∀ h',h'.DictOf knd d (stored kvs k x)→Heap.SameBut d s.heap h'→R (.ok (.ret x)) { s with heap:=h',toks:=s.toks + 1 })) :=
  .of_wp fun B R s ⟨kvs,D,sz,old,new⟩=>by
    have body:∀ B:Around,wpAny (model prog w) B (dictSetDefault d key x >>= ret) (fun fin s'=>∃ v,fin = .done (.ret v)∧R (.ok (.ret v)) s') (fun e s'=>R (.error e) s') s:=fun B =>
      wpAny_bind (setdef_list ik D sz (fun v hv=>wpAny_pure ⟨v,rfl,old v hv⟩) fun hn h' D' sb=>wpAny_pure ⟨x,rfl,new hn h' D' sb⟩)
    unfold Builtin.«dict.setdefault» Builtin.Dict.keyAndDefault
    refine wpAny_bind (wpAny_bind (wpAny_notOrdered_dict D.typeIs (wpAny_pure ?_)))
    show wpAny _ _ (if (d == sysModules)=true then _ else (dictSetDefault d key x >>= ret)) _ _ s
    rw [if_neg (by rw [nS];exact Bool.false_ne_true)]
    exact body _
theorem merged_apart:∀ (more kvs:List (K×Value)),((kvs++more).map (·.1)).Nodup→merged kvs more=kvs++more
  | [],kvs,_=>by simp [merged]
  | (k,v) :: r,kvs,h=>by
    have h':((kvs++[(k,v)]++r).map (·.1)).Nodup:=by simpa using h
    have hk:¬ (kvs.any fun kv=>decide (kv.1=k))=true:=by
      rw [List.any_eq_true]
      rintro ⟨q,hq,e⟩
      rw [List.map_append,List.nodup_append] at h
      exact h.2.2 q.1 (List.mem_map.mpr ⟨q,hq,rfl⟩) k (List.mem_map.mpr ⟨(k,v),List.mem_cons_self ..,rfl⟩) (of_decide_eq_true e)
    have e:merged kvs ((k,v) :: r)=merged (kvs++[(k,v)]) r:=by
      show merged (stored kvs k v) r=_
      rw [stored,if_neg hk]
    rw [e,merged_apart r _ h']
    simp
end
end PySem
namespace L2
open PySem PySem.Spec PyProof.Rows Tim
section
variable {X:Cx}
noncomputable def rJoin (K:PySem.W.Frag):V→List V→Hp→VK→Prop:=fun x vs H Q=>∃ (sep:Str) (l:Addr) (ss:List Str),x = .str sep∧vs=[.ref l]∧SqL K H l (ss.map V.str)∧(ss.map (·.length)).sum + ss.length * sep.length≤sizeLine∧Q (.str (Builtin.Str.glued sep ss)) H
theorem vals_strs:∀ {ss:List Str} {us:List Value},Vals (ss.map V.str) us→∃ l:List (Str×Tok),us=strValues l∧l.map (·.1)=ss
  | [],us,r=>by cases r;exact ⟨[],rfl,rfl⟩
  | s :: ss,us,r=>by
    cases r with
    | cons h r =>
      obtain ⟨t,rfl⟩:=h
      obtain ⟨l,rfl,e⟩:=vals_strs r
      exact ⟨(s,t) :: l,rfl,by rw [List.map_cons,e]⟩
theorem fold_len (k:Nat):∀ (l:List Str) (a:Nat),l.foldl (fun n p=>n + p.length + k) a=a + (l.map (·.length)).sum + l.length * k
  | [],a=>by simp
  | x :: l,a=>by
    rw [List.foldl_cons,fold_len k l,List.map_cons,List.sum_cons,List.length_cons,Nat.add_mul]
    omega
theorem mt_join:MtR X "str.join" (rJoin X.K):=by
  intro pins s σ H x vs v us Q I rx rv h
  obtain ⟨sep,l,ss,rfl,rfl,hl,hz,q⟩:=h
  obtain ⟨t,rfl⟩:=rx
  obtain ⟨u,rfl,ru⟩:=vals1 rv
  cases ru
  obtain ⟨its,r,pl,_⟩:=I.list hl
  obtain ⟨ps,rfl,e⟩:=vals_strs r
  have ht:Builtin.Str.tooLong ((ps.map (·.1)).toArray.foldl (· + ·.length + sep.length) 0)=false:=by
    rw [e]
    refine decide_eq_false (Nat.not_lt.mpr ?_)
    have:=fold_len sep.length ss 0
    rw [List.foldl_toArray,this,Nat.zero_add]
    exact hz
  refine call_meets PySem.F.slot_str_join (typeIs_str _ _ _) PySem.F.entry_str_join (PySem.F.args_str_join_2 _ _) (meets_str_join_list sep t l ps ht) ⟨pl.isList,?_⟩
  have hlen:(Builtin.Str.glued sep ss).length≤sizeLine:=by
    rw [size_glued]
    have:(ss.length - 1) * sep.length≤ss.length * sep.length:=Nat.mul_le_mul_right _ (Nat.sub_le _ _)
    omega
  match ps,e with
  | [],e =>
    subst e
    exact ⟨hlen,V.str _,H,I.tok _,⟨_,rfl⟩,q⟩
  | [p],e =>
    subst e
    exact ⟨.str p.1,H,I,⟨_,rfl⟩,q⟩
  | p :: p' :: r,e =>
    subst e
    exact ⟨hlen,V.str _,H,I.tok _,⟨_,rfl⟩,q⟩
noncomputable def rSetDef:V→List V→Hp→VK→Prop:=fun x vs H Q=>∃ (a:Addr) (kvs:List (Key×V)) (k:Key) (z:V),x = .ref a∧vs=[kV k,z]∧H a=some (.dK kvs)∧kvs.length < sizeLine∧(∀ v,valV kvs k=some v→Q v H)∧(valV kvs k=none→Q z (upd H a (.dK (putK kvs k z))))
theorem mt_setdef:MtR X "dict.setdefault" rSetDef:=by
  intro pins s σ H x vs v us Q I rx rv h
  obtain ⟨a,kvs,k,z,rfl,rfl,e,hlt,h1,h2⟩:=h
  cases rx
  obtain ⟨u1,u2,rfl,ru1,ru2⟩:=vals2 rv
  obtain ⟨zl,hd,vs',rel,dd⟩:=dk_of I.hok e
  have hz:vs'.length≤sizeLine:=by rw [← rel.length];exact zl
  refine call_meetsIn PySem.F.slot_dict_setdefault dd.typeIs PySem.F.entry_dict_setdefault (PySem.F.args_dict_setdefault_3 _ _ _) (setdef_meets (knd:=mixKind X.prog X.w) (kV_is ru1) hd u2) ⟨vs',dd,hz,fun v hv=>?_,fun hv h' dd' hs=>?_⟩
  · have ro:=rel.val k
    rw [hv] at ro
    cases e2:valV kvs k with
    | none=>rw [e2] at ro;exact ro.elim
    | some y =>
      rw [e2] at ro
      exact ⟨y,H,I.tok _,ro,h1 y e2⟩
  · have ro:=rel.val k
    rw [hv] at ro
    have e2:valV kvs k=none:=by
      cases e2:valV kvs k with
      | none=>rfl
      | some y=>rw [e2] at ro;exact ro.elim
    have hl:(putK kvs k z).length≤sizeLine:=by have:=length_putK kvs k z;omega
    have he:∃ q,h'.get? a=some q:=let ⟨q,_,_,hq,_⟩:=dd';⟨q,hq⟩
    exact ⟨z,_,d_write I (by rw [e];exact True.intro) hs he (dk_new hl hd (rel.put k ru2) dd'),ru2,h2 e2⟩
noncomputable def rUpdate:V→List V→Hp→VK→Prop:=fun x vs H Q=>∃ (a b:Addr) (ka kb:List (Key×V)),x = .ref a∧vs=[.ref b]∧a≠b∧H a=some (.dK ka)∧Rd H b (.dK kb)∧ka.length + kb.length≤sizeLine∧((ka++kb).map (·.1)).Nodup∧Q .non (upd H a (.dK (ka++kb)))
theorem kv_append {a b:List (Key×V)} {c d:List (Key×Value)} (h:KV a c) (h':KV b d):KV (a++b) (c++d):=by
  induction h with
  | nil=>exact h'
  | cons x _ ih=>exact .cons x ih
theorem mt_update:MtR X "dict.update" rUpdate:=by
  intro pins s σ H x vs v us Q I rx rv h
  obtain ⟨a,b,ka,kb,rfl,rfl,nab,ea,eb,hz,hn,q⟩:=h
  cases rx
  obtain ⟨u,rfl,ru⟩:=vals1 rv
  cases ru
  obtain ⟨za,hda,va,ra,da⟩:=dk_of I.hok ea
  obtain ⟨zb,hdb,vb,rb,db⟩:=dk_rd I.hok eb
  have hn':((va++vb).map (·.1)).Nodup:=by rw [kv_keys (kv_append ra rb)];exact hn
  refine call_meetsIn PySem.F.slot_dict_update da.typeIs PySem.F.entry_dict_update (PySem.F.args_dict_update_2 _ _) (meets_dict_update (mixKind X.prog X.w) a b nab hdb) ⟨va,vb,da,db,by rw [← ra.length,← rb.length];exact hz,fun h' da' _ hs=>?_⟩
  rw [merged_apart vb va hn'] at da'
  have he:∃ q,h'.get? a=some q:=let ⟨q,_,_,hq,_⟩:=da';⟨q,hq⟩
  exact ⟨.non,_,d_write (t':=s.toks) I (by rw [ea];exact True.intro) hs he (dk_new (by rw [List.length_append];exact hz) hda (kv_append ra rb) da'),rfl,q⟩
noncomputable def tVals (td:TE):TE:=fun σ H Q=>td σ H fun v H1=>∃ (d:Addr) (kvs:List (Key×V)),v = .ref d∧Rd H1 d (.dK kvs)∧∀ l,H1 l=none→Q (.ref l) (upd H1 l (.lst (kvs.map (·.2))))
theorem pe_listValues {x:Str} {o:Expr} {td:TE} {p pos apos cpos:Pos} (hc:X.calm=true) (hg:Gl X x) (hm:X.mg x=none) (hv:bootBuiltins x=some (.type "list")) (ho:PE X o td) (hn:x≠"__name__":=by decide) (hdb:(x == ("__debug__":Str))=false:=by decide)
    (hbase:attributeBase o "values" X.env (eval o X.env)=eval o X.env:=by rfl) (hline:(apos.endLine == cpos.line)=true:=by rfl)
    (he:starEach [.Call (.Attribute o "values" apos) [] [] cpos] X.env=[(false,eval (.Call (.Attribute o "values" apos) [] [] cpos) X.env)]:=by rfl) :
    PE X (.Call (.Name x p) [.Call (.Attribute o "values" apos) [] [] cpos] [] pos) (tVals td):=by
  intro pins s σ H Q I h
  refine wpAny_Call_Name_kw (ld_blt I hg hm hv ?_ hn hdb)
  refine PyProof.Rows.callWith_type1 ?_ (by rw [he];rfl) rfl
  rw [he]
  refine Calls.spliced_cons ?_
  refine wpAny_Call_method (T:="dict") (id:="dict.values") hbase rfl hline PySem.F.plainAttrs_dict PySem.F.slot_dict_values PySem.F.type_dict_values (thn (ho pins s σ H _ I h) fun v s1 hpq=>?_)
  obtain ⟨x,H1,I1,r1,q1⟩:=hpq
  obtain ⟨d,kvs,rfl,hd,q⟩:=q1
  cases r1
  obtain ⟨z,hS,vs,rel,dd⟩:=dk_rd I1.hok hd
  obtain ⟨ep,da⟩:=dd.dictAt
  refine ⟨dd.typeIs,dd.mapOf.noDict,?_⟩
  refine method_meetsIn PySem.F.slot_dict_values PySem.F.entry_dict_values rfl (PySem.evalArgs_none ⟨rfl,dd.typeIs,PySem.F.args_dict_values_1 _,_,meets_dict_values (mixKind X.prog X.w) d hS,⟨vs,dd⟩,?_⟩)
  refine Calls.spliced_nil ?_
  have I2:Inv X pins σ H1 { s1 with heap:=s1.heap.push { cls:=.type "dict_values",data:=.fields #[.ref d] } }:=I1.kept (t':=s1.toks) fun b o e=>Heap.get?_push_of_some _ e
  refine PySem.W.kdl_call (PySem.W.kdl_values (knd:=mixKind X.prog X.w) (kvs:=vs) (ep:=ep) (r:=s1.heap.objs.size) (d:=d)) (I.ok.hd hc) ⟨⟨_,Heap.get?_push_size _ rfl,rfl,rfl⟩,da.push _⟩ (by rw [← rel.length];exact z) fun h' tk acc c hk hl hit=>?_
  refine ⟨.ref _,_,I2.laid (o:=.lst (kvs.map (·.2))) (t':=tk) hk (Nat.le_refl _) ⟨by rw [List.length_map];exact z,acc.toList,c,vals_of_items (P:=fun i v=>∃ k,vs[i]? = some (k,v)) (by rw [List.length_map,rel.length];exact hit) ?_,?_⟩,rfl,q _ (I2.hok.fresh (Nat.le_refl _))⟩
  · rintro i v u e ⟨k,e2⟩
    rw [List.getElem?_map] at e
    cases e4:kvs[i]? with
    | none=>rw [e4] at e;cases e
    | some p =>
      rw [e4] at e
      obtain ⟨k',v'⟩:=p
      obtain ⟨u',e5,r5⟩:=rel.at e4
      rw [e2] at e5
      cases e5
      cases e
      exact r5
  · simpa using hl
theorem pt_truthD {a:Expr} {ta:TE} (ha:PE X a ta) (he:∀ whole,isTrue a X.env whole=(do let v ← whole;standAt a.pos;holding [v] (truthy v))) :
    PT X a (fun σ H Q=>ta σ H fun x H'=>∃ (d:Addr) (kvs:List (Key×V)),x = .ref d∧Rd H' d (.dK kvs)∧Q (!kvs.isEmpty) H'):=by
  intro pins s σ H Q I h
  refine isTrue_plain (thn (ha pins s σ H _ I h) fun v s1 hpq=>?_) (he _)
  obtain ⟨x,H1,I1,r1,q1⟩:=hpq
  obtain ⟨d,kvs,rfl,hd,q⟩:=q1
  cases r1
  exact d_truth I1 hd fun s' I'=>⟨H1,I',q⟩
end
end L2
end
section
namespace PySem
open Sem (wp)
section
variable {prog:Program} {w:World} {A:Around} {E:Value→Shared→Prop} {s:Shared}
theorem set_take {it l S:Addr} {items:Array Value} {ss:List Str} (hA:A.handled=none) (nd:ss.Nodup) (room:ss.length + 1 < scanBound) (hlen:items.size=ss.length) (hv:∀ (j:Nat) x,ss[j]? = some x→∃ t,items[j]? = some (.str x t)) (n1:it≠S) (n2:l≠it) (n3:l≠S) :
    ∀ (n i:Nat) (s:Shared) (R:Result→Shared→Prop),i + n=ss.length→s.heap.IsListIter it l i→s.heap.IsList l items→s.heap.SetOf (strKind prog w) S (fun k=>(ss.take i).any (· == k)) i →
      (∀ h' tk,h'.SetOf (strKind prog w) S (fun k=>ss.any (· == k)) ss.length→(∀ b o,b≠it→b≠S→s.heap.get? b=some o→h'.get? b=some o)→R (.ok (.ret .none)) { s with heap:=h',toks:=tk }) →
      codeAny (model prog w) A (.builtin "set.update.loop" ⟨[.ref S,.ref it],[]⟩) R s
  | 0,i,s,R,hi,hit,hl,hS,h=>by
    have ei:i=ss.length:=by omega
    subst ei
    refine codeAny_builtin PyProof.Rows.F.entry_set_update_loop ?_
    unfold Builtin.«set.update.loop»
    show wpAny _ _ (pyNext (.ref it) >>= _) _ _ s
    refine wpAny_bind (wpAny_pyNext_list_end hA hit hl (by rw [Array.getElem?_eq_none];omega) fun h' eb=>wpAny_pure (h h' s.toks ?_ fun b o h1 h2 e=>eb b o h1 e))
    rw [List.take_length] at hS
    rcases hS with ⟨o,es,ep,t,ho,rest⟩
    exact ⟨o,es,ep,t,eb S o n1.symm ho,rest⟩
  | n + 1,i,s,R,hi,hit,hl,hS,h=>by
    have hil:i < ss.length:=by omega
    have ex:ss[i]? = some ss[i]:=List.getElem?_eq_getElem hil
    obtain ⟨t,et⟩:=hv i _ ex
    refine codeAny_builtin PyProof.Rows.F.entry_set_update_loop ?_
    unfold Builtin.«set.update.loop»
    show wpAny _ _ (pyNext (.ref it) >>= _) _ _ s
    refine wpAny_bind (wpAny_pyNext_list_item hit hl et fun h1 hit1 sb1=>?_)
    have hS1:h1.SetOf (strKind prog w) S (fun k=>(ss.take i).any (· == k)) i:=by
      rcases hS with ⟨o,es,ep,t,ho,rest⟩
      exact ⟨o,es,ep,t,(sb1.2 S n1.symm).trans ho,rest⟩
    show wpAny _ _ (holding [Value.str ss[i] t] (setAdd S (.str ss[i] t)) >>= _) _ _ _
    have out:((ss.take i).any (· == ss[i]))=false:=by
      refine Bool.eq_false_iff.mpr fun y=>?_
      obtain ⟨z,hz,e⟩:=List.any_eq_true.mp y
      obtain ⟨j,hj,ej⟩:=List.getElem_of_mem hz
      rw [List.length_take] at hj
      rw [List.getElem_take] at ej
      have:=(List.getElem_inj nd).mp (ej.trans (eq_of_beq e))
      omega
    refine wpAny_bind (wpAny_holding ?_)
    unfold setAdd
    refine wpAny_holding (wpAny_bind ((strKind prog w).pyHash (k:=ss[i]) (strKind_is _ _ _ _) ?_))
    refine wpAny_setAddHashed_of (knd:=strKind prog w) (s:=⟨h1,s.gens,s.drawn,s.toks + 1,s.os⟩) (strKind_is _ _ _ _) rfl hS1 (by omega) fun h2 sb2 hS2=>?_
    rw [out] at hS2
    have hS3:h2.SetOf (strKind prog w) S (fun k=>(ss.take (i + 1)).any (· == k)) (i + 1):=PyProof.Rows.SetOf_congr hS2 (fun k=>by
      rw [List.take_add_one,ex,List.any_append]
      show _=(_ || ((ss[i] == k) || false))
      rw [Bool.or_false]
      congr 1
      by_cases e:k=ss[i]
      · subst e;simp
      · rw [decide_eq_false e]
        exact (beq_eq_false_iff_ne.mpr (Ne.symm e)).symm) rfl
    have kp:∀ b o,b≠it→b≠S→s.heap.get? b=some o→h2.get? b=some o:=fun b o q1 q2 q3=>(sb2.2 b q2).trans ((sb1.2 b q1).trans q3)
    refine wpAny_pure ⟨plainId_quiet PyProof.Rows.F.plain_set_update_loop _,set_take hA nd room hlen hv n1 n2 n3 n (i + 1) _ R (by omega) ?_ ?_ hS3 fun h3 tk q1 q2=>h h3 tk q1 fun b o r1 r2 r3=>q2 b o r1 r2 (kp b o r1 r2 r3)⟩
    · rcases hit1 with ⟨oi,g1,g2⟩
      exact ⟨oi,(sb2.2 it n1).trans g1,g2⟩
    · rcases hl with ⟨ol,g1,g2⟩
      exact ⟨ol,kp l ol n2 n3 g1,g2⟩
set_option maxHeartbeats 3200000 in
theorem set_texts {l:Addr} {items:Array Value} {ss:List Str} {Q:Value→Shared→Prop} (hA:A.handled=none) (hl:s.heap.IsList l items) (nd:ss.Nodup) (room:ss.length + 1 < scanBound) (hlen:items.size=ss.length) (hv:∀ (j:Nat) x,ss[j]? = some x→∃ t,items[j]? = some (.str x t))
    (h:∀ h' tk,h'.SetOf (strKind prog w) s.heap.objs.size (fun k=>ss.any (· == k)) ss.length→(∀ b o,s.heap.get? b=some o→h'.get? b=some o)→Q (.ref s.heap.objs.size) { s with heap:=h',toks:=tk }) :
    wpAny (model prog w) A (call (.type "set") [.ref l]) Q E s:=by
  have called:=F.called_set
  rcases called.mro with ⟨c0,tl0,mro0⟩
  have made0:=called.made;have sub0:=called.sub;have not0:=called.notType;have can0:=called.canCreate;have type0:=F.typeCall_set_1 (.ref l);have look0:=called.init.lookup
  refine wpAny_call (codeAny_of_tree ?_);show wpAny _ _ (callAny (.type "set") _) _ _ _
  refine wpAny_pure ⟨Code.quiet_builtin _ (by decide +kernel),codeAny_builtin F.entry_type_call ?_⟩;rw [Around.under_plain (weight_type_call_type "set" [.ref l] []) rfl]
  repeat (any_goals (first | assumption | wp_step))
  refine codeAny_mono (code_set_new_1 (.ref l) (E:=E) (Q₁:=fun v t=>∃ led:Bool,v = .ref s.heap.objs.size∧t={ s with heap:=s.heap.push ⟨.type "set",none,.set #[] 0 (.fresh 0 0 led),#[]⟩ }) fun led=>⟨led,rfl,rfl⟩) fun r t hr=>?_
  match r,hr with
  | .error e,hr=>exact hr
  | .ok (.ret v),hr =>
    rcases hr with ⟨led,rfl,rfl⟩
    have at0:(s.heap.push ⟨.type "set",none,.set #[] 0 (.fresh 0 0 led),#[]⟩).get? s.heap.objs.size=some ⟨.type "set",none,.set #[] 0 (.fresh 0 0 led),#[]⟩:=Heap.get?_push_size _ rfl
    have ty0:Shared.TypeIs { s with heap:=s.heap.push ⟨.type "set",none,.set #[] 0 (.fresh 0 0 led),#[]⟩ } (.ref s.heap.objs.size) "set":=⟨_,at0,rfl⟩
    have bind0:=called.init.bind (.ref s.heap.objs.size)
    repeat (any_goals (first | assumption | wp_step))
    refine codeAny_mono (codeAny_call_builtin (R:=wants (fun r t=>r = .none∧∃ h' tk,t={ s with heap:=h',toks:=tk }∧h'.SetOf (strKind prog w) s.heap.objs.size (fun k=>ss.any (· == k)) ss.length∧∀ b o,s.heap.get? b=some o→h'.get? b=some o) E) called.init.plain F.entry_set_init (check_set_init_1 ty0 ?_)) fun r2 t2 hr2=>?_
    · rcases id hl with ⟨⟨oc,odd,oda,osl⟩,hol,hoc,nl,hod⟩
      cases hoc
      cases hod
      have atl:(s.heap.push ⟨.type "set",none,.set #[] 0 (.fresh 0 0 led),#[]⟩).get? l=some ⟨.type "list",odd,.seq items nl,osl⟩:=Heap.get?_push_of_some _ hol
      have il:(s.heap.push ⟨.type "set",none,.set #[] 0 (.fresh 0 0 led),#[]⟩).IsList l items:=⟨_,atl,rfl,nl,rfl⟩
      have f1:=F.sub_list_set;have f2:=F.sub_list_frozenset
      have f3:(Value.type "list" == Value.type "dict")=false:=by decide
      have ll:l < s.heap.objs.size:=Heap.lt_size hol
      unfold Builtin.«set.__init__» noKeywords Builtin.Frozenset.updateFrom
      generalize hp:pyIter=its
      wp_walk
      subst hp
      have m1:(s.heap.push ⟨.type "set",none,.set #[] 0 (.fresh 0 0 led),#[]⟩).objs.size≠s.heap.objs.size:=by rw [Heap.size_push];exact Nat.ne_of_gt (Nat.lt_succ_self _)
      have m2:l≠(s.heap.push ⟨.type "set",none,.set #[] 0 (.fresh 0 0 led),#[]⟩).objs.size:=by rw [Heap.size_push];exact Nat.ne_of_lt (Nat.lt_succ_of_lt ll)
      refine wpAny_pyIter_list il (wpAny_bind (wpAny_runValue ?_))
      refine set_take (A:=A.in1.in1) (l:=l) (items:=items) (ss:=ss) (by simp [hA]) nd room hlen hv m1 m2 (Nat.ne_of_lt ll) ss.length 0 _ _ (Nat.zero_add _) ?_ ?_ ?_ ?_
      · exact ⟨_,Heap.get?_push_size _ rfl,rfl,rfl⟩
      · exact il.push _
      · exact PyProof.Rows.SetOf_congr ((PyProof.Rows.setObjOf_fresh (knd:=strKind prog w) led).setOf (Heap.get?_push_of_some _ at0) (by unfold scanBound;omega)) (fun _=>rfl) rfl
      · intro h' tk hS kp
        refine wpAny_pure ?_
        show wpAny _ _ (ret Value.none) _ _ _
        refine wpAny_pure ⟨rfl,h',tk,rfl,hS,fun b o e=>?_⟩
        have hb:=Heap.lt_size e
        exact kp b o (by rw [Heap.size_push];exact Nat.ne_of_lt (Nat.lt_succ_of_lt hb)) (Nat.ne_of_lt hb) (Heap.get?_push_of_some _ (Heap.get?_push_of_some _ e))
    · match r2,hr2 with
      | .error e,hr2=>exact hr2
      | .ok (.ret v2),hr2 =>
        rcases hr2 with ⟨rfl,h',tk,rfl,hS,kp⟩
        repeat (any_goals (first | assumption | wp_step))
        exact h _ _ hS kp
end
end PySem
namespace L2
open PySem PySem.Spec PyProof.Rows Tim
section
variable {X:Cx}
noncomputable def tLenSet (K:PySem.W.Frag) (te:TE):TE:=fun σ H Q=>te σ H fun v H1=>∃ (l:Addr) (ss:List Str),v = .ref l∧SqL K H1 l (ss.map V.str)∧ss.Nodup∧ss.length < 4000∧Q (.int ss.length) H1
theorem vals_at {ss:List Str} {us:List Value} (r:Vals (ss.map V.str) us) (j:Nat) (x:Str) (e:ss[j]? = some x):∃ t,us[j]? = some (.str x t):=by
  obtain ⟨u,hu,ru⟩:=r.get (i:=j) (x:=V.str x) (by rw [List.getElem?_map,e];rfl)
  obtain ⟨t,rfl⟩:=ru
  exact ⟨t,hu⟩
theorem pe_lenSet {x y:Str} {e:Expr} {te:TE} {p p2 pos pos2:Pos} (hc:X.calm=true) (hg:Gl X x) (hm:X.mg x=none) (hv:bootBuiltins x=some (.builtin "len")) (hg2:Gl X y) (hm2:X.mg y=none) (hv2:bootBuiltins y=some (.type "set")) (he:PE X e te)
    (hn:x≠"__name__":=by decide) (hdb:(x == ("__debug__":Str))=false:=by decide) (hn2:y≠"__name__":=by decide) (hdb2:(y == ("__debug__":Str))=false:=by decide)
    (h1:starEach [.Call (.Name y p2) [e] [] pos2] X.env=[(false,eval (.Call (.Name y p2) [e] [] pos2) X.env)]:=by rfl) (h2:starEach [e] X.env=[(false,eval e X.env)]:=by rfl) :
    PE X (.Call (.Name x p) [.Call (.Name y p2) [e] [] pos2] [] pos) (tLenSet X.K te):=by
  intro pins s σ H Q I h
  refine wpAny_Call_Name_kw (ld_blt I hg hm hv ?_ hn hdb)
  refine PyProof.Rows.callWith_builtin1 ?_ (by rw [h1];rfl) rfl
  rw [h1]
  refine Calls.spliced_cons (wpAny_Call_Name_kw (ld_blt I hg2 hm2 hv2 ?_ hn2 hdb2))
  refine PyProof.Rows.callWith_type1 ?_ (by rw [h2];rfl) rfl
  rw [h2]
  refine Calls.spliced_cons (thn (he pins s σ H _ I h) fun v s1 ⟨x,H1,I1,r1,q1⟩=>Calls.spliced_nil ?_)
  obtain ⟨l,ss,rfl,hl,nd,hz,q⟩:=q1
  cases r1
  obtain ⟨its,r,pl,_⟩:=I1.list hl
  have hlen:its.toArray.size=ss.length:=by rw [List.size_toArray,← r.length,List.length_map]
  refine set_texts (I.ok.hd hc) pl.isList nd (by unfold scanBound;omega) hlen (fun j x e=>by simpa using vals_at r j x e) fun h' tk hS kp=>?_
  refine Calls.spliced_nil ?_
  rcases hS with ⟨o,es,ep,t,ho,hex,hd,_,_,hb,hf,hn⟩
  have I2:Inv X pins σ H1 { s1 with heap:=h',toks:=tk }:=I1.kept kp
  refine call_len_set ho hex hd hf (by unfold scanBound at hb;omega) ?_
  rw [hn]
  exact ⟨.int ss.length,H1,I2.tok _,⟨_,rfl⟩,q⟩
end
end L2
end
section
namespace ML
open MW (Pl W)
noncomputable abbrev F:=W→Int
noncomputable def S:F→W→W→Int
  | P,[],v=>P v
  | P,a :: u,[]=>P (a :: u)
  | P,a :: u,b :: v=>S (fun x=>P (a :: x)) u (b :: v) + S (fun x=>P (b :: x)) (a :: u) v
termination_by _ u v=>u.length + v.length
theorem S_l (P:F) (v:W):S P [] v=P v:=by rw [S]
theorem S_r (P:F) (u:W):S P u []=P u:=by cases u <;> rw [S]
theorem S_c (P:F) (a:Nat) (u:W) (b:Nat) (v:W):S P (a :: u) (b :: v)=S (fun x=>P (a :: x)) u (b :: v) + S (fun x=>P (b :: x)) (a :: u) v:=by rw [S]
theorem S_ind {C:F→W→W→Prop} (h1:∀ P v,C P [] v) (h2:∀ P u,C P u []) (h3:∀ P a u b v,C (fun x=>P (a :: x)) u (b :: v)→C (fun x=>P (b :: x)) (a :: u) v→C P (a :: u) (b :: v)):∀ (n:Nat) (u v:W) (P:F),u.length + v.length≤n→C P u v
  | n,[],v,P,_=>h1 P v
  | n,a :: u,[],P,_=>h2 P _
  | 0,a :: u,b :: v,P,h=>by simp at h
  | n + 1,a :: u,b :: v,P,h=>by
    simp only [List.length_cons] at h
    exact h3 P a u b v (S_ind h1 h2 h3 n u (b :: v) _ (by simp only [List.length_cons];omega)) (S_ind h1 h2 h3 n (a :: u) v _ (by simp only [List.length_cons];omega))
theorem S_add (P Q:F) (u v:W):S (fun x=>P x + Q x) u v=S P u v + S Q u v:=by
  refine S_ind (C:=fun P u v=>∀ Q:F,S (fun x=>P x + Q x) u v=S P u v + S Q u v) (fun P v Q=>?_) (fun P u Q=>?_) (fun P a u b v i1 i2 Q=>?_) _ u v P (Nat.le_refl _) Q
  · rw [S_l,S_l,S_l]
  · rw [S_r,S_r,S_r]
  · rw [S_c,S_c,S_c,i1 (fun x=>Q (a :: x)),i2 (fun x=>Q (b :: x))];omega
theorem S_mul (c:Int) (P:F) (u v:W):S (fun x=>c * P x) u v=c * S P u v:=by
  refine S_ind (C:=fun P u v=>S (fun x=>c * P x) u v=c * S P u v) (fun P v=>?_) (fun P u=>?_) (fun P a u b v i1 i2=>?_) _ u v P (Nat.le_refl _)
  · rw [S_l,S_l]
  · rw [S_r,S_r]
  · rw [S_c,S_c,i1,i2,Int.mul_add]
theorem S_zero {u v:W} {P:F} (h:∀ x,x.Perm (u++v)→P x=0):S P u v=0:=by
  refine S_ind (C:=fun P u v=>(∀ x,x.Perm (u++v)→P x=0)→S P u v=0) (fun P v h=>?_) (fun P u h=>?_) (fun P a u b v i1 i2 h=>?_) _ u v P (Nat.le_refl _) h
  · rw [S_l];exact h v (List.Perm.refl _)
  · rw [S_r];exact h u (by rw [List.append_nil])
  · rw [S_c,i1 fun x hx=>h _ (List.Perm.cons a hx),i2 fun x hx=>h _ ((List.Perm.cons b hx).trans List.perm_middle.symm)]
    rfl
theorem S_congr {u v:W} {P Q:F} (h:∀ x,x.Perm (u++v)→P x=Q x):S P u v=S Q u v:=by
  have e:S (fun x=>P x + (-1) * Q x) u v=0:=S_zero fun x hx=>by rw [h x hx];omega
  rw [S_add,S_mul] at e
  omega
noncomputable def Sp:(W→W→Int)→W→Int
  | f,[]=>f [] []
  | f,a :: u=>f [] (a :: u) + Sp (fun x y=>f (a :: x) y) u
theorem Sp_n (f:W→W→Int):Sp f []=f [] []:=rfl
theorem Sp_c (f:W→W→Int) (a:Nat) (u:W):Sp f (a :: u)=f [] (a :: u) + Sp (fun x y=>f (a :: x) y) u:=rfl
theorem Sp_add:∀ (u:W) (f g:W→W→Int),Sp (fun x y=>f x y + g x y) u=Sp f u + Sp g u
  | [],f,g=>rfl
  | a :: u,f,g=>by
    have ih:=Sp_add u (fun x y=>f (a :: x) y) (fun x y=>g (a :: x) y)
    show f [] (a :: u) + g [] (a :: u) + Sp (fun x y=>f (a :: x) y + g (a :: x) y) u=(f [] (a :: u) + Sp (fun x y=>f (a :: x) y) u) + (g [] (a :: u) + Sp (fun x y=>g (a :: x) y) u)
    rw [ih]
    generalize Sp (fun x y=>f (a :: x) y) u=t1
    generalize Sp (fun x y=>g (a :: x) y) u=t2
    omega
theorem Sp_zero:∀ (u:W) (f:W→W→Int),(∀ x y,f x y=0)→Sp f u=0
  | [],f,h=>h _ _
  | a :: u,f,h=>by rw [Sp_c,h,Sp_zero u _ fun x y=>h _ _];rfl
theorem Sp_congr:∀ (u:W) (f g:W→W→Int),(∀ x y,u=x++y→f x y=g x y)→Sp f u=Sp g u
  | [],f,g,h=>h _ _ rfl
  | a :: u,f,g,h=>by rw [Sp_c,Sp_c,h [] (a :: u) rfl,Sp_congr u _ (fun x y=>g (a :: x) y) fun x y e=>h (a :: x) y (by rw [e];rfl)]
theorem Sp_last:∀ (u:W) (f:W→W→Int),(∀ x y,y≠[]→f x y=0)→Sp f u=f u []
  | [],f,h=>rfl
  | a :: u,f,h=>by rw [Sp_c,h [] (a :: u) (by simp),Sp_last u _ fun x y hy=>h _ _ hy,Int.zero_add]
theorem Sp_first:∀ (u:W) (f:W→W→Int),(∀ x y,x≠[]→f x y=0)→Sp f u=f [] u
  | [],f,h=>rfl
  | a :: u,f,h=>by rw [Sp_c,Sp_zero u _ fun x y=>h _ _ (by simp),Int.add_zero]
noncomputable def cv (P Q:F):F:=fun x=>Sp (fun y z=>P y * Q z) x
noncomputable def TT (P Q:F) (u v:W):Int:=Sp (fun u1 u2=>Sp (fun v1 v2=>S P u1 v1 * S Q u2 v2) v) u
theorem S_cv (P Q:F) (u v:W):S (cv P Q) u v=TT P Q u v:=by
  refine S_ind (C:=fun P u v=>S (cv P Q) u v=TT P Q u v) (fun P v=>?_) (fun P u=>?_) (fun P a u b v i1 i2=>?_) _ u v P (Nat.le_refl _)
  · rw [S_l]
    show Sp _ v=Sp _ v
    exact Sp_congr v _ _ fun x y _=>by rw [S_l,S_l]
  · rw [S_r]
    show Sp _ u=Sp _ u
    refine Sp_congr u _ _ fun x y _=>?_
    rw [Sp_n,S_r,S_r]
  · have e1:S (fun x=>cv P Q (a :: x)) u (b :: v)=P [] * S (fun x=>Q (a :: x)) u (b :: v) + TT (fun x=>P (a :: x)) Q u (b :: v):=by
      rw [← i1,← S_mul,← S_add];rfl
    have e2:S (fun x=>cv P Q (b :: x)) (a :: u) v=P [] * S (fun x=>Q (b :: x)) (a :: u) v + TT (fun x=>P (b :: x)) Q (a :: u) v:=by
      rw [← i2,← S_mul,← S_add];rfl
    have e3:TT P Q (a :: u) (b :: v)=P [] * S Q (a :: u) (b :: v) + Sp (fun v1 v2=>P (b :: v1) * S Q (a :: u) v2) v + Sp (fun u1 u2=>P (a :: u1) * S Q u2 (b :: v) + (Sp (fun v1 v2=>S (fun x=>P (a :: x)) u1 (b :: v1) * S Q u2 v2) v + Sp (fun v1 v2=>S (fun x=>P (b :: x)) (a :: u1) v1 * S Q u2 v2) v)) u:=by
      unfold TT
      rw [Sp_c,Sp_c]
      congr 1
      · congr 1
        · rw [S_l]
        · exact Sp_congr v _ _ fun x y _=>by rw [S_l]
      · refine Sp_congr u _ _ fun x y _=>?_
        rw [Sp_c,S_r]
        congr 1
        rw [← Sp_add]
        refine Sp_congr v _ _ fun x' y' _=>?_
        rw [S_c,Int.add_mul]
    have e4:TT (fun x=>P (a :: x)) Q u (b :: v)=Sp (fun u1 u2=>P (a :: u1) * S Q u2 (b :: v) + Sp (fun v1 v2=>S (fun x=>P (a :: x)) u1 (b :: v1) * S Q u2 v2) v) u:=by
      unfold TT
      refine Sp_congr u _ _ fun x y _=>?_
      rw [Sp_c,S_r]
    have e5:TT (fun x=>P (b :: x)) Q (a :: u) v=Sp (fun v1 v2=>P (b :: v1) * S Q (a :: u) v2) v + Sp (fun u1 u2=>Sp (fun v1 v2=>S (fun x=>P (b :: x)) (a :: u1) v1 * S Q u2 v2) v) u:=by
      unfold TT
      rw [Sp_c]
      congr 1
      exact Sp_congr v _ _ fun x y _=>by rw [S_l]
    rw [S_c,e1,e2,e3,e4,e5,S_c Q,Int.mul_add]
    have e6:Sp (fun u1 u2=>P (a :: u1) * S Q u2 (b :: v) + (Sp (fun v1 v2=>S (fun x=>P (a :: x)) u1 (b :: v1) * S Q u2 v2) v + Sp (fun v1 v2=>S (fun x=>P (b :: x)) (a :: u1) v1 * S Q u2 v2) v)) u=Sp (fun u1 u2=>P (a :: u1) * S Q u2 (b :: v) + Sp (fun v1 v2=>S (fun x=>P (a :: x)) u1 (b :: v1) * S Q u2 v2) v) u + Sp (fun u1 u2=>Sp (fun v1 v2=>S (fun x=>P (b :: x)) (a :: u1) v1 * S Q u2 v2) v) u:=by
      rw [← Sp_add]
      exact Sp_congr u _ _ fun x y _=>by omega
    rw [e6]
    omega
noncomputable def Lie (P:F):Prop:=P []=0∧∀ u v,u≠[]→v≠[]→S P u v=0
theorem TT_lie {P Q:F} (hP:Lie P) (hQ:Lie Q) {u v:W} (hu:u≠[]) (hv:v≠[]):TT P Q u v=P u * Q v + P v * Q u:=by
  cases u with
  | nil=>exact absurd rfl hu
  | cons a u =>
    unfold TT
    rw [Sp_c]
    have e1:Sp (fun v1 v2=>S P [] v1 * S Q (a :: u) v2) v=P v * Q (a :: u):=by
      rw [Sp_last v _ fun x y hy=>by rw [hQ.2 _ _ hu hy,Int.mul_zero],S_l,S_r]
    have e2:Sp (fun x y=>Sp (fun v1 v2=>S P (a :: x) v1 * S Q y v2) v) u=P (a :: u) * Q v:=by
      have e:∀ x y,Sp (fun v1 v2=>S P (a :: x) v1 * S Q y v2) v=P (a :: x) * S Q y v:=fun x y=>by
        rw [Sp_first v _ fun x' y' hx=>by rw [hP.2 _ _ (by simp) hx,Int.zero_mul],S_r]
      rw [Sp_congr u _ (fun x y=>P (a :: x) * S Q y v) fun x y _=>e x y,Sp_last u _ fun x y hy=>by rw [hQ.2 _ _ hy hv,Int.mul_zero],S_l]
    rw [e1,e2]
    omega
theorem Lie.bracket {P Q:F} (hP:Lie P) (hQ:Lie Q):Lie (fun x=>cv P Q x + (-1) * cv Q P x):=by
  refine ⟨?_,fun u v hu hv=>?_⟩
  · show P [] * Q [] + (-1) * (Q [] * P [])=0
    rw [hP.1];simp
  · rw [S_add,S_mul,S_cv,S_cv,TT_lie hP hQ hu hv,TT_lie hQ hP hu hv,Int.mul_comm (Q u),Int.mul_comm (Q v)]
    omega
theorem Lie.add {P Q:F} (hP:Lie P) (hQ:Lie Q):Lie (fun x=>P x + Q x):=⟨by show P [] + Q []=0;rw [hP.1,hQ.1];rfl,fun u v hu hv=>by rw [S_add,hP.2 u v hu hv,hQ.2 u v hu hv];rfl⟩
theorem Lie.mul {P:F} (hP:Lie P) (c:Int):Lie (fun x=>c * P x):=⟨by show c * P []=0;rw [hP.1,Int.mul_zero],fun u v hu hv=>by rw [S_mul,hP.2 u v hu hv,Int.mul_zero]⟩
theorem Lie.zero:Lie (fun _=>0):=⟨rfl,fun u v _ _=>S_zero fun _ _=>rfl⟩
theorem Lie.letter (c:Nat):Lie (fun x=>if x=[c] then 1 else 0):=⟨rfl,fun u v hu hv=>S_zero fun x hx=>by
  rw [if_neg]
  intro e
  have h1:=hx.length_eq
  rw [e,List.length_append] at h1
  have h2:=List.length_pos_iff.mpr hu
  have h3:=List.length_pos_iff.mpr hv
  have h4:[c].length=1:=rfl
  omega⟩
theorem Lie.congr {P Q:F} (hP:Lie P) (h:∀ x,P x=Q x):Lie Q:=by
  have:P=Q:=funext h
  rw [← this];exact hP
theorem Lie.part {P:F} (hP:Lie P) (m:W):Lie (fun x=>if x.Perm m then P x else 0):=by
  refine ⟨?_,fun u v hu hv=>?_⟩
  · show (if ([]:W).Perm m then P [] else 0)=0
    rw [hP.1];simp
  · by_cases e:(u++v).Perm m
    · rw [S_congr (Q:=P) fun x hx=>if_pos (hx.trans e)]
      exact hP.2 u v hu hv
    · exact S_zero fun x hx=>if_neg fun y=>e (hx.symm.trans y)
noncomputable def le (s t:W):W→Bool
  | []=>true
  | c :: r=>(match s with | []=>true | a :: s'=>Nat.blt a c || (Nat.beq a c && le s' t r)) && (match t with | []=>true | b :: t'=>Nat.blt b c || (Nat.beq b c && le s t' r))
theorem le_use:∀ (r s t:W) (P:F),le s t r=true→s.length + t.length=r.length→(∀ x,x < r→P x=0)→∃ c:Nat,S P s t=(c:Int) * P r∧(r=s++t→0 < c)
  | [],s,t,P,_,hl,_=>by
    have h1:s=[]:=List.length_eq_zero_iff.mp (by simp at hl;exact List.length_eq_zero_iff.mpr hl.1)
    have h2:t=[]:=List.length_eq_zero_iff.mp (by simp at hl;exact List.length_eq_zero_iff.mpr hl.2)
    subst h1 h2
    exact ⟨1,by rw [S_l];simp,fun _=>by decide⟩
  | c :: r,[],t,P,h,hl,hp=>by
    rw [S_l]
    rcases MW.tri t (c :: r) with e | e | e
    · exact ⟨0,by rw [hp t e];simp,fun y=>absurd (by rw [y];rfl:(c :: r)=t) (fun z=>by rw [z] at e;exact MW.lt_irrefl _ e)⟩
    · exact ⟨1,by rw [e];simp,fun _=>by decide⟩
    · exfalso
      have key:∀ (r t:W),t.length=r.length→le [] t r=true→¬ r < t:=by
        intro r
        induction r with
        | nil=>intro t hl _ h;have:t=[]:=List.length_eq_zero_iff.mp hl;rw [this] at h;exact MW.lt_irrefl _ h
        | cons c r ih =>
          intro t hl h q
          cases t with
          | nil=>simp at hl
          | cons b t =>
            have h:(true && (Nat.blt b c || (Nat.beq b c && le [] t r)))=true:=h
            rw [Bool.true_and,Bool.or_eq_true,Bool.and_eq_true] at h
            rcases List.cons_lt_cons_iff.mp q with z | ⟨z,z2⟩
            · rcases h with h | ⟨h,_⟩
              · have:=Nat.blt_eq.mp h;omega
              · have:=Nat.eq_of_beq_eq_true h;omega
            · rcases h with h | ⟨_,h⟩
              · have:=Nat.blt_eq.mp h;omega
              · exact ih t (by simpa using hl) h z2
      exact key (c :: r) t (by simpa using hl) h e
  | c :: r,a :: s,[],P,h,hl,hp=>by
    rw [S_r]
    have h:((Nat.blt a c || (Nat.beq a c && le s [] r)) && true)=true:=h
    rw [Bool.and_true,Bool.or_eq_true,Bool.and_eq_true] at h
    rcases h with h | ⟨h,h'⟩
    · have:=Nat.blt_eq.mp h
      refine ⟨0,by rw [hp (a :: s) (List.cons_lt_cons_iff.mpr (.inl this))];simp,fun y=>?_⟩
      have:=(List.cons.inj y).1
      omega
    · have e:=Nat.eq_of_beq_eq_true h
      subst e
      obtain ⟨k,e1,e2⟩:=le_use r s [] (fun x=>P (a :: x)) h' (by simpa using hl) fun x hx=>hp _ (List.cons_lt_cons_iff.mpr (.inr ⟨rfl,hx⟩))
      rw [S_r] at e1
      exact ⟨k,e1,fun y=>e2 (List.cons.inj y).2⟩
  | c :: r,a :: s,b :: t,P,h,hl,hp=>by
    have h:((Nat.blt a c || (Nat.beq a c && le s (b :: t) r)) && (Nat.blt b c || (Nat.beq b c && le (a :: s) t r)))=true:=h
    rw [Bool.and_eq_true,Bool.or_eq_true,Bool.or_eq_true,Bool.and_eq_true,Bool.and_eq_true] at h
    simp only [List.length_cons] at hl
    have h1:∃ k:Nat,S (fun x=>P (a :: x)) s (b :: t)=(k:Int) * P (c :: r)∧(c :: r=(a :: s)++(b :: t)→0 < k):=by
      rcases h.1 with h | ⟨h,h'⟩
      · have q:=Nat.blt_eq.mp h
        refine ⟨0,by rw [S_zero fun x _=>hp (a :: x) (List.cons_lt_cons_iff.mpr (.inl q))];simp,fun y=>?_⟩
        have:=(List.cons.inj y).1
        omega
      · have e:=Nat.eq_of_beq_eq_true h
        subst e
        obtain ⟨k,e1,e2⟩:=le_use r s (b :: t) (fun x=>P (a :: x)) h' (by simp only [List.length_cons];omega) fun x hx=>hp _ (List.cons_lt_cons_iff.mpr (.inr ⟨rfl,hx⟩))
        exact ⟨k,e1,fun y=>e2 (List.cons.inj y).2⟩
    have h2:∃ k:Nat,S (fun x=>P (b :: x)) (a :: s) t=(k:Int) * P (c :: r):=by
      rcases h.2 with h | ⟨h,h'⟩
      · have q:=Nat.blt_eq.mp h
        exact ⟨0,by rw [S_zero fun x _=>hp (b :: x) (List.cons_lt_cons_iff.mpr (.inl q))];simp⟩
      · have e:=Nat.eq_of_beq_eq_true h
        subst e
        obtain ⟨k,e1,e2⟩:=le_use r (a :: s) t (fun x=>P (b :: x)) h' (by simp only [List.length_cons];omega) fun x hx=>hp _ (List.cons_lt_cons_iff.mpr (.inr ⟨rfl,hx⟩))
        exact ⟨k,e1⟩
    obtain ⟨k,e1,e2⟩:=h1
    obtain ⟨m,e3⟩:=h2
    refine ⟨k + m,?_,fun y=>by have:=e2 y;omega⟩
    rw [S_c,e1,e3,Int.natCast_add,Int.add_mul]
noncomputable def ltb:W→W→Bool
  | _,[]=>false
  | [],_ :: _=>true
  | a :: x,b :: y=>Nat.blt a b || (Nat.beq a b && ltb x y)
theorem ltb_lt:∀ {x y:W},ltb x y=true→x < y
  | _,[],h=>by unfold ltb at h;cases h
  | [],b :: y,_=>List.nil_lt_cons b y
  | a :: x,b :: y,h=>by
    have h:(Nat.blt a b || (Nat.beq a b && ltb x y))=true:=h
    rw [Bool.or_eq_true,Bool.and_eq_true] at h
    rcases h with h | ⟨h,h'⟩
    · exact List.cons_lt_cons_iff.mpr (.inl (Nat.blt_eq.mp h))
    · exact List.cons_lt_cons_iff.mpr (.inr ⟨Nat.eq_of_beq_eq_true h,ltb_lt h'⟩)
noncomputable def ends (w:W):W→Bool
  | []=>true
  | a :: r=>ltb w (a :: r) && ends w r
theorem ends_use {w:W}:∀ {r:W},ends w r=true→∀ i,i < r.length→w < r.drop i
  | [],_,i,h=>by simp at h
  | a :: r,h,i,hi=>by
    have h:(ltb w (a :: r) && ends w r)=true:=h
    rw [Bool.and_eq_true] at h
    cases i with
    | zero=>exact ltb_lt h.1
    | succ i=>exact ends_use h.2 i (by simpa using hi)
noncomputable def cuts (w p:W):W→Bool
  | []=>false
  | a :: q=>le p.reverse (a :: q) w || cuts w (a :: p) q
noncomputable def good (w:W):Bool:=match w with
  | []=>true
  | a :: r=>ends (a :: r) r || cuts (a :: r) [a] r
theorem cuts_use {w:W}:∀ {q p:W},p≠[]→cuts w p q=true→w=p.reverse++q→∃ u v,u≠[]∧v≠[]∧w=u++v∧le u v w=true
  | [],p,_,h,_=>by cases h
  | a :: q,p,hp,h,e=>by
    have h:(le p.reverse (a :: q) w || cuts w (a :: p) q)=true:=h
    rw [Bool.or_eq_true] at h
    rcases h with h | h
    · exact ⟨p.reverse,a :: q,by simpa using hp,by simp,e,h⟩
    · exact cuts_use (by simp) h (by rw [e];simp)
noncomputable def allW (ls:List Nat):Nat→(W→Bool)→Bool
  | 0,f=>f []
  | n + 1,f=>ls.all fun a=>allW ls n fun w=>f (a :: w)
theorem allW_use {ls:List Nat}:∀ {n:Nat} {f:W→Bool},allW ls n f=true→∀ w:W,w.length=n→(∀ c∈w,c∈ls)→f w=true
  | 0,f,h,w,hl,_=>by rw [List.length_eq_zero_iff.mp hl];exact h
  | n + 1,f,h,[],hl,_=>by simp at hl
  | n + 1,f,h,a :: w,hl,hc=>by
    have h:=List.all_eq_true.mp (show (ls.all fun a=>allW ls n fun w=>f (a :: w))=true from h) a (hc a (List.mem_cons_self ..))
    exact allW_use h w (by simpa using hl) fun c hw=>hc c (List.mem_cons_of_mem _ hw)
noncomputable def Tab (n:Nat):Prop:=allW [97,98,99] n good=true
theorem least_plain {w:W} (tb:Tab w.length) (hc:∀ c∈w,c∈[97,98,99]) {P:F} (hP:Lie P) (hw:P w≠0) (hl:∀ x,x < w→P x=0):Pl w:=by
  have g:=allW_use tb w rfl hc
  cases w with
  | nil=>exact absurd hP.1 hw
  | cons a r =>
    have g:(ends (a :: r) r || cuts (a :: r) [a] r)=true:=g
    rw [Bool.or_eq_true] at g
    rcases g with g | g
    · refine ⟨by simp,fun i h0 h1=>?_⟩
      cases i with
      | zero=>omega
      | succ i=>exact ends_use g i (by simpa using h1)
    · obtain ⟨u,v,hu,hv,e,h⟩:=cuts_use (by simp) g rfl
      obtain ⟨c,e1,e2⟩:=le_use (a :: r) u v P h (by rw [e,List.length_append]) hl
      have e3:=e2 e
      rw [hP.2 u v hu hv] at e1
      rcases Int.mul_eq_zero.mp e1.symm with z | z
      · omega
      · exact absurd z hw
theorem tab8:∀ n,n≤8→Tab n:=fun n h=>by
  have:n=0∨n=1∨n=2∨n=3∨n=4∨n=5∨n=6∨n=7∨n=8:=by omega
  rcases this with rfl | rfl | rfl | rfl | rfl | rfl | rfl | rfl | rfl <;> (unfold Tab;decide +kernel)
end ML
end
section
namespace MD
open MW (Pl W)
open ML
open Wm
section sums
theorem isum_nil {β:Type} (f:β→Int):isum (([]:List β).map f)=0:=rfl
theorem isum_cons {β:Type} (f:β→Int) (p:β) (l:List β):isum ((p :: l).map f)=f p + isum (l.map f):=rfl
theorem isum_add {β:Type} (f g:β→Int):∀ l:List β,isum (l.map fun p=>f p + g p)=isum (l.map f) + isum (l.map g)
  | []=>rfl
  | p :: l=>by rw [isum_cons,isum_cons,isum_cons,isum_add f g l];omega
theorem isum_mul {β:Type} (c:Int) (f:β→Int):∀ l:List β,isum (l.map fun p=>c * f p)=c * isum (l.map f)
  | []=>by rw [isum_nil,isum_nil,Int.mul_zero]
  | p :: l=>by rw [isum_cons,isum_cons,isum_mul c f l,Int.mul_add]
theorem isum_nought {β:Type} {f:β→Int}:∀ {l:List β},(∀ p∈l,f p=0)→isum (l.map f)=0
  | [],_=>rfl
  | p :: l,h=>by rw [isum_cons,h p (List.mem_cons_self ..),isum_nought fun q hq=>h q (List.mem_cons_of_mem _ hq)];rfl
theorem isum_comm {β γ:Type} (f:β→γ→Int) (m:List γ):∀ l:List β,isum (l.map fun p=>isum (m.map fun q=>f p q))=isum (m.map fun q=>isum (l.map fun p=>f p q))
  | []=>by rw [isum_nil];exact (isum_nought fun q _=>rfl).symm
  | p :: l=>by
    rw [isum_cons,isum_comm f m l,← isum_add]
    rfl
theorem isum_prod {β γ:Type} (f:β→Int) (g:γ→Int) (m:List γ):∀ l:List β,isum (l.map f) * isum (m.map g)=isum (l.map fun p=>isum (m.map fun q=>f p * g q))
  | []=>by rw [isum_nil,isum_nil,Int.zero_mul]
  | p :: l=>by rw [isum_cons,isum_cons,Int.add_mul,isum_prod f g m l,isum_mul]
theorem Sp_isum {β:Type} (G:β→W→W→Int) (x:W):∀ l:List β,Sp (fun y z=>isum (l.map fun p=>G p y z)) x=isum (l.map fun p=>Sp (G p) x)
  | []=>by rw [isum_nil];exact Sp_zero x _ fun _ _=>rfl
  | p :: l=>by
    rw [isum_cons,← Sp_isum G x l,← Sp_add]
    rfl
theorem Sp_one (a b:Int) (v:W):∀ (x u:W),Sp (fun y z=>(if u=y then a else 0) * (if v=z then b else 0)) x=if x=u++v then a * b else 0
  | [],u=>by
    rw [Sp_n]
    cases u with
    | nil =>
      by_cases e:v=[]
      · rw [e];simp
      · rw [if_pos rfl,if_neg e,if_neg (fun y=>e y.symm),Int.mul_zero]
    | cons c u=>rw [if_neg (by simp),Int.zero_mul,if_neg (by simp)]
  | c :: x,u=>by
    rw [Sp_c]
    cases u with
    | nil =>
      rw [Sp_zero x _ fun y z=>by rw [if_neg (by simp),Int.zero_mul],Int.add_zero,if_pos rfl]
      by_cases e:v=c :: x
      · rw [if_pos e,if_pos (by rw [e];rfl)]
      · rw [if_neg e,if_neg (fun y=>e y.symm),Int.mul_zero]
    | cons d u =>
      rw [if_neg (by simp),Int.zero_mul,Int.zero_add]
      by_cases e:d=c
      · subst e
        have h:∀ y:W,(d :: u=d :: y)=(u=y):=fun y=>by simp
        rw [Sp_congr x _ (fun y z=>(if u=y then a else 0) * (if v=z then b else 0)) fun y z _=>by simp only [h y],Sp_one a b v x u]
        have h2:(x=u++v)=(d :: x=d :: u++v):=by simp
        simp only [h2]
      · rw [Sp_zero x _ fun y z=>by rw [if_neg (by simp [e]),Int.zero_mul],if_neg]
        intro y
        exact e (List.cons.inj y).1.symm
end sums
variable {α:Type} [DecidableEq α]
theorem val_isum {d:D α} (hn:(keys d).Nodup) (w:α):val d w=isum (d.map fun p=>if p.1=w then p.2 else 0):=by
  induction d with
  | nil=>rfl
  | cons p r ih =>
    have hn':(keys r).Nodup:=(List.nodup_cons.mp hn).2
    have hp:p.1 ∉ keys r:=(List.nodup_cons.mp hn).1
    rw [isum_cons,← ih hn']
    unfold val
    by_cases e:p.1=w
    · rw [if_pos e,look_pos e]
      have:look r w=none:=look_none.mpr (by rw [← e];exact hp)
      rw [this]
      simp
    · rw [if_neg e,look_neg e]
      simp
structure Iso (op:α→α→α) (L:α→W) (M:W→α):Prop where
  lm:∀ w,L (M w)=w
  ml:∀ x,M (L x)=x
  cat:∀ x y,L (op x y)=L x++L y
noncomputable def fn (M:W→α) (d:D α):F:=fun x=>val d (M x)
theorem perm_val {d e:D α} (hd:(keys d).Nodup) (h:d.Perm e) (w:α):val d w=val e w:=by
  have he:(keys e).Nodup:=(List.Perm.nodup_iff (show (keys d).Perm (keys e) from List.Perm.map (fun p:α×Int=>p.1) h)).mp hd
  rw [val_isum hd,val_isum he]
  exact isum_perm (h.map _)
section
variable {op:α→α→α} {L:α→W} {M:W→α}
theorem Iso.eq (I:Iso op L M) {x:α} {w:W}:x=M w↔L x=w:=⟨fun e=>by rw [e,I.lm],fun e=>by rw [← e,I.ml]⟩
theorem Iso.inj (I:Iso op L M) {x y:α} (e:L x=L y):x=y:=by rw [← I.ml x,← I.ml y,e]
theorem fn_isum (I:Iso op L M) {d:D α} (hn:(keys d).Nodup) (x:W):fn M d x=isum (d.map fun p=>if L p.1=x then p.2 else 0):=by
  unfold fn
  rw [val_isum hn]
  refine isum_map_congr fun p _=>?_
  have:(p.1=M x)=(L p.1=x):=propext I.eq
  simp only [this]
theorem cv_fn (I:Iso op L M) {a b:D α} (ha:(keys a).Nodup) (hb:(keys b).Nodup) (x:W):cv (fn M a) (fn M b) x=isum (a.map fun p=>isum (b.map fun q=>if x=L p.1++L q.1 then p.2 * q.2 else 0)):=by
  unfold cv
  rw [Sp_congr x _ (fun y z=>isum (a.map fun p=>isum (b.map fun q=>(if L p.1=y then p.2 else 0) * (if L q.1=z then q.2 else 0)))) fun y z _=>by rw [fn_isum I ha,fn_isum I hb,isum_prod],Sp_isum]
  refine isum_map_congr fun p _=>?_
  rw [Sp_isum]
  refine isum_map_congr fun q _=>?_
  exact Sp_one p.2 q.2 (L q.1) x (L p.1)
theorem fn_fold (I:Iso op L M) {a b:D α} (ha:(keys a).Nodup) (hb:(keys b).Nodup) (x:W):fn M (foldL op a b) x=cv (fn M a) (fn M b) x + (-1) * cv (fn M b) (fn M a) x:=by
  rw [cv_fn I ha hb,cv_fn I hb ha,isum_comm (fun (q p:α×Int)=>if x=L q.1++L p.1 then q.2 * p.2 else 0) a b,← isum_mul,← isum_add]
  show val (foldL op a b) (M x)=_
  rw [val_foldL]
  refine isum_map_congr fun p _=>?_
  rw [← isum_mul,← isum_add]
  refine isum_map_congr fun q _=>?_
  unfold gv
  have h1:(M x=op p.1 q.1)=(x=L p.1++L q.1):=propext ⟨fun e=>by rw [← I.cat,← e,I.lm],fun e=>by rw [e,← I.cat,I.ml]⟩
  have h2:(M x=op q.1 p.1)=(x=L q.1++L p.1):=propext ⟨fun e=>by rw [← I.cat,← e,I.lm],fun e=>by rw [e,← I.cat,I.ml]⟩
  simp only [h1,h2]
  congr 1
  by_cases e:x=L q.1++L p.1
  · rw [if_pos e,if_pos e,Int.mul_comm q.2];omega
  · rw [if_neg e,if_neg e];rfl
noncomputable def Lt (L:α→W):Br α→Prop
  | .leaf x=>∃ c,L x=[c]
  | .node a b=>Lt L a∧Lt L b
theorem lie_cL (I:Iso op L M):∀ {b:Br α},Lt L b→Lie (fn M (cL op b))
  | .leaf y,⟨c,h⟩=>(Lie.letter c).congr fun x=>by
    show (if x=[c] then (1:Int) else 0)=val [(y,(1:Int))] (M x)
    unfold val
    by_cases e:x=[c]
    · rw [if_pos e,look_pos (by rw [e,← h,I.ml])];rfl
    · rw [if_neg e,look_neg (fun q=>e (by have q:y=M x:=q;rw [I.eq,h] at q;exact q.symm))];rfl
  | .node a b,⟨ha,hb⟩=>((lie_cL I ha).bracket (lie_cL I hb)).congr fun x=>(fn_fold I (nd_cL a) (nd_cL b) x).symm
theorem val_smL (t:List (Int×Br α)) (x:α):val (smL op t) x=isum (t.map fun p=>p.1 * val (cL op p.2) x):=by
  unfold smL
  rw [val_fold (g:=fun p x=>p.1 * val (cL op p.2) x) (fun d p x=>?_) t [] x]
  · show 0 + _=_
    rw [Int.zero_add]
  · rw [val_fold (g:=fun q x=>if x=q.1 then p.1 * q.2 else 0) (fun d q x=>val_lput d q.1 x _),val_isum (nd_cL p.2),← isum_mul]
    congr 1
    refine isum_map_congr fun q _=>?_
    by_cases e:x=q.1
    · rw [if_pos e,if_pos e.symm]
    · rw [if_neg e,if_neg (Ne.symm e),Int.mul_zero]
theorem lie_isum {β:Type} {f:β→F}:∀ {l:List β},(∀ p∈l,Lie (f p))→Lie (fun x=>isum (l.map fun p=>f p x))
  | [],_=>Lie.zero
  | p :: l,h=>((h p (List.mem_cons_self ..)).add (lie_isum fun q hq=>h q (List.mem_cons_of_mem _ hq))).congr fun _=>rfl
theorem lie_smL (I:Iso op L M) {t:List (Int×Br α)} (h:∀ p∈t,Lt L p.2):Lie (fn M (smL op t)) :=
  (lie_isum (f:=fun (p:Int×Br α) x=>p.1 * fn M (cL op p.2) x) fun p hp=>(lie_cL I (h p hp)).mul p.1).congr fun x=>(val_smL t (M x)).symm
theorem key_val {d:D α} {x:α} (h:val d x≠0):x∈keys d:=by
  refine Classical.byContradiction fun y=>h ?_
  unfold val
  rw [look_none.mpr y]
  rfl
noncomputable def words:Nat→List W
  | 0=>[[]]
  | n + 1=>(words n).flatMap fun w=>[97 :: w,98 :: w,99 :: w]
theorem mem_words:∀ (w:W),(∀ c∈w,c∈[97,98,99])→w∈words w.length
  | [],_=>List.mem_singleton.mpr rfl
  | a :: w,h=>by
    refine List.mem_flatMap.mpr ⟨w,mem_words w fun c hc=>h c (List.mem_cons_of_mem _ hc),?_⟩
    have:=h a (List.mem_cons_self ..)
    simp only [List.mem_cons,List.not_mem_nil,or_false] at this
    rcases this with rfl | rfl | rfl <;> simp
theorem filter_lt {β:Type} {p q:β→Bool}:∀ {l:List β},(∀ x∈l,p x=true→q x=true)→(∃ x∈l,q x=true∧p x=false)→(l.filter p).length < (l.filter q).length
  | [],_,⟨x,h,_⟩=>by cases h
  | y :: l,h,⟨x,hx,h1,h2⟩=>by
    have le:∀ {l:List β},(∀ x∈l,p x=true→q x=true)→(l.filter p).length≤(l.filter q).length:=by
      intro l
      induction l with
      | nil=>intro _;exact Nat.le_refl _
      | cons y l ih =>
        intro h
        have i:=ih fun x hx=>h x (List.mem_cons_of_mem _ hx)
        have hy:=h y (List.mem_cons_self ..)
        rw [List.filter_cons,List.filter_cons]
        by_cases e:p y=true
        · rw [if_pos e,if_pos (hy e)];simpa using i
        · rw [if_neg e]
          split
          · exact Nat.le_succ_of_le i
          · exact i
    have hl:∀ x∈l,p x=true→q x=true:=fun x hx=>h x (List.mem_cons_of_mem _ hx)
    rw [List.filter_cons,List.filter_cons]
    rcases List.mem_cons.mp hx with e | e
    · subst e
      rw [if_neg (by rw [h2];decide),if_pos h1]
      exact Nat.lt_succ_of_le (le hl)
    · have i:=filter_lt hl ⟨x,e,h1,h2⟩
      have hy:=h y (List.mem_cons_self ..)
      by_cases e:p y=true
      · rw [if_pos e,if_pos (hy e)];simpa using i
      · rw [if_neg e]
        split
        · exact Nat.lt_succ_of_lt i
        · exact i
noncomputable def meas (L:α→W) (n:Nat) (d:D α):Nat:=((words n).filter fun x=>(keys d).any fun y=>decide (¬ x < L y)).length
structure PBk (op:α→α→α) (L:α→W) (M:W→α) (br:α→Br α):Prop where
  one:∀ z,Pl (L z)→val (cL op (br z)) z=1
  late:∀ z,Pl (L z)→∀ x∈keys (cL op (br z)),¬ L x < L z
  perm:∀ z,Pl (L z)→∀ x∈keys (cL op (br z)),(L x).Perm (L z)
  lie:∀ z,Pl (L z)→Lie (fn M (cL op (br z)))
noncomputable def made (op:α→α→α) (br:α→Br α) (f:D α) (x:α):Int:=isum (f.map fun p=>p.2 * val (cL op (br p.1)) x)
structure RI (op:α→α→α) (L:α→W) (M:W→α) (br:α→Br α) (m:W) (P0:D α) (f d:D α):Prop where
  nd:(keys d).Nodup
  nz:NZ d
  lie:Lie (fn M P0)→Lie (fn M d)
  per:∀ x∈keys d,(L x).Perm m
  ndf:(keys f).Nodup
  nzf:NZ f
  plf:∀ x∈keys f,Pl (L x)∧(L x).Perm m
  sep:∀ x∈keys f,∀ y∈keys d,L x < L y
  sum:∀ x,val P0 x=val d x + made op br f x
theorem RI.start {br:α→Br α} {m:W} {d:D α} (nd:(keys d).Nodup) (nz:NZ d) (per:∀ x∈keys d,(L x).Perm m):RI op L M br m d [] d :=
  { nd:=nd,nz:=nz,lie:=fun h=>h,per:=per,ndf:=List.nodup_nil,nzf:=fun p h=>(by cases h),plf:=fun x h=>(by cases h),sep:=fun x h=>(by cases h),sum:=fun x=>(by show _=_ + (0:Int);omega) }
theorem RI.plain {br:α→Br α} {m:W} {P0 f d:D α} (I:Iso op L M) (R:RI op L M br m P0 f d) (lp:Lie (fn M P0)) (hm:∀ c∈m,c∈[97,98,99]) (h8:m.length≤8) {w:α} (hw:w∈keys d) (hl:∀ y∈keys d,¬ L y < L w):Pl (L w):=by
  have p:=R.per w hw
  refine least_plain (P:=fn M d) (tab8 _ (by rw [p.length_eq];exact h8)) (fun c hc=>hm c (p.mem_iff.mp hc)) (R.lie lp) ?_ fun x hx=>?_
  · show val d (M (L w))≠0
    rw [I.ml]
    exact R.nz.val R.nd hw
  · refine Classical.byContradiction fun y=>hl (M x) (key_val y) ?_
    rw [I.lm];exact hx
theorem RI.step {br:α→Br α} {m:W} {P0 f d d':D α} (I:Iso op L M) (B:PBk op L M br) (R:RI op L M br m P0 f d) (hm:∀ c∈m,c∈[97,98,99]) {w:α} (pl:Pl (L w)) (hw:w∈keys d) (hl:∀ y∈keys d,¬ L y < L w)
    (nd':(keys d').Nodup) (nz':NZ d') (hv:∀ x,val d' x=val d x + (-val d w) * val (cL op (br w)) x):w ∉ keys f∧RI op L M br m P0 (f++[(w,val d w)]) d'∧meas L m.length d' < meas L m.length d:=by
  have hv0:val d w≠0:=R.nz.val R.nd hw
  have v0:val d' w=0:=by rw [hv,B.one w pl];omega
  have key':∀ x∈keys d',L w < L x∧(L x).Perm m:=fun x hx=>by
    have hn:val d' x≠0:=nz'.val nd' hx
    have h1:¬ L x < L w∧(L x).Perm m:=by
      by_cases e:val d x=0
      · have e2:val (cL op (br w)) x≠0:=fun z=>by rw [hv,e,z] at hn;simp at hn
        have k:=key_val e2
        exact ⟨B.late w pl x k,(B.perm w pl x k).trans (R.per w hw)⟩
      · exact ⟨hl x (key_val e),R.per x (key_val e)⟩
    refine ⟨?_,h1.2⟩
    rcases MW.tri (L w) (L x) with z | z | z
    · exact z
    · have:=I.inj z
      subst this
      exact absurd v0 hn
    · exact absurd z h1.1
  have nw:w ∉ keys f:=fun h=>MW.lt_irrefl _ (R.sep w h w hw)
  refine ⟨nw,⟨nd',nz',?_,fun x hx=>(key' x hx).2,?_,?_,?_,?_,fun x=>?_⟩,?_⟩
  · exact fun lp=>((R.lie lp).add ((B.lie w pl).mul (-val d w))).congr fun x=>(hv (M x)).symm
  · show ((f++[(w,val d w)]).map (·.1)).Nodup
    rw [List.map_append]
    refine List.nodup_append.mpr ⟨R.ndf,by simp,fun a ha b hb=>?_⟩
    have:b=w:=by simpa using hb
    rw [this]
    intro e
    rw [e] at ha
    exact nw ha
  · intro p hp
    rcases List.mem_append.mp hp with h | h
    · exact R.nzf p h
    · have:p=(w,val d w):=by simpa using h
      rw [this];exact hv0
  · intro x hx
    have hx:x∈keys f++[w]:=by simpa [keys] using hx
    rcases List.mem_append.mp hx with h | h
    · exact R.plf x h
    · have:x=w:=by simpa using h
      rw [this];exact ⟨pl,R.per w hw⟩
  · intro x hx y hy
    have hx:x∈keys f++[w]:=by simpa [keys] using hx
    rcases List.mem_append.mp hx with h | h
    · exact MW.lt_trans (R.sep x h w hw) (key' y hy).1
    · have:x=w:=by simpa using h
      rw [this];exact (key' y hy).1
  · rw [R.sum x,hv x]
    unfold made
    rw [List.map_append,isum_append]
    show _=_ + (_ + (val d w * val (cL op (br w)) x + 0))
    rw [Int.neg_mul]
    omega
  · have pm:=R.per w hw
    refine filter_lt (fun x _ h=>?_) ⟨L w,?_,?_,?_⟩
    · obtain ⟨y,hy,h⟩:=List.any_eq_true.mp h
      have h:¬ x < L y:=of_decide_eq_true h
      exact List.any_eq_true.mpr ⟨w,hw,decide_eq_true fun z=>h (MW.lt_trans z (key' y hy).1)⟩
    · rw [← pm.length_eq]
      exact mem_words _ fun c hc=>hm c (pm.mem_iff.mp hc)
    · exact List.any_eq_true.mpr ⟨w,hw,decide_eq_true (MW.lt_irrefl _)⟩
    · refine Bool.eq_false_iff.mpr fun h=>?_
      obtain ⟨y,hy,h⟩:=List.any_eq_true.mp h
      exact (of_decide_eq_true h:¬ L w < L y) (key' y hy).1
noncomputable def dd:List α→List α
  | []=>[]
  | a :: l=>if a∈dd l then dd l else a :: dd l
variable {κ:Type} [DecidableEq κ]
noncomputable def gput (sk:α→κ) (G:List (κ×D α)) (p:α×Int):List (κ×D α) :=
  if (G.any fun e=>decide (e.1=sk p.1))=true then G.map (fun e=>if e.1=sk p.1 then (e.1,put e.2 p.1 p.2) else e) else G++[(sk p.1,[p])]
structure GI (sk:α→κ) (G:List (κ×D α)) (x:D α):Prop where
  nd:(G.map (·.1)).Nodup
  part:∀ e∈G,e.2=x.filter fun p=>decide (sk p.1=e.1)
  all:∀ p∈x,∃ e∈G,e.1=sk p.1
theorem GI.nil (sk:α→κ):GI sk [] ([]:D α):=⟨List.nodup_nil,fun e h=>(by cases h),fun p h=>(by cases h)⟩
theorem GI.step {sk:α→κ} {G:List (κ×D α)} {x:D α} (g:GI sk G x) {p:α×Int} (hp:p.1 ∉ keys x):GI sk (gput sk G p) (x++[p]):=by
  unfold gput
  split
  · rename_i h
    obtain ⟨e0,he0,hk0⟩:=List.any_eq_true.mp h
    have hk0:e0.1=sk p.1:=of_decide_eq_true hk0
    refine ⟨?_,fun e he=>?_,fun q hq=>?_⟩
    · have:(G.map (fun e=>if e.1=sk p.1 then (e.1,put e.2 p.1 p.2) else e)).map (·.1)=G.map (·.1):=by
        rw [List.map_map]
        refine List.map_congr_left fun e _=>?_
        show (if e.1=sk p.1 then (e.1,put e.2 p.1 p.2) else e).1=e.1
        split <;> rfl
      rw [this];exact g.nd
    · obtain ⟨e1,h1,e2⟩:=List.mem_map.mp he
      rw [List.filter_append]
      by_cases z:e1.1=sk p.1
      · rw [if_pos z] at e2
        subst e2
        show put e1.2 p.1 p.2=_
        have hn:p.1 ∉ keys e1.2:=fun y=>by
          rw [g.part e1 h1] at y
          obtain ⟨r,hr,er⟩:=List.mem_map.mp y
          exact hp (List.mem_map.mpr ⟨r,(List.mem_filter.mp hr).1,er⟩)
        rw [put_new _ hn,g.part e1 h1]
        congr 1
        rw [List.filter_cons,if_pos (decide_eq_true z.symm)]
        rfl
      · rw [if_neg z] at e2
        subst e2
        rw [List.filter_cons,if_neg (by simpa using fun y=>z y.symm),g.part e1 h1]
        simp
    · rcases List.mem_append.mp hq with y | y
      · obtain ⟨e,he,hk⟩:=g.all q y
        refine ⟨_,List.mem_map.mpr ⟨e,he,rfl⟩,?_⟩
        split <;> exact hk
      · have:q=p:=by simpa using y
        subst this
        refine ⟨_,List.mem_map.mpr ⟨e0,he0,rfl⟩,?_⟩
        split <;> exact hk0
  · rename_i h
    have hno:∀ e∈G,e.1≠sk p.1:=fun e he y=>h (List.any_eq_true.mpr ⟨e,he,decide_eq_true y⟩)
    refine ⟨?_,fun e he=>?_,fun q hq=>?_⟩
    · rw [List.map_append]
      refine List.nodup_append.mpr ⟨g.nd,by simp,fun a ha b hb=>?_⟩
      obtain ⟨e,he,rfl⟩:=List.mem_map.mp ha
      have:b=sk p.1:=by simpa using hb
      rw [this];exact hno e he
    · rw [List.filter_append]
      rcases List.mem_append.mp he with y | y
      · rw [List.filter_cons,if_neg (by simpa using fun z=>hno e y z.symm),g.part e y]
        simp
      · have:e=(sk p.1,[p]):=by simpa using y
        subst this
        have:x.filter (fun q=>decide (sk q.1=sk p.1))=[]:=List.filter_eq_nil_iff.mpr fun q hq z=>by
          obtain ⟨e,he,hk⟩:=g.all q hq
          exact hno e he (hk.trans (of_decide_eq_true z))
        rw [this,List.filter_cons,if_pos (decide_eq_true rfl)]
        rfl
    · rcases List.mem_append.mp hq with y | y
      · obtain ⟨e,he,hk⟩:=g.all q y
        exact ⟨e,List.mem_append_left _ he,hk⟩
      · have:q=p:=by simpa using y
        subst this
        exact ⟨_,List.mem_append_right _ (List.mem_singleton.mpr rfl),rfl⟩
theorem val_filter {x:D α} (h:(keys x).Nodup) (f:α→Bool) (w:α):val (x.filter fun p=>f p.1) w=if f w=true then val x w else 0:=by
  rw [val_isum (nd_filter h _),val_isum h]
  clear h
  induction x with
  | nil=>simp [isum]
  | cons p r ih =>
    rw [List.filter_cons]
    by_cases e:p.1=w
    · by_cases z:f p.1=true
      · rw [if_pos z,isum_cons,isum_cons,ih,if_pos e,← e,if_pos z,if_pos z]
      · rw [if_neg z,ih,← e,if_neg z,if_neg z]
    · by_cases z:f p.1=true
      · rw [if_pos z,isum_cons,isum_cons,ih,if_neg e,Int.zero_add,Int.zero_add]
      · rw [if_neg z,isum_cons,ih,if_neg e,Int.zero_add]
theorem GI.sum {sk:α→κ} {G:List (κ×D α)} {x:D α} (g:GI sk G x) (hx:(keys x).Nodup) (w:α):isum (G.map fun e=>val e.2 w)=val x w:=by
  have e1:isum (G.map fun e=>val e.2 w)=isum (G.map fun e=>if e.1=sk w then val x w else 0):=isum_map_congr fun e he=>by
    rw [g.part e he,val_filter hx (fun a=>decide (sk a=e.1)) w]
    by_cases z:e.1=sk w
    · rw [if_pos z,if_pos (decide_eq_true z.symm)]
    · rw [if_neg z,if_neg (by simpa using fun y=>z y.symm)]
  rw [e1]
  by_cases z:val x w=0
  · rw [z]
    exact isum_nought fun e _=>by split <;> rfl
  · obtain ⟨p,hp,ep⟩:=List.mem_map.mp (key_val z)
    obtain ⟨e,he,hk⟩:=g.all p hp
    have ep:p.1=w:=ep
    rw [ep] at hk
    have:∀ {G:List (κ×D α)},(G.map (·.1)).Nodup→e∈G→isum (G.map fun e=>if e.1=sk w then val x w else 0)=val x w:=by
      intro G
      induction G with
      | nil=>intro _ h;cases h
      | cons u U ih =>
        intro hU hm
        rw [List.map_cons] at hU
        have hu:=List.nodup_cons.mp hU
        rw [isum_cons]
        by_cases y:u.1=sk w
        · rw [if_pos y,isum_nought fun q hq=>if_neg fun z=>hu.1 (by rw [y,← z];exact List.mem_map.mpr ⟨q,hq,rfl⟩)]
          omega
        · rw [if_neg y,Int.zero_add]
          refine ih hu.2 ((List.mem_cons.mp hm).resolve_left fun z=>y (by rw [← z];exact hk))
    exact this g.nd he
end
end MD
end
section
namespace MP
open MW (Pl W)
open ML
theorem lt_ltb:∀ {x y:W},x < y→ltb x y=true
  | x,[],h=>absurd h (List.not_lt_nil x)
  | [],b :: y,_=>rfl
  | a :: x,b :: y,h=>by
    show (Nat.blt a b || (Nat.beq a b && ltb x y))=true
    rcases List.cons_lt_cons_iff.mp h with q | ⟨q,q'⟩
    · rw [Nat.blt_eq.mpr q];rfl
    · subst q
      rw [Nat.beq_refl,lt_ltb q']
      simp
theorem ends_of {w:W}:∀ {r:W},(∀ i,i < r.length→w < r.drop i)→ends w r=true
  | [],_=>rfl
  | a :: r,h=>by
    show (ltb w (a :: r) && ends w r)=true
    have h0:w < a :: r:=h 0 (by simp)
    rw [lt_ltb h0,ends_of fun i hi=>h (i + 1) (by simpa using hi)]
    rfl
noncomputable def plf:W→Bool
  | []=>false
  | a :: r=>ends (a :: r) r
theorem plf_of {w:W} (h:Pl w):plf w=true:=by
  cases w with
  | nil=>exact absurd rfl h.1
  | cons a r=>exact ends_of fun i hi=>h.2 (i + 1) (Nat.succ_pos _) (by simpa using hi)
theorem few:(((List.range 9).flatMap MD.words).filter plf).length=1318:=by decide +kernel
end MP
end
section
namespace MH
noncomputable abbrev W:=List Nat
noncomputable def psL:Nat→Int→Int→Int→Int
  | 0,_,sign,_=>sign
  | k + 1,p,sign,rest=>if rest % p=0 then (if rest / p % p=0 then 0 else psL k (p + 1) (-sign) (rest / p)) else psL k (p + 1) sign rest
noncomputable def ps (n:Nat):Int:=psL (n - 1) 2 1 n
noncomputable def hmS (k n:Nat):Nat→Int
  | 0=>0
  | i + 1=>if n % (i + 1)=0 then hmS k n i + ps (i + 1) * ((k ^ (n / (i + 1)):Nat):Int) else hmS k n i
noncomputable def hm (k n:Nat):Int:=hmS k n n / n
noncomputable def abc:List Nat:=[97,98,99]
end MH
end
section
namespace Wm
variable {α:Type} [DecidableEq α] {op:α→α→α} {ℓ:α→Nat}
theorem mem_put {d:D α} {w:α} {c:Int} {p:α×Int} (h:p∈put d w c):p.1=w∨p.1∈keys d:=by
  have q:p.1∈keys (put d w c):=List.mem_map.mpr ⟨p,h,rfl⟩
  rw [keys_put] at q
  split at q
  · exact .inr q
  · rcases List.mem_append.mp q with z | z
    · exact .inr z
    · exact .inl (by simpa using z)
noncomputable def AllW (R:α→Prop) (d:D α):Prop:=∀ w∈keys d,R w
theorem allW_nil {R:α→Prop}:AllW R ([]:D α):=fun w h=>by simp [keys] at h
theorem allW_put {R:α→Prop} {d:D α} {w:α} {c:Int} (h:AllW R d) (hw:R w):AllW R (put d w c):=fun x hx=>by
  obtain ⟨p,hp,rfl⟩:=List.mem_map.mp hx
  rcases mem_put hp with z | z
  · rw [z];exact hw
  · exact h _ z
theorem allW_filter {R:α→Prop} {d:D α} {f:α×Int→Bool} (h:AllW R d):AllW R (d.filter f):=fun x hx=>by
  obtain ⟨p,hp,rfl⟩:=List.mem_map.mp hx
  exact h _ (List.mem_map.mpr ⟨p,(List.mem_filter.mp hp).1,rfl⟩)
theorem allW_add {R:α→Prop} {d:D α} {w:α} {c:Int} (h:AllW R d) (hw:R w):AllW R (add d w c):=allW_put h hw
theorem allW_perm {R:α→Prop} {d e:D α} (p:d.Perm e) (h:AllW R d):AllW R e:=fun w hw=>h w ((p.map (·.1)).mem_iff.mpr hw)
theorem keep_foldM {β:Type} {step:D α→β→D α} {P:D α→Prop}:∀ (l:List β) (d:D α),(∀ d p,p∈l→P d→P (step d p))→P d→P (l.foldl step d)
  | [],d,_,h=>h
  | p :: l,d,hs,h=>keep_foldM l _ (fun d q hq=>hs d q (List.mem_cons_of_mem _ hq)) (hs d p List.mem_cons_self h)
theorem allW_foldP {R S T:α→Prop} {a b:D α} (ha:AllW R a) (hb:AllW S b) (h1:∀ u v,R u→S v→T (op u v)) (h2:∀ u v,R u→S v→T (op v u)):AllW T (foldP op a b) :=
  keep_foldM (P:=AllW T) a [] (fun d p hp h=>keep_foldM (P:=AllW T) b d (fun d q hq h=>by
    have hp':=ha p.1 (List.mem_map.mpr ⟨p,hp,rfl⟩)
    have hq':=hb q.1 (List.mem_map.mpr ⟨q,hq,rfl⟩)
    exact allW_add (allW_add h (h1 _ _ hp' hq')) (h2 _ _ hp' hq')) h) allW_nil
noncomputable def Br.ok (R:α→Prop):Br α→Prop
  | .leaf x=>R x
  | .node a b=>a.ok R∧b.ok R
theorem wlen_cP (hop:∀ u v,ℓ (op u v)=ℓ u + ℓ v):∀ {b:Br α},b.ok (fun x=>ℓ x=1)→AllW (fun w=>ℓ w=b.wt) (cP op b)
  | .leaf x,h=>fun w hw=>by
    have e:w=x:=by simpa [cP,keys] using hw
    rw [e];exact h
  | .node a b,h=>by
    have h1:=wlen_cP hop (b:=a) h.1
    have h2:=wlen_cP hop (b:=b) h.2
    show AllW (fun w=>ℓ w=a.wt + b.wt) (twP op (cP op a) (cP op b))
    unfold twP
    rw [nz_eq (nd_foldP _ _)]
    refine allW_filter (allW_foldP h1 h2 (fun u v e1 e2=>?_) fun u v e1 e2=>?_)
    · rw [hop,e1,e2]
    · rw [hop,e1,e2];omega
theorem wlen_cL (hop:∀ u v,ℓ (op u v)=ℓ u + ℓ v) {b:Br α} (h:b.ok (fun x=>ℓ x=1)):AllW (fun w=>ℓ w=b.wt) (cL op b):=allW_perm (c_perm b) (wlen_cP hop h)
theorem br_wt_pos (b:Br α):1≤b.wt:=by
  cases b with
  | leaf x=>exact Nat.le_refl _
  | node a b=>have:=br_wt_pos a;have:=br_wt_pos b;show 1≤a.wt + b.wt;omega
end Wm
namespace K01
open PySem PySem.Spec PyProof.Rows Tim L2 Wm
noncomputable abbrev cat:Str→Str→Str:=fun x y=>x++y
theorem len_cat (u v:Str):(cat u v).length=u.length + v.length:=by
  show (u.cps++v.cps).size=u.cps.size + v.cps.size
  simp
noncomputable def dk (d:D Str):List (Key×V):=d.map fun p=>(Sum.inr p.1,V.int p.2)
theorem dk_len (d:D Str):(dk d).length=d.length:=List.length_map _
theorem dk_val (d:D Str) (w:Str):valV (dk d) (Sum.inr w:Key)=(look d w).map V.int:=by
  induction d with
  | nil=>rfl
  | cons p r ih =>
    show valV ((Sum.inr p.1,V.int p.2) :: dk r) _=_
    by_cases e:p.1=w
    · rw [valV_pos (by rw [e]),look_pos e];rfl
    · rw [valV_neg (by intro z;exact e (Sum.inr.inj z)),look_neg e,ih]
theorem dk_any (d:D Str) (w:Str):((dk d).any fun kv=>decide (kv.1=(Sum.inr w:Key)))=d.any fun p=>decide (p.1=w):=by
  induction d with
  | nil=>rfl
  | cons p r ih =>
    show (decide ((Sum.inr p.1:Key)=Sum.inr w) || (dk r).any _)=(decide (p.1=w) || r.any _)
    rw [ih]
    congr 1
    simp
theorem dk_put (d:D Str) (w:Str) (c:Int):putK (dk d) (Sum.inr w:Key) (.int c)=dk (put d w c):=by
  unfold putK put
  rw [dk_any]
  split
  · unfold dk
    rw [List.map_map,List.map_map]
    refine List.map_congr_left fun p _=>?_
    show (if (Sum.inr p.1:Key)=Sum.inr w then _ else _)=_
    by_cases e:p.1=w
    · simp [e]
    · have e2:¬ (Sum.inr p.1:Key)=Sum.inr w:=fun z=>e (Sum.inr.inj z)
      simp [e,e2]
  · unfold dk
    rw [List.map_append]
    rfl
theorem dk_drop (d:D Str) (w:Str):dropK (dk d) (Sum.inr w:Key)=dk (drp d w):=by
  unfold dropK drp dk
  rw [List.filter_map]
  congr 1
  refine List.filter_congr fun p _=>?_
  simp
theorem dk_get {d:D Str} {i:Nat} {k:Key} {v:V} (e:(dk d)[i]? = some (k,v)):∃ p,d[i]? = some p∧k=Sum.inr p.1∧v = .int p.2:=by
  unfold dk at e
  rw [List.getElem?_map] at e
  cases q:d[i]? with
  | none=>rw [q] at e;cases e
  | some p=>rw [q] at e;cases e;exact ⟨p,rfl,rfl,rfl⟩
theorem dk_keys (d:D Str):(dk d).map (fun p=>kV p.1)=(keys d).map V.str:=by
  unfold dk keys
  rw [List.map_map,List.map_map]
  rfl
noncomputable def SX (x:Addr) (H H':Hp):Prop:=∀ b o,b≠x→H b=some o→H' b=some o
theorem sx_upd {H:Hp} {x:Addr} {o:HO}:SX x H (upd H x o):=fun b u n e=>by rw [upd_ne n];exact e
theorem _root_.L2.Same.sx {H H':Hp} {x:Addr} (h:Same H H'):SX x H H':=fun b o _ e=>h b o e
theorem SX.trans {H H1 H2:Hp} {x:Addr} (a:SX x H H1) (b:SX x H1 H2):SX x H H2:=fun c o n e=>b c o n (a c o n e)
theorem SX.same {H H1 H2:Hp} {x:Addr} (a:Same H H1) (hx:H x=none) (b:SX x H1 H2):Same H H2:=fun c o e=>b c o (ne_of_none e hx) (a c o e)
theorem new_same {H:Hp} {p:Addr} (h:H p=none) (o:HO):Same H (upd H p o):=fun b u q=>by rw [upd_ne (ne_of_none q h)];exact q
theorem upd_same2 {H H':Hp} {x:Addr} {o:HO} (a:Same H H') (hx:H x=none):Same H (upd H' x o):=fun b u e=>by rw [upd_ne (ne_of_none e hx)];exact a b u e
noncomputable def Abc (x:Str):Prop:=∀ c∈x.cps.toList,c=97∨c=98∨c=99
noncomputable def BrV (H:Hp):Br Str→V→Prop
  | .leaf x,v=>v = .str x∧x.length=1∧Abc x
  | .node a b,v=>∃ p u w,v = .ref p∧H p=some (.tup [u,w])∧BrV H a u∧BrV H b w
theorem BrV.same {H H':Hp} (s:Same H H'):∀ {b:Br Str} {v:V},BrV H b v→BrV H' b v
  | .leaf x,v,h=>h
  | .node a b,v,⟨p,u,w,e,h,h1,h2⟩=>⟨p,u,w,e,s _ _ h,h1.same s,h2.same s⟩
theorem BrV.ok {H:Hp}:∀ {b:Br Str} {v:V},BrV H b v→b.ok (fun x=>x.length=1)
  | .leaf x,v,h=>h.2.1
  | .node a b,v,⟨p,u,w,e,h,h1,h2⟩=>⟨h1.ok,h2.ok⟩
end K01
end
section
namespace K01
open PySem PySem.Spec PyProof.Rows Tim L2 Wm
noncomputable def top (i:Nat):Stmt:=PySem.Challenge.pw_twistbrackets_k06_whole_plain_sums.main.body.getD i (.Pass ⟨0,0,0,0⟩)
end K01
end
section
namespace K01
open PySem PySem.Spec PyProof.Rows Tim L2 Wm
structure Blt (mg:Str→Option Value):Prop where
  isi:mg "isinstance" = none
  str:mg "str" = none
  len:mg "len" = none
  lst:mg "list" = none
  tup:mg "tuple" = none
  int:mg "int" = none
  bool:mg "bool" = none
  srt:mg "sorted" = none
  rng:mg "range" = none
  zip:mg "zip" = none
  all:mg "all" = none
  min:mg "min" = none
  max:mg "max" = none
  dict:mg "dict" = none
  abs:mg "abs" = none
  sum:mg "sum" = none
  set:mg "set" = none
  enm:mg "enumerate" = none
  rev:mg "reversed" = none
  ve:mg "ValueError" = none
theorem bt_str:bootBuiltins "str" = some (.type "str"):=by decide +kernel
theorem bt_int:bootBuiltins "int" = some (.type "int"):=by decide +kernel
theorem bt_bool:bootBuiltins "bool" = some (.type "bool"):=by decide +kernel
theorem bt_list:bootBuiltins "list" = some (.type "list"):=by decide +kernel
theorem bt_sorted:bootBuiltins "sorted" = some (.builtin "sorted"):=by decide +kernel
structure At (K:PySem.W.Frag) (mg:Str→Option Value) (x:Str) (st:Stmt) (ps:List Str) (f:Addr) (fd:FuncData):Prop where
  fn:Fun K x x st f fd
  b:Binds K fd ps []
  m:mg x=some (.ref f)
theorem At.k {K:PySem.W.Frag} {mg:Str→Option Value} {x:Str} {st:Stmt} {ps:List Str} {f:Addr} {fd:FuncData} (a:At K mg x st ps f fd):PySem.W.keepIn K (.ref f)=true:=a.fn.kp
section
variable {P:Program} {w:World} {K:PySem.W.Frag} {mg:Str→Option Value} {base:Heap} {f:Addr} {fd:FuncData}
theorem fn_zero {k:Nat} {ps:List Str} {sp:Sp} (no:∀ vs H Q E,¬ sp vs H Q E):FnOk P w K mg base CX0 k f fd ps sp :=
  ⟨fun vs H Q E h=>absurd h (no vs H Q E),fun A outer s H args us vs Q E _ _ _ _ h=>absurd h (no vs H Q E)⟩
end
end K01
end
section
namespace K01
open PySem PySem.Spec PyProof.Rows Tim L2 Wm
section
variable {P:Program} {w:World} {K:PySem.W.Frag} {mg:Str→Option Value} {base:Heap} {f:Addr} {fd:FuncData}
noncomputable def spAdd (g:D Str→Str→Int→D Str):Sp:=fun vs H Q _=>∃ (d:Addr) (w:Str) (c:Int) (x:D Str),vs=[.ref d,.str w,.int c]∧H d=some (.dK (dk x))∧x.length < sizeLine∧Q .non (upd H d (.dK (dk (g x w c))))
end
end K01
end
section
namespace K01
open PySem PySem.Spec PyProof.Rows Tim L2 Wm
section
variable {P:Program} {w:World} {K:PySem.W.Frag} {mg:Str→Option Value} {base:Heap} {f:Addr} {fd:FuncData}
theorem scAdd:FnScope ["counts","word","count"] ["counts","word","count"] (defScope (top 6)):=⟨rfl,rfl,rfl,by decide +kernel,rfl,by decide +kernel,by decide +kernel⟩
theorem ok_add (F:Fun K "add_count" "add_count" (top 6) f fd):FnOk P w K mg base CX0 1 f fd ["counts","word","count"] (spAdd add):=by
  refine F.ok scAdd (fun vs H Q E h=>?_) (fun cdv A outer s H vs Q E hr h=>?_)
  · obtain ⟨d,w,c,x,rfl,_⟩:=h
    rfl
  obtain ⟨d,w,c,x,rfl,hd,hz,q⟩:=h
  refine ⟨_,pss_one (ps_dput (hu_of hr) (pv 0) (pv 1) (pe_op op_add (pe_dget2 (hu_of hr) (pv 0) (pv 1) pe_int ⟨rfl,rfl,rfl,rfl⟩) (pv 2)) rfl),?_⟩
  refine ⟨_,rfl,d,rfl,.inl ⟨_,.inl hd⟩,_,rfl,_,DGet.k (k:=Sum.inr w) hd,_,rfl,val x w,c,?_,rfl,_,rfl,_,rfl,d,_,rfl,DPut.k (k:=Sum.inr w) hd (by rw [dk_len];exact hz),?_⟩
  · rw [dk_val];unfold val;cases look x w <;> rfl
  · rw [dk_put];exact q
theorem scLF:FnScope ["word"] ["word"] (defScope (top 1)):=⟨rfl,rfl,rfl,by decide +kernel,rfl,by decide +kernel,by decide +kernel⟩
theorem ok_lf (F:Fun K "length_first" "length_first" (top 1) f fd) (ml:mg "len" = none):FnOk P w K mg base CX0 1 f fd ["word"] spLF:=by
  refine F.ok scLF (fun vs H Q E h=>?_) (fun cdv A outer s H vs Q E hr h=>?_)
  · obtain ⟨x,rfl,_⟩:=h
    rfl
  obtain ⟨x,rfl,hx,q⟩:=h
  refine ⟨_,pss_one (ps_ret (pe_tup (pa_cons (pe_callB call_len_str rfl ml PySem.boot_len (pa_cons (pv 0) pa_nil)) (pa_cons (pv 0) pa_nil)))),?_⟩
  exact ⟨_,rfl,x,rfl,hx,_,rfl,(by show 2≤sizeLine;decide),q⟩
noncomputable def spNz:Sp:=fun vs H Q _=>∃ (d:Addr) (x:D Str),vs=[.ref d]∧H d=some (.dK (dk x))∧x.length < sizeLine∧∀ r H',H r=none→SX d H H'→H' r=some (.dK (dk (nz x)))→Q (.ref r) H'
theorem scNz:FnScope ["counts","kept","word","count"] ["counts"] (defScope (top 7)):=⟨rfl,rfl,rfl,by decide +kernel,rfl,by decide +kernel,by decide +kernel⟩
noncomputable def nzS (x:D Str) (i:Nat):D Str:=(x.take i).foldl (fun k p=>if p.2≠0 then put k p.1 p.2 else k) []
theorem nzS_succ {x:D Str} {i:Nat} {p:Str×Int} (e:x[i]? = some p):nzS x (i + 1)=if p.2≠0 then put (nzS x i) p.1 p.2 else nzS x i:=by
  unfold nzS
  rw [List.take_add_one,e,List.foldl_append]
  rfl
theorem nzS_len (x:D Str) (i:Nat):(nzS x i).length≤i:=by
  unfold nzS
  have:=len_fold (step:=fun k p=>if p.2≠0 then put k p.1 p.2 else k) (k:=1) (fun (d:D Str) (p:Str×Int)=>by
    show (if p.2≠0 then put d p.1 p.2 else d).length≤d.length + 1
    split
    · exact len_put _ _ _
    · exact Nat.le_succ _) (x.take i) []
  have h2:=List.length_take_le i x
  rw [List.length_nil,Nat.mul_one,Nat.zero_add] at this
  exact Nat.le_trans this h2
theorem ok_nz (F:Fun K "without_noughts" "without_noughts" (top 7) f fd):FnOk P w K mg base CX0 1 f fd ["counts"] spNz:=by
  refine F.ok scNz (fun vs H Q E h=>?_) (fun cdv A outer s H vs Q E hr h=>?_)
  · obtain ⟨d,x,rfl,_⟩:=h
    rfl
  obtain ⟨d,x,rfl,hd,hz,q⟩:=h
  refine ⟨_,pss_cons (ps_set (i:=1) scNz.nd rfl (Or.inl rfl) pe_dnewK)
    (pss_cons (ps_for PassesOwn.never rfl (pi_items (pv 0)) (pg_tup rfl (pgs_cons (pg_name (i:=2) scNz.nd rfl (Or.inl rfl)) (pgs_cons (pg_name (i:=3) scNz.nd rfl (Or.inl rfl)) pgs_nil)))
      (pss_one (ps_if (pt_cmpR op_ne (pv 3) pe_int (nomark _)) (pss_one (ps_dput (hu_of hr) (pv 1) (pv 2) (pv 3) rfl)) pss_nil)))
    (pss_one (ps_ret (pv 1)))),?_⟩
  intro r hr0
  have ndr:d≠r:=ne_of_none hd hr0
  refine ⟨_,rfl,d,_,rfl,.inl ⟨by rw [upd_ne ndr];exact hd,fun o=>?_⟩⟩
  refine for_items (d:=d) (o:=o) (kvs:=dk x) (fun i σ H2=>∃ u v,σ=[some (.ref d),some (.ref r),u,v]∧SX d H H2∧H2 d=some (.frz o (.dK (dk x)))∧H2 r=some (.dK (dk (nzS x i)))) ?_ ?_ ?_ ?_
  · refine ⟨none,none,rfl,?_,upd_same,?_⟩
    · exact (new_same hr0 _).sx.trans sx_upd
    · rw [upd_ne ndr.symm,upd_same];rfl
  · rintro i σ H2 _ ⟨u,v,rfl,s1,h1,h2⟩
    exact h1
  · rintro i k v a σ H2 hi hn ⟨u0,v0,rfl,s1,h1,h2⟩
    obtain ⟨p,hp,rfl,rfl⟩:=dk_get hi
    have hil:i < x.length:=(List.getElem?_eq_some_iff.mp hp).1
    refine ⟨a,_,rfl,.inl (.inl upd_same),rfl,_,_,rfl,_,_,rfl,rfl,?_⟩
    have nad:d≠a:=ne_of_none h1 hn
    have nar:r≠a:=ne_of_none h2 hn
    have s2:SX d H (upd H2 a (.tup [kV (Sum.inr p.1),.int p.2])):=s1.trans (new_same hn _).sx
    refine ⟨_,rfl,rfl,_,rfl,?_⟩
    refine ite2 (fun e=>?_) (fun e=>?_)
    · have e:p.2≠0:=fun z=>by
        rw [z] at e;exact absurd e (by decide)
      refine ⟨_,rfl,_,rfl,_,rfl,r,_,rfl,DPut.k (k:=Sum.inr p.1) (kvs:=dk (nzS x i)) (by rw [upd_ne nar];exact h2) (by rw [dk_len];have:=nzS_len x i;omega),?_⟩
      refine ⟨_,_,rfl,fun b u n e=>?_,?_,?_⟩
      · rw [upd_ne (ne_of_none e hr0)];exact s2 b u n e
      · rw [upd_ne ndr,upd_ne nad];exact h1
      · rw [upd_same,dk_put,nzS_succ hp,if_pos e]
    · have e:¬ p.2≠0:=fun z=>e (by
        show (!decide (V.int p.2=V.int 0))=true
        rw [decide_eq_false (fun q=>z (V.int.inj q))];rfl)
      refine ⟨_,_,rfl,s2,?_,?_⟩
      · rw [upd_ne nad];exact h1
      · rw [upd_ne nar,h2,nzS_succ hp,if_neg e]
  · rintro σ H2 ⟨u,v,rfl,s1,h1,h2⟩
    refine ⟨_,rfl,q r H2 hr0 s1 ?_⟩
    rw [h2,dk_len]
    unfold nzS nz
    rw [List.take_length]
end
end K01
end
section
namespace K01
open PySem PySem.Spec PyProof.Rows Tim L2 Wm
section
variable {P:Program} {w:World} {K:PySem.W.Frag} {mg:Str→Option Value} {base:Heap} {f:Addr} {fd:FuncData}
theorem scPut:FnScope ["counts","word","count"] ["counts","word","count"] (defScope (top 32)):=⟨rfl,rfl,rfl,by decide +kernel,rfl,by decide +kernel,by decide +kernel⟩
theorem ok_put (F:Fun K "_law_put" "_law_put" (top 32) f fd):FnOk P w K mg base CX0 1 f fd ["counts","word","count"] (spAdd lput):=by
  refine F.ok scPut (fun vs H Q E h=>?_) (fun cdv A outer s H vs Q E hr h=>?_)
  · obtain ⟨d,w,c,x,rfl,_⟩:=h
    rfl
  obtain ⟨d,w,c,x,rfl,hd,hz,q⟩:=h
  refine ⟨_,pss_cons (ps_dput (hu_of hr) (pv 0) (pv 1) (pe_op op_add (pe_dget2 (hu_of hr) (pv 0) (pv 1) pe_int ⟨rfl,rfl,rfl,rfl⟩) (pv 2)) rfl)
    (pss_one (ps_if (pt_cmpR op_eq (pe_dget (hu_of hr) (pv 0) (pv 1) (fun _ _=>rfl)) pe_int (nomark _)) (pss_one (ps_expr (pe_dpop1 (pv 0) (pv 1) ⟨rfl,rfl,rfl,rfl⟩))) pss_nil)),?_⟩
  refine ⟨_,rfl,d,rfl,.inl ⟨_,.inl hd⟩,_,rfl,_,DGet.k (k:=Sum.inr w) hd,_,rfl,val x w,c,?_,rfl,_,rfl,_,rfl,d,_,rfl,DPut.k (k:=Sum.inr w) hd (by rw [dk_len];exact hz),?_⟩
  · rw [dk_val];unfold val;cases look x w <;> rfl
  have lk:look (put x w (val x w + c)) w=some (val x w + c):=by rw [look_put,if_pos rfl]
  have vl:val (put x w (val x w + c)) w=val x w + c:=by rw [val_put,if_pos rfl]
  have hv:valV (dk (put x w (val x w + c))) (Sum.inr w:Key)=some (.int (val x w + c)):=by rw [dk_val,lk];rfl
  rw [dk_put]
  refine ⟨_,rfl,_,rfl,d,.int (val x w + c),rfl,?_,rfl,_,rfl,?_⟩
  · have:=DGet.k (k:=Sum.inr w) (H:=upd H d (.dK (dk (put x w (val x w + c))))) (a:=d) upd_same
    rw [hv] at this;exact this
  refine ite2 (fun e=>?_) (fun e=>?_)
  · have e:val x w + c=0:=by
      have e:=of_decide_eq_true e
      exact V.int.inj e
    refine ⟨_,rfl,d,rfl,.inl ⟨_,.inl upd_same⟩,_,rfl,_,Sum.inr w,_,upd_same,rfl,hv,?_⟩
    rw [dk_drop,upd_upd]
    unfold lput at q
    rw [if_pos (by rw [vl];exact e)] at q
    exact q
  · have e:¬ val x w + c=0:=by
      intro z
      exact e (by rw [z];rfl)
    unfold lput at q
    rw [if_neg (by rw [vl];exact e)] at q
    exact q
end
end K01
end
section
namespace K01
open PySem PySem.Spec PyProof.Rows Tim L2 Wm
section
variable {P:Program} {w:World} {K:PySem.W.Frag} {mg:Str→Option Value} {base:Heap} {f fp ft fa fn fb fl:Addr} {fd pd td ad nd bd ld:FuncData}
noncomputable def spWh:Sp:=fun vs H Q _=>∃ i:Int,vs=[.int i]∧Q (.bl true) H
theorem scWh:FnScope ["found"] ["found"] (defScope (top 25)):=⟨rfl,rfl,rfl,by decide +kernel,rfl,by decide +kernel,by decide +kernel⟩
theorem ok_wh (T:Blt mg) (F:At K mg "_law_whole" (top 25) ["found"] f fd):FnOk P w K mg base CX0 1 f fd ["found"] spWh:=by
  refine F.fn.ok scWh (fun vs H Q E h=>?_) (fun cdv A outer s H vs Q E hr h=>?_)
  · obtain ⟨i,rfl,_⟩:=h
    rfl
  obtain ⟨i,rfl,q⟩:=h
  refine ⟨_,pss_one (ps_ret (pe_and (pe_callB call_isi rfl T.isi boot_isi (pa_cons (pv 0) (pa_cons (pe_ty rfl T.int bt_int) pa_nil))) (pe_one (pe_not (pe_callB call_isi rfl T.isi boot_isi (pa_cons (pv 0) (pa_cons (pe_ty rfl T.bool bt_bool) pa_nil))))))),?_⟩
  exact ⟨_,rfl,_,_,_,rfl,.ii i,_,rfl,iteT ⟨_,rfl,_,_,_,rfl,.ib i,_,rfl,q⟩⟩
end
end K01
end
section
namespace K01
open PySem PySem.Spec PyProof.Rows Tim L2 Wm
theorem wlt_asymm {x y:Str} (h:Wlt x y) (g:Wlt y x):x=y:=by
  rcases h with h | ⟨h1,h2⟩
  · rcases g with g | ⟨g1,g2⟩ <;> omega
  · rcases g with g | ⟨g1,g2⟩
    · omega
    · exact absurd (List.lt_trans h2 g2) (List.lt_irrefl _)
theorem wlt_eq {a b:List Str} (p:a.Perm b) (ha:a.Pairwise Wlt) (hb:b.Pairwise Wlt):a=b:=List.Perm.eq_of_pairwise (fun _ _ _ _=>wlt_asymm) ha hb p
section
variable {P:Program} {w:World} {K:PySem.W.Frag} {mg:Str→Option Value} {base:Heap} {f fp ft fa fn fb fl:Addr} {fd pd td ad nd bd ld:FuncData}
noncomputable def spOrd (K:PySem.W.Frag):Sp:=fun vs H Q _=>∃ (l:Addr) (ss:List Str),vs=[.ref l]∧SqL K H l (ss.map V.str)∧ss.Nodup∧(∀ y∈ss,y.length≤sizeLine) ∧
  ∀ a H' ss',H a=none→Same H H'→List.Perm ss' ss→ss'.Pairwise Wlt→H' a=some (.lst (ss'.map V.str))→Q (.ref a) H'
theorem scOr:FnScope ["words"] ["words"] (defScope (top 36)):=⟨rfl,rfl,rfl,by decide +kernel,rfl,by decide +kernel,by decide +kernel⟩
theorem ok_or (T:Blt mg) (F:At K mg "_law_order" (top 36) ["words"] f fd):FnOk P w K mg base CX0 1 f fd ["words"] (spOrd K):=by
  refine F.fn.ok scOr (fun vs H Q E h=>?_) (fun cdv A outer s H vs Q E hr h=>?_)
  · obtain ⟨l,ss,rfl,_⟩:=h
    rfl
  obtain ⟨l,ss,rfl,hl,hn,hz,q⟩:=h
  refine ⟨_,pss_one (ps_ret (pe_sortLen rfl T.srt rfl T.len (pa_cons (pe_callB (call_sorted rfl) rfl T.srt bt_sorted (pa_cons (pv 0) pa_nil)) pa_nil))),?_⟩
  refine ⟨_,rfl,l,ss,rfl,hl,hn,fun a ss1 na p1 w1=>?_⟩
  refine ⟨a,ss1,rfl,.inl (.inl upd_same),w1,fun y hy=>hz y (p1.mem_iff.mp hy),fun b ss2 nb p2 w2=>?_⟩
  have s1:=new_same na (.lst (ss1.map V.str))
  exact q b _ ss2 (s1.free nb) (s1.trans (new_same nb _)) (p2.trans p1) w2 upd_same
end
end K01
end
section
namespace K01
open PySem PySem.Spec PyProof.Rows Tim L2 Wm
theorem mod_lt {i j:Int} (h:0 < j):0≤i % j∧i % j < j:=⟨Int.emod_nonneg _ (by omega),Int.emod_lt_of_pos _ h⟩
theorem p64:(2:Int) ^ 64=18446744073709551616:=by decide
theorem cmul_r {i j:Int} (h0:0≤j) (h:j < 18446744073709551616):CMul i j:=by
  have:=p64
  exact .inr ⟨by omega,by omega⟩
theorem cmul_l {i j:Int} (h0:0≤i) (h:i < 18446744073709551616):CMul i j:=(cmul_r (i:=j) h0 h).symm
theorem abc_at {i:Int} (h0:0≤i) (h:i < 3):∃ c,(Str.ofString "abc").cps[i.toNat]? = some c∧(c=97∨c=98∨c=99):=by
  have e:i.toNat=0∨i.toNat=1∨i.toNat=2:=by omega
  rcases e with e | e | e
  · rw [e];exact ⟨97,by decide +kernel,.inl rfl⟩
  · rw [e];exact ⟨98,by decide +kernel,.inr (.inl rfl)⟩
  · rw [e];exact ⟨99,by decide +kernel,.inr (.inr rfl)⟩
theorem abc_one {c:Nat} (h:c=97∨c=98∨c=99):Abc ⟨#[c]⟩:=fun x hx=>by
  have:x=c:=by simpa using hx
  rw [this];exact h
theorem abc_len:(Str.ofString "abc").length=3:=by decide +kernel
theorem p62:(2:Int) ^ 62=4611686018427387904:=by decide
theorem p63:(2:Int) ^ 63=9223372036854775808:=by decide
section
variable {P:Program} {w:World} {K:PySem.W.Frag} {mg:Str→Option Value} {base:Heap} {f fs fr fb fm fd' fc:Addr} {fd sd rd bd md dd cd:FuncData}
noncomputable def spStir:Sp:=fun vs H Q _=>∃ c:Int,vs=[.int c]∧∀ (i:Int) H',Same H H'→Q (.int i) H'
theorem scStir:FnScope ["cell","found","factor","mixed"] ["cell"] (defScope (top 23)):=⟨rfl,rfl,rfl,by decide +kernel,rfl,by decide +kernel,by decide +kernel⟩
theorem ok_stir (F:At K mg "_law_stir" (top 23) ["cell"] f fd):FnOk P w K mg base CX0 1 f fd ["cell"] spStir:=by
  refine F.fn.ok scStir (fun vs H Q E h=>?_) (fun cdv A outer s H vs Q E hr h=>?_)
  · obtain ⟨c,rfl,_⟩:=h
    rfl
  obtain ⟨c,rfl,q⟩:=h
  refine ⟨_,pss_cons (ps_set (i:=1) scStir.nd rfl (Or.inl rfl) pe_int)
    (pss_cons (ps_for PassesOwn.never rfl (pi_list (pe_lst (pa_cons pe_int (pa_cons pe_int (pa_cons pe_int (pa_cons pe_int pa_nil)))))) (pg_name (i:=2) scStir.nd rfl (Or.inl rfl))
      (pss_cons (ps_set (i:=3) scStir.nd rfl (Or.inl rfl) (pe_op op_mod (pe_op op_add (pe_op op_mul (pv 0) (pv 2)) pe_int) pe_int))
      (pss_cons (ps_set (i:=3) scStir.nd rfl (Or.inl rfl) (pe_op op_mod (pe_op op_mul (pe_op op_mod (pe_op op_mul (pv 3) (pv 3)) pe_int) pe_int) pe_int))
      (pss_one (ps_set (i:=1) scStir.nd rfl (Or.inl rfl) (pe_op op_add (pe_op op_mul (pv 1) (pe_op op_pow pe_int pe_int)) (pe_op op_fdiv (pv 3) pe_int)))))))
    (pss_one (ps_ret (pv 1)))),?_⟩
  refine ⟨by show 4≤sizeLine;decide,fun p np=>?_⟩
  refine ⟨p,rfl,⟨_,.inl (.inl upd_same)⟩,for_list (K:=K) (a:=p) (xs:=[.int 48271,.int 69621,.int 39373,.int 44488]) (fun i σ Hx=>∃ (g:Int) (x2 x3:Option V),σ=[some (.int c),some (.int g),x2,x3]∧Hx=upd H p (.lst [.int 48271,.int 69621,.int 39373,.int 44488])) ⟨0,none,none,rfl,rfl⟩ ?_ ?_ ?_⟩
  · rintro i σ Hx _ ⟨g,x2,x3,rfl,rfl⟩
    exact .inl (.inl upd_same)
  · rintro i v σ Hx hi ⟨g,x2,x3,rfl,rfl⟩
    obtain ⟨z,rfl,z0,z1⟩:∃ z:Int,v = .int z∧0≤z∧z < 100000:=by
      match i,hi with
      | 0,hi=>cases hi;exact ⟨_,rfl,by decide,by decide⟩
      | 1,hi=>cases hi;exact ⟨_,rfl,by decide,by decide⟩
      | 2,hi=>cases hi;exact ⟨_,rfl,by decide,by decide⟩
      | 3,hi=>cases hi;exact ⟨_,rfl,by decide,by decide⟩
      | n + 4,hi=>cases hi
    have m1:=mod_lt (i:=c * z + 7919) (j:=2147483647) (by decide)
    refine ⟨_,rfl,_,rfl,_,_,rfl,rfl,cmul_r z0 (by omega),_,_,rfl,rfl,_,_,rfl,rfl,(by show (0:Int) < _;decide),?_⟩
    refine ⟨_,rfl,_,rfl,_,_,rfl,rfl,cmul_r m1.1 (by omega),_,_,rfl,rfl,(by show (0:Int) < _;decide),_,_,rfl,rfl,cmul_r (by decide) (by decide),_,_,rfl,rfl,(by show (0:Int) < _;decide),?_⟩
    refine ⟨_,rfl,_,_,rfl,rfl,⟨by decide,by decide,by decide⟩,_,_,rfl,rfl,cmul_r (by decide) (by decide),_,rfl,_,_,rfl,rfl,⟨by decide,by decide⟩,_,_,rfl,rfl,?_⟩
    exact ⟨_,_,_,rfl,rfl⟩
  · rintro σ Hx ⟨g,x2,x3,rfl,rfl⟩
    exact ⟨_,rfl,q g _ (new_same np _)⟩
theorem at_script {ns:List Int} {k:Int} (h0:0≤k) (h:k < (ns.length:Int)):∃ v:Int,atI (ns.map V.int) k=some (.int v):=by
  have hk:k.toNat < ns.length:=by omega
  have ek:k=((k.toNat:Nat):Int):=by omega
  refine ⟨ns[k.toNat],?_⟩
  have q:atI (ns.map V.int) ((k.toNat:Nat):Int)=some (.int ns[k.toNat]):=atI_nat (by rw [List.getElem?_map,List.getElem?_eq_getElem hk] <;> rfl)
  rw [← ek] at q
  exact q
noncomputable def spCell (K:PySem.W.Frag):Sp:=fun vs H Q _=>∃ (a:Addr) (ns:List Int) (k:Int),vs=[.ref a,.int k]∧SqL K H a (ns.map V.int)∧0≤k∧∀ (i:Int) H',Same H H'→Q (.int i) H'
theorem scCell:FnScope ["script","k"] ["script","k"] (defScope (top 24)):=⟨rfl,rfl,rfl,by decide +kernel,rfl,by decide +kernel,by decide +kernel⟩
theorem ok_cell (T:Blt mg) (F:At K mg "_law_cell" (top 24) ["script","k"] f fd) (FS:At K mg "_law_stir" (top 23) ["cell"] fs sd):FnOk P w K mg base CX0 2 f fd ["script","k"] (spCell K):=by
  have GS:FnOk P w K mg base CX0 1 fs sd ["cell"] spStir:=ok_stir FS
  refine F.fn.ok scCell (fun vs H Q E h=>?_) (fun cdv A outer s H vs Q E hr h=>?_)
  · obtain ⟨a,ns,k,rfl,_⟩:=h
    rfl
  obtain ⟨a,ns,k,rfl,hS,h0,q⟩:=h
  refine ⟨_,pss_cons (ps_if (pt_cmpR op_lt (pv 1) (pe_callB call_len_seq rfl T.len PySem.boot_len (pa_cons (pv 0) pa_nil)) (nomark _)) (pss_one (ps_ret (pe_call GS hr rfl FS.m FS.k FS.b .nil pass0 (pa_cons (pe_ix ix_list (pv 0) (pv 1) (fun _ _=>rfl)) pa_nil)))) pss_nil)
    (pss_one (ps_ret (pe_call GS hr rfl FS.m FS.k FS.b .nil pass0 (pa_cons pe_int pa_nil)))),?_⟩
  refine ⟨_,rfl,_,rfl,a,_,rfl,.inl hS,_,_,rfl,rfl,_,rfl,?_⟩
  refine ite2 (fun c=>?_) (fun c=>?_)
  · have c:k < (((ns.map V.int).length:Nat):Int):=of_decide_eq_true c
    rw [List.length_map] at c
    obtain ⟨v,hv⟩:=at_script h0 c
    exact ⟨_,rfl,_,rfl,a,_,_,_,rfl,rfl,hS,hv,_,rfl,q⟩
  · exact ⟨_,rfl,q⟩
noncomputable def spRaw (K:PySem.W.Frag):Sp:=fun vs H Q _=>∃ (a:Addr) (ns:List Int) (k:Int),vs=[.ref a,.int k]∧SqL K H a (ns.map V.int)∧0≤k∧∀ i:Int,Q (.int i) H
theorem scRaw:FnScope ["script","k"] ["script","k"] (defScope (top 27)):=⟨rfl,rfl,rfl,by decide +kernel,rfl,by decide +kernel,by decide +kernel⟩
theorem ok_raw (T:Blt mg) (F:At K mg "_law_raw" (top 27) ["script","k"] f fd):FnOk P w K mg base CX0 1 f fd ["script","k"] (spRaw K):=by
  refine F.fn.ok scRaw (fun vs H Q E h=>?_) (fun cdv A outer s H vs Q E hr h=>?_)
  · obtain ⟨a,ns,k,rfl,_⟩:=h
    rfl
  obtain ⟨a,ns,k,rfl,hS,h0,q⟩:=h
  refine ⟨_,pss_cons (ps_if (pt_cmpR op_lt (pv 1) (pe_callB call_len_seq rfl T.len PySem.boot_len (pa_cons (pv 0) pa_nil)) (nomark _)) (pss_one (ps_ret (pe_ix ix_list (pv 0) (pv 1) (fun _ _=>rfl)))) pss_nil) (pss_one (ps_ret pe_int)),?_⟩
  refine ⟨_,rfl,_,rfl,a,_,rfl,.inl hS,_,_,rfl,rfl,_,rfl,?_⟩
  refine ite2 (fun c=>?_) (fun c=>?_)
  · have c:k < (((ns.map V.int).length:Nat):Int):=of_decide_eq_true c
    rw [List.length_map] at c
    obtain ⟨v,hv⟩:=at_script h0 c
    exact ⟨_,rfl,_,rfl,a,_,_,_,rfl,rfl,hS,hv,q v⟩
  · exact q 0
end
end K01
end
section
namespace K01
open PySem PySem.Spec PyProof.Rows Tim L2 Wm
theorem pow_le {a b:Nat} (h:a≤b):2 ^ a≤2 ^ b:=Nat.pow_le_pow_right (by decide) h
noncomputable def inP (b:D Str) (p:Str×Int) (d:D Str) (j:Nat):D Str:=(b.take j).foldl (stepP cat p) d
noncomputable def outP (a b:D Str) (i:Nat):D Str:=(a.take i).foldl (fun d p=>b.foldl (stepP cat p) d) []
theorem inP_succ {b:D Str} {p q:Str×Int} {d:D Str} {j:Nat} (e:b[j]? = some q):inP b p d (j + 1)=stepP cat p (inP b p d j) q:=by
  unfold inP;rw [List.take_add_one,e,List.foldl_append];rfl
theorem outP_succ {a b:D Str} {p:Str×Int} {i:Nat} (e:a[i]? = some p):outP a b (i + 1)=inP b p (outP a b i) b.length:=by
  unfold outP inP;rw [List.take_add_one,e,List.foldl_append,List.take_length];rfl
theorem outP_all (a b:D Str):outP a b a.length=foldP cat a b:=by unfold outP foldP;rw [List.take_length]
theorem inP_len (b:D Str) (p:Str×Int) (d:D Str) (j:Nat):(inP b p d j).length≤d.length + j * 2:=by
  have h:=len_fold (step:=stepP cat p) (k:=2) (fun d q=>len_stepP p q d) (b.take j) d
  have h2:=List.length_take_le j b
  unfold inP
  omega
theorem outP_len (a b:D Str) (i:Nat):(outP a b i).length≤i * (b.length * 2):=by
  have h:=len_fold (step:=fun d p=>b.foldl (stepP cat p) d) (k:=b.length * 2) (fun d p=>len_fold (fun d q=>len_stepP p q d) b d) (a.take i) []
  have h2:=List.length_take_le i a
  unfold outP
  rw [List.length_nil,Nat.zero_add] at h
  exact Nat.le_trans h (Nat.mul_le_mul_right _ h2)
theorem fill_lt {i j la lb:Nat} (hi:i < la) (hj:j < lb):i * (lb * 2) + j * 2 + 1 < la * (lb * 2):=by
  have h:(i + 1) * (lb * 2)≤la * (lb * 2):=Nat.mul_le_mul_right _ hi
  rw [Nat.add_mul] at h
  omega
theorem two_len {x y:Br Str} {a b:D Str} (ha:a.length≤2 ^ (x.wt - 1)) (hb:b.length≤2 ^ (y.wt - 1)) (h:x.wt + y.wt≤12):a.length * (b.length * 2)≤2048:=by
  have p1:=br_wt_pos x
  have p2:=br_wt_pos y
  have h1:a.length * (b.length * 2)≤2 ^ (x.wt - 1) * (2 ^ (y.wt - 1) * 2):=Nat.mul_le_mul ha (Nat.mul_le_mul_right _ hb)
  have h2:2 ^ (x.wt - 1) * (2 ^ (y.wt - 1) * 2)=2 ^ (x.wt - 1 + (y.wt - 1 + 1)):=by rw [Nat.pow_add,Nat.pow_add]
  have h3:2 ^ (x.wt - 1 + (y.wt - 1 + 1))≤2 ^ 11:=pow_le (by omega)
  omega
theorem mul_ok {x:Br Str} {c e:Int} (h:c.natAbs≤2 ^ (x.wt - 1)) (hx:x.wt≤12):CMul c e:=by
  have h3:2 ^ (x.wt - 1)≤2 ^ 11:=pow_le (by omega)
  refine .inl ⟨?_,?_⟩ <;> omega
theorem mul_ok2 {x:Br Str} {c e:Int} (h:c.natAbs≤2 ^ (x.wt - 1)) (hx:x.wt≤12):CMul e c:=(mul_ok (e:=e) h hx).symm
theorem fz_one' {J:Addr→Obj→List (Key×V)→It} {R:It→Hp→Prop} {H:Hp} {d:Addr} {kvs:List (Key×V)} (rd:Rd H d (.dK kvs)) (h:∀ o H',H' d=some (.frz o (.dK kvs))→(∀ b,b≠d→H' b=H b)→(∀ u,H d=some (.frz u (.dK kvs))→H'=H)→R (J d o kvs) H') :
    (H d=some (.dK kvs)∧∀ o,R (J d o kvs) (upd H d (.frz o (.dK kvs))))∨∃ o,H d=some (.frz o (.dK kvs))∧R (J d o kvs) H:=by
  rcases rd with e | ⟨o,e⟩
  · exact .inl ⟨e,fun o=>h o _ upd_same (fun b n=>upd_ne n) fun u q=>by rw [e] at q;cases q⟩
  · exact .inr ⟨o,e,h o H e (fun _ _=>rfl) fun _ _=>rfl⟩
theorem fz_var' {J:Addr→Obj→List (Key×V)→It} {R:It→Hp→Prop} {H:Hp} {d:Addr} {kvs:List (Key×V)} {i:Nat} {σ:L2.St} (e:σ[i]? = some (some (.ref d))) (rd:Rd H d (.dK kvs))
    (h:∀ o H',H' d=some (.frz o (.dK kvs))→(∀ b,b≠d→H' b=H b)→(∀ u,H d=some (.frz u (.dK kvs))→H'=H)→R (J d o kvs) H'):iFz J (tVar i) σ H R:=⟨_,e,d,kvs,rfl,fz_one' rd h⟩
theorem rd_inj {H:Hp} {d:Addr} {x y:List (Key×V)} (a:Rd H d (.dK x)) (b:Rd H d (.dK y)):x=y:=by
  rcases a with a | ⟨u,a⟩ <;> rcases b with b | ⟨v,b⟩ <;> rw [a] at b
  · exact HO.dK.inj (Option.some.inj b)
  · cases b
  · cases b
  · exact HO.dK.inj (HO.frz.inj (Option.some.inj b)).2
noncomputable def Kp2 (d1 d2:Addr) (a b:D Str) (H H':Hp):Prop:=(∀ x o,x≠d1→x≠d2→H x=some o→H' x=some o)∧Rd H' d1 (.dK (dk a))∧Rd H' d2 (.dK (dk b))
theorem loop_items' {i:Nat} {σ:L2.St} {H:Hp} {d:Addr} {kvs:List (Key×V)} {g:TG} {tb:TS} {D:Ends} (e:σ[i]? = some (some (.ref d))) (rd:Rd H d (.dK kvs)) (Pv:Obj→Nat→L2.St→Hp→Prop)
    (h0:∀ o H',H' d=some (.frz o (.dK kvs))→(∀ b,b≠d→H' b=H b)→(∀ u,H d=some (.frz u (.dK kvs))→H'=H)→Pv o 0 σ H') (hl:∀ o i σ H,Pv o i σ H→H d=some (.frz o (.dK kvs)))
    (hs:∀ o i k v a σ H,kvs[i]? = some (k,v)→H a=none→Pv o i σ H→g (.ref a) σ (upd H a (.tup [kV k,v])) fun σ2 H2=>tb { D with nx:=Pv o (i + 1),ct:=Pv o (i + 1),bk:=D.nx } σ2 H2) (hd:∀ o σ H,Pv o kvs.length σ H→D.nx σ H) :
    tFor (iFz Iti (tVar i)) g tb D σ H:=by
  unfold tFor
  refine fz_var' e rd fun o H' e1 e2 e3=>?_
  exact for_items (d:=d) (o:=o) (kvs:=kvs) (g:=g) (tb:=tb) (D:=D) (Pv o) (h0 o H' e1 e2 e3) (fun i σ H _ p=>hl o i σ H p) (hs o) (hd o)
theorem loop_dict' {i:Nat} {σ:L2.St} {H:Hp} {d:Addr} {kvs:List (Key×V)} {g:TG} {tb:TS} {D:Ends} (e:σ[i]? = some (some (.ref d))) (rd:Rd H d (.dK kvs)) (Pv:Obj→Nat→L2.St→Hp→Prop)
    (h0:∀ o H',H' d=some (.frz o (.dK kvs))→(∀ b,b≠d→H' b=H b)→(∀ u,H d=some (.frz u (.dK kvs))→H'=H)→Pv o 0 σ H') (hl:∀ o i σ H,Pv o i σ H→H d=some (.frz o (.dK kvs)))
    (hs:∀ o i k v σ H,kvs[i]? = some (k,v)→Pv o i σ H→g (kV k) σ H fun σ2 H2=>tb { D with nx:=Pv o (i + 1),ct:=Pv o (i + 1),bk:=D.nx } σ2 H2) (hd:∀ o σ H,Pv o kvs.length σ H→D.nx σ H) :
    tFor (iFz Itd (tVar i)) g tb D σ H:=by
  unfold tFor
  refine fz_var' e rd fun o H' e1 e2 e3=>?_
  exact for_dict (d:=d) (o:=o) (kvs:=kvs) (g:=g) (tb:=tb) (D:=D) (Pv o) (h0 o H' e1 e2 e3) (fun i σ H _ p=>hl o i σ H p) (hs o) (hd o)
theorem op_mulG {X:Cx}:OpR X (binaryOp .Mult) (rI IntMulOk fun i j=>.int (i * j)):=opI fun _ _ _ _ _ _ _ hc q=>mul_int q hc
theorem rd_same {H H':Hp} {a:Addr} {o:HO} (s:Same H H') (h:Rd H a o):Rd H' a o:=by
  rcases h with h | ⟨u,h⟩
  · exact .inl (s _ _ h)
  · exact .inr ⟨u,s _ _ h⟩
theorem rd_ne {H:Hp} {a b:Addr} {o:HO} {kvs:List (Key×V)} (h:Rd H a (.dK kvs)) (hb:H b=none):a≠b:=by
  rcases h with h | ⟨u,h⟩
  · exact ne_of_none h hb
  · exact ne_of_none h hb
section
variable {P:Program} {w:World} {K:PySem.W.Frag} {mg:Str→Option Value} {base:Heap} {f fa fn ft:Addr} {fd ad nd td:FuncData}
noncomputable def spBc (g:Br Str→D Str) (n:Nat):Sp:=fun vs H Q _=>∃ (b:Br Str) (v:V),vs=[v]∧BrV H b v∧b.wt≤n∧b.wt≤12∧∀ r H',H r=none→Same H H'→H' r=some (.dK (dk (g b)))→Q (.ref r) H'
noncomputable def inS (ad:D Str→Str→Int→D Str) (b:D Str) (c:Int) (d:D Str) (j:Nat):D Str:=(b.take j).foldl (fun d q=>ad d q.1 (c * q.2)) d
theorem inS_succ {ad:D Str→Str→Int→D Str} {b:D Str} {c:Int} {q:Str×Int} {d:D Str} {j:Nat} (e:b[j]? = some q):inS ad b c d (j + 1)=ad (inS ad b c d j) q.1 (c * q.2):=by
  unfold inS;rw [List.take_add_one,e,List.foldl_append];rfl
theorem inS_len {ad:D Str→Str→Int→D Str} (ha:∀ d w c,(ad d w c).length≤d.length + 1) (b:D Str) (c:Int) (d:D Str) (j:Nat):(inS ad b c d j).length≤d.length + j:=by
  have h:=len_fold (step:=fun d (q:Str×Int)=>ad d q.1 (c * q.2)) (k:=1) (fun d q=>ha d q.1 _) (b.take j) d
  have h2:=List.length_take_le j b
  unfold inS
  omega
end
end K01
end
section
namespace K01
open PySem PySem.Spec PyProof.Rows Tim L2 Wm
section
variable {P:Program} {w:World} {K:PySem.W.Frag} {mg:Str→Option Value} {base:Heap} {f fa fn ft:Addr} {fd ad nd td:FuncData}
noncomputable def spTwP:Sp:=fun vs H Q _=>∃ (d1 d2:Addr) (a b:D Str),vs=[.ref d1,.ref d2]∧Rd H d1 (.dK (dk a))∧Rd H d2 (.dK (dk b))∧a.length * (b.length * 2) < sizeLine ∧
  (∀ p∈a,∀ q∈b,p.1.length + q.1.length≤sizeLine∧IntMulOk p.2 q.2)∧∀ r H',H r=none→Kp2 d1 d2 a b H H'→H' r=some (.dK (dk (twP cat a b)))→Q (.ref r) H'
theorem scTwP:FnScope ["first","second","counts","ahead","ahead_count","behind","behind_count","product"] ["first","second"] (defScope (top 4)):=⟨rfl,rfl,rfl,by decide +kernel,rfl,by decide +kernel,by decide +kernel⟩
theorem ok_twP (F:At K mg "twisted" (top 4) ["first","second"] f fd) (FA:At K mg "add_count" (top 6) ["counts","word","count"] fa ad) (FN:At K mg "without_noughts" (top 7) ["counts"] fn nd) :
    FnOk P w K mg base CX0 2 f fd ["first","second"] spTwP:=by
  have GA:FnOk P w K mg base CX0 1 fa ad ["counts","word","count"] (spAdd add):=ok_add FA.fn
  have GN:FnOk P w K mg base CX0 1 fn nd ["counts"] spNz:=ok_nz FN.fn
  refine F.fn.ok scTwP (fun vs H Q E h=>?_) (fun cdv A outer s H vs Q E hr h=>?_)
  · obtain ⟨d1,d2,a,b,rfl,_⟩:=h
    rfl
  obtain ⟨r1,r2,a,b,rfl,e1,e2,hAB,hw,q⟩:=h
  have hr1:Room 1 _:=hr.mono (by omega)
  refine ⟨_,pss_cons (ps_set (i:=2) scTwP.nd rfl (Or.inl rfl) pe_dnewK)
    (pss_cons (ps_for PassesOwn.never rfl (pi_items (pv 0)) (pg_tup rfl (pgs_cons (pg_name (i:=3) scTwP.nd rfl (Or.inl rfl)) (pgs_cons (pg_name (i:=4) scTwP.nd rfl (Or.inl rfl)) pgs_nil)))
      (pss_one (ps_for PassesOwn.never rfl (pi_items (pv 1)) (pg_tup rfl (pgs_cons (pg_name (i:=5) scTwP.nd rfl (Or.inl rfl)) (pgs_cons (pg_name (i:=6) scTwP.nd rfl (Or.inl rfl)) pgs_nil)))
        (pss_cons (ps_set (i:=7) scTwP.nd rfl (Or.inl rfl) (pe_op op_mulG (pv 4) (pv 6)))
        (pss_cons (ps_expr (pe_call GA hr1 rfl FA.m FA.k FA.b .nil pass0 (pa_cons (pv 2) (pa_cons (pe_op op_add_str (pv 3) (pv 5)) (pa_cons (pv 7) pa_nil)))))
        (pss_one (ps_expr (pe_call GA hr1 rfl FA.m FA.k FA.b .nil pass0 (pa_cons (pv 2) (pa_cons (pe_op op_add_str (pv 5) (pv 3)) (pa_cons (pe_un un_neg (pv 7)) pa_nil)))))))))))
    (pss_one (ps_ret (pe_call GN hr1 rfl FN.m FN.k FN.b .nil pass0 (pa_cons (pv 2) pa_nil))))),?_⟩
  intro c nc
  have d1c:r1≠c:=rd_ne (o:=.own 0) e1 nc
  have d2c:r2≠c:=rd_ne (o:=.own 0) e2 nc
  have hz:=sizeLine_eq
  have sc:=new_same nc (.dK [])
  have rd1:Rd (upd H c (.dK [])) r1 (.dK (dk a)):=rd_same sc e1
  have rd2:Rd (upd H c (.dK [])) r2 (.dK (dk b)):=rd_same sc e2
  dsimp only [gName,tSeq]
  refine loop_items' (d:=r1) rfl rd1 (fun o1 i σ Hx=>∃ x4 x5 x6 x7 x8,σ=[some (.ref r1),some (.ref r2),some (.ref c),x4,x5,x6,x7,x8]∧(∀ x o,x≠r1→x≠r2→H x=some o→Hx x=some o)∧Hx r1=some (.frz o1 (.dK (dk a)))∧Rd Hx r2 (.dK (dk b))∧Hx c=some (.dK (dk (outP a b i)))) ?_ ?_ ?_ ?_
  · intro o1 H3 e3 k3 _
    refine ⟨none,none,none,none,none,rfl,fun x o n1 n2 e=>?_,e3,?_,?_⟩
    · rw [k3 x n1];exact sc _ _ e
    · by_cases hh:r2=r1
      · subst hh
        have:dk a=dk b:=rd_inj rd1 rd2
        rw [← this];exact .inr ⟨o1,e3⟩
      · unfold Rd;rw [k3 r2 hh];exact rd2
    · rw [k3 c d1c.symm,upd_same];rfl
  · rintro o1 i σ Hx ⟨x4,x5,x6,x7,x8,rfl,sx,f1,f2,f3⟩
    exact f1
  · rintro o1 i k v ta σ Hx hi hta ⟨x4,x5,x6,x7,x8,rfl,sx,f1,f2,f3⟩
    obtain ⟨pa,hpa,rfl,rfl⟩:=dk_get hi
    have hil:i < a.length:=(List.getElem?_eq_some_iff.mp hpa).1
    have mA:pa∈a:=List.mem_of_getElem? hpa
    have sa:=new_same hta (.tup [kV (Sum.inr pa.1),.int pa.2])
    refine ⟨ta,_,rfl,.inl (.inl upd_same),rfl,_,_,rfl,_,_,rfl,rfl,?_⟩
    dsimp only [gName,tSeq]
    refine loop_items' (d:=r2) rfl (rd_same sa f2) (fun o2 j σ Hx=>∃ x6 x7 x8,σ=[some (.ref r1),some (.ref r2),some (.ref c),some (.str pa.1),some (.int pa.2),x6,x7,x8]∧(∀ x o,x≠r1→x≠r2→H x=some o→Hx x=some o)∧Hx r1=some (.frz o1 (.dK (dk a)))∧Hx r2=some (.frz o2 (.dK (dk b)))∧Hx c=some (.dK (dk (inP b pa (outP a b i) j)))) ?_ ?_ ?_ ?_
    · intro o2 H4 e4 k4 k5
      refine ⟨x6,x7,x8,rfl,fun x o n1 n2 e=>?_,?_,e4,?_⟩
      · rw [k4 x n2];exact sa _ _ (sx x o n1 n2 e)
      · by_cases hh:r1=r2
        · subst hh
          have f1':=sa _ _ f1
          have:dk a=dk b:=rd_inj (.inr ⟨o1,f1⟩) f2
          rw [this] at f1'
          rw [k5 o1 f1',this];exact f1'
        · rw [k4 r1 hh];exact sa _ _ f1
      · rw [k4 c d2c.symm];exact sa _ _ f3
    · rintro o2 j σ Hy ⟨y6,y7,y8,rfl,sy,g1,g2,g3⟩
      exact g2
    · rintro o2 j k v tb σ Hy hj htb ⟨y6,y7,y8,rfl,sy,g1,g2,g3⟩
      obtain ⟨pb,hpb,rfl,rfl⟩:=dk_get hj
      have hjl:j < b.length:=(List.getElem?_eq_some_iff.mp hpb).1
      have mB:pb∈b:=List.mem_of_getElem? hpb
      have sb:=new_same htb (.tup [kV (Sum.inr pb.1),.int pb.2])
      obtain ⟨wAB,mm⟩:=hw pa mA pb mB
      have L1:=inP_len b pa (outP a b i) j
      have L2:=outP_len a b i
      have L3:=fill_lt hil hjl
      refine ⟨tb,_,rfl,.inl (.inl upd_same),rfl,_,_,rfl,_,_,rfl,rfl,?_⟩
      refine ⟨_,rfl,_,rfl,_,_,rfl,rfl,mm,?_⟩
      refine ⟨_,rfl,_,rfl,_,rfl,_,_,rfl,rfl,by omega,_,rfl,c,_,_,_,rfl,sb _ _ g3,by omega,?_⟩
      refine ⟨_,rfl,_,rfl,_,rfl,_,_,rfl,rfl,by omega,_,rfl,_,rfl,c,_,_,_,rfl,upd_same,?_,?_⟩
      · have:=len_add (inP b pa (outP a b i) j) (pa.1++pb.1) (pa.2 * pb.2)
        omega
      refine ⟨_,_,_,rfl,fun x o n1 n2 e=>?_,?_,?_,?_⟩
      · rw [upd_ne (ne_of_none e nc),upd_ne (ne_of_none e nc)];exact sb _ _ (sy x o n1 n2 e)
      · rw [upd_ne d1c,upd_ne d1c];exact sb _ _ g1
      · rw [upd_ne d2c,upd_ne d2c];exact sb _ _ g2
      · rw [upd_same,inP_succ hpb];rfl
    · rintro o2 σ Hy ⟨y6,y7,y8,rfl,sy,g1,g2,g3⟩
      refine ⟨_,_,_,_,_,rfl,sy,g1,.inr ⟨o2,g2⟩,?_⟩
      rw [g3,dk_len,outP_succ hpa]
  · rintro o1 σ Hx ⟨x4,x5,x6,x7,x8,rfl,sx,f1,f2,f3⟩
    rw [dk_len,outP_all] at f3
    refine ⟨_,rfl,c,_,rfl,f3,?_,fun r H' nr sr er=>q r H' ?_ ⟨fun x o n1 n2 e=>sr _ _ (ne_of_none e nc) (sx x o n1 n2 e),.inr ⟨o1,sr _ _ d1c f1⟩,?_⟩ er⟩
    · have:=len_foldP (op:=cat) a b
      omega
    · cases z:H r with
      | none=>rfl
      | some o =>
        by_cases n1:r=r1
        · rw [n1,f1] at nr;cases nr
        · by_cases n2:r=r2
          · rcases f2 with f2 | ⟨u,f2⟩ <;> rw [n2,f2] at nr <;> cases nr
          · rw [sx r o n1 n2 z] at nr;cases nr
    · rcases f2 with f2 | ⟨u,f2⟩
      · exact .inl (sr _ _ d2c f2)
      · exact .inr ⟨u,sr _ _ d2c f2⟩
theorem scBc:FnScope ["bracket"] ["bracket"] (defScope (top 3)):=⟨rfl,rfl,rfl,by decide +kernel,rfl,by decide +kernel,by decide +kernel⟩
theorem ok_bc (T:Blt mg) (F:At K mg "bracket_counts" (top 3) ["bracket"] f fd) (FT:At K mg "twisted" (top 4) ["first","second"] ft td) (FA:At K mg "add_count" (top 6) ["counts","word","count"] fa ad) (FN:At K mg "without_noughts" (top 7) ["counts"] fn nd) :
    ∀ n:Nat,FnOk P w K mg base CX0 (n + 2) f fd ["bracket"] (spBc (cP cat) n)
  | 0=>fn_zero fun vs H Q E h=>by
    obtain ⟨b,v,_,_,h,_⟩:=h
    have:=br_wt_pos b
    omega
  | n + 1=>by
    have G:=ok_bc T F FT FA FN n
    have GT:FnOk P w K mg base CX0 2 ft td ["first","second"] spTwP:=ok_twP FT FA FN
    refine F.fn.ok scBc (fun vs H Q E h=>?_) (fun cdv A outer s H vs Q E hr h=>?_)
    · obtain ⟨b,v,rfl,_⟩:=h
      rfl
    obtain ⟨b,v,rfl,hb,hn,h12,q⟩:=h
    have hr2:Room 2 _:=hr.mono (by omega)
    refine ⟨_,pss_cons (ps_if (pt_val (pe_callB call_isi rfl T.isi boot_isi (pa_cons (pv 0) (pa_cons (pe_ty rfl T.str bt_str) pa_nil)))) (pss_one (ps_ret (pe_disp (pps_cons (pv 0) pe_int pps_nil) rfl rfl (by simp) (by decide)))) pss_nil)
      (pss_one (ps_ret (pe_call GT hr2 rfl FT.m FT.k FT.b .nil pass0 (pa_cons (pe_call G hr rfl F.m F.k F.b .nil pass0 (pa_cons (pe_ix ix_tup (pv 0) pe_int (fun _ _=>rfl)) pa_nil)) (pa_cons (pe_call G hr rfl F.m F.k F.b .nil pass0 (pa_cons (pe_ix ix_tup (pv 0) pe_int (fun _ _=>rfl)) pa_nil)) pa_nil))))),?_⟩
    cases b with
    | leaf x =>
      obtain ⟨rfl,hx⟩:=hb
      refine ⟨_,rfl,_,_,_,rfl,.ss x,_,rfl,iteT ?_⟩
      intro p hp
      refine ⟨_,rfl,upd_same,[(Sum.inr x,.int 1)],rfl,(by show 1≤15;decide),?_⟩
      exact q p _ hp (upd_same2 (new_same hp _) hp) upd_same
    | node a b =>
      obtain ⟨p,u,w,rfl,hp,hu,hw⟩:=hb
      have hn:a.wt + b.wt≤n + 1:=hn
      have h12:a.wt + b.wt≤12:=h12
      have:=br_wt_pos a
      have:=br_wt_pos b
      refine ⟨_,rfl,_,_,_,rfl,.ts hp,_,rfl,iteF ?_⟩
      refine ⟨_,rfl,p,_,_,_,rfl,rfl,.inl (.inl hp),rfl,a,u,rfl,hu,by omega,by omega,fun r1 H1 n1 s1 e1=>?_⟩
      refine ⟨_,rfl,p,_,_,_,rfl,rfl,.inl (.inl (s1 _ _ hp)),rfl,b,w,rfl,hw.same s1,by omega,by omega,fun r2 H2 n2 s2 e2=>?_⟩
      have hA:=(len_cP (op:=cat) a).1
      have hB:=(len_cP (op:=cat) b).1
      have hAB:=two_len hA hB h12
      have lA:=wlen_cP (op:=cat) len_cat hu.ok
      have lB:=wlen_cP (op:=cat) len_cat hw.ok
      have hz:=sizeLine_eq
      refine ⟨r1,r2,cP cat a,cP cat b,rfl,.inl (s2 _ _ e1),.inl e2,by omega,fun p mA q mB=>⟨?_,CMul.ok (mul_ok (abs_cP mA) (by omega))⟩,fun r H' nr kp er=>?_⟩
      · have wA:=lA p.1 (List.mem_map.mpr ⟨p,mA,rfl⟩)
        have wB:=lB q.1 (List.mem_map.mpr ⟨q,mB,rfl⟩)
        omega
      · exact q r H' (s1.free (s2.free nr)) (fun x o e=>kp.1 x o (ne_of_none e n1) (ne_of_none e (s1.free n2)) (s2 _ _ (s1 _ _ e))) er
noncomputable def addAll (y:D Str) (t:Int) (x:D Str):D Str:=y.foldl (fun d q=>add d q.1 (t * q.2)) x
noncomputable def spAdA:Sp:=fun vs H Q _=>∃ (c a:Addr) (t:Int) (x y:D Str),vs=[.ref c,.int t,.ref a]∧c≠a∧H c=some (.dK (dk x))∧Rd H a (.dK (dk y))∧x.length + y.length < sizeLine∧(∀ p∈y,IntMulOk t p.2) ∧
  ∀ H',(∀ b o,b≠c→b≠a→H b=some o→H' b=some o)→Rd H' a (.dK (dk y))→H' c=some (.dK (dk (addAll y t x)))→Q .non H'
theorem scAdA:FnScope ["counts","times","added","word","count"] ["counts","times","added"] (defScope (top 5)):=⟨rfl,rfl,rfl,by decide +kernel,rfl,by decide +kernel,by decide +kernel⟩
theorem ok_adA (F:At K mg "add_counts" (top 5) ["counts","times","added"] f fd) (FA:At K mg "add_count" (top 6) ["counts","word","count"] fa ad) :
    FnOk P w K mg base CX0 2 f fd ["counts","times","added"] spAdA:=by
  have GA:FnOk P w K mg base CX0 1 fa ad ["counts","word","count"] (spAdd add):=ok_add FA.fn
  refine F.fn.ok scAdA (fun vs H Q E h=>?_) (fun cdv A outer s H vs Q E hr h=>?_)
  · obtain ⟨c,a,t,x,y,rfl,_⟩:=h
    rfl
  obtain ⟨c,a,t,x,y,rfl,nca,hc,ha,hz,hm,q⟩:=h
  refine ⟨_,pss_one (ps_for PassesOwn.never rfl (pi_items (pv 2)) (pg_tup rfl (pgs_cons (pg_name (i:=3) scAdA.nd rfl (Or.inl rfl)) (pgs_cons (pg_name (i:=4) scAdA.nd rfl (Or.inl rfl)) pgs_nil)))
      (pss_one (ps_expr (pe_call GA hr rfl FA.m FA.k FA.b .nil pass0 (pa_cons (pv 0) (pa_cons (pv 3) (pa_cons (pe_op op_mulG (pv 1) (pv 4)) pa_nil))))))),?_⟩
  dsimp only [gName,tSeq]
  refine loop_items' (d:=a) rfl ha (fun o j σ Hy=>∃ y4 y5,σ=[some (.ref c),some (.int t),some (.ref a),y4,y5]∧(∀ b o,b≠c→b≠a→H b=some o→Hy b=some o)∧Hy a=some (.frz o (.dK (dk y)))∧Hy c=some (.dK (dk (inS add y t x j)))) ?_ ?_ ?_ ?_
  · intro o H3 e3 k3 _
    exact ⟨none,none,rfl,fun b o n1 n2 e=>by rw [k3 b n2];exact e,e3,by rw [k3 c nca];exact hc⟩
  · rintro o j σ Hy ⟨y4,y5,rfl,sy,g1,g2⟩
    exact g1
  · rintro o j k v tb σ Hy hj htb ⟨y4,y5,rfl,sy,g1,g2⟩
    obtain ⟨pb,hpb,rfl,rfl⟩:=dk_get hj
    have hjl:j < y.length:=(List.getElem?_eq_some_iff.mp hpb).1
    have mB:pb∈y:=List.mem_of_getElem? hpb
    have sb:=new_same htb (.tup [kV (Sum.inr pb.1),.int pb.2])
    have L1:=inS_len (ad:=add) len_add y t x j
    refine ⟨tb,_,rfl,.inl (.inl upd_same),rfl,_,_,rfl,_,_,rfl,rfl,?_⟩
    refine ⟨_,rfl,_,rfl,_,rfl,_,rfl,_,_,rfl,rfl,hm pb mB,c,_,_,_,rfl,sb _ _ g2,by omega,?_⟩
    refine ⟨_,_,rfl,fun b o n1 n2 e=>?_,?_,?_⟩
    · rw [upd_ne n1];exact sb _ _ (sy b o n1 n2 e)
    · rw [upd_ne nca.symm];exact sb _ _ g1
    · rw [upd_same,inS_succ hpb]
  · rintro o σ Hy ⟨y4,y5,rfl,sy,g1,g2⟩
    refine q Hy sy (.inr ⟨o,g1⟩) ?_
    rw [g2,dk_len]
    unfold inS addAll
    rw [List.take_length]
end
end K01
end
section
namespace K01
open PySem PySem.Spec PyProof.Rows Tim L2 Wm
noncomputable def inL (b:D Str) (p:Str×Int) (d:D Str) (j:Nat):D Str:=(b.take j).foldl (stepL cat p) d
noncomputable def outL (a b:D Str) (i:Nat):D Str:=(a.take i).foldl (fun d p=>b.foldl (stepL cat p) d) []
theorem inL_succ {b:D Str} {p q:Str×Int} {d:D Str} {j:Nat} (e:b[j]? = some q):inL b p d (j + 1)=stepL cat p (inL b p d j) q:=by
  unfold inL;rw [List.take_add_one,e,List.foldl_append];rfl
theorem outL_succ {a b:D Str} {p:Str×Int} {i:Nat} (e:a[i]? = some p):outL a b (i + 1)=inL b p (outL a b i) b.length:=by
  unfold outL inL;rw [List.take_add_one,e,List.foldl_append,List.take_length];rfl
theorem outL_all (a b:D Str):outL a b a.length=foldL cat a b:=by unfold outL foldL;rw [List.take_length]
theorem inL_len (b:D Str) (p:Str×Int) (d:D Str) (j:Nat):(inL b p d j).length≤d.length + j * 2:=by
  have h:=len_fold (step:=stepL cat p) (k:=2) (fun d q=>len_stepL p q d) (b.take j) d
  have h2:=List.length_take_le j b
  unfold inL
  omega
theorem outL_len (a b:D Str) (i:Nat):(outL a b i).length≤i * (b.length * 2):=by
  have h:=len_fold (step:=fun d p=>b.foldl (stepL cat p) d) (k:=b.length * 2) (fun d p=>len_fold (fun d q=>len_stepL p q d) b d) (a.take i) []
  have h2:=List.length_take_le i a
  unfold outL
  rw [List.length_nil,Nat.zero_add] at h
  exact Nat.le_trans h (Nat.mul_le_mul_right _ h2)
theorem dget_frz {H:Hp} {a:Addr} {d:D Str} {w:Str} {c:Int} (rd:Rd H a (.dK (dk d))) (e:look d w=some c):DGet H a (.str w) (some (.int c)):=.inl ⟨dk d,Sum.inr w,rd,rfl,by rw [dk_val,e];rfl⟩
section
variable {P:Program} {w:World} {K:PySem.W.Frag} {mg:Str→Option Value} {base:Heap} {f fp ft fa fn fb:Addr} {fd pd td ad nd bd:FuncData}
noncomputable def spTw:Sp:=fun vs H Q _=>∃ (d1 d2:Addr) (a b:D Str),vs=[.ref d1,.ref d2]∧Rd H d1 (.dK (dk a))∧Rd H d2 (.dK (dk b))∧(keys a).Nodup∧(keys b).Nodup∧a.length * (b.length * 2) < sizeLine ∧
  (∀ p∈a,∀ q∈b,p.1.length + q.1.length≤sizeLine∧IntMulOk p.2 q.2)∧∀ r H',H r=none→Kp2 d1 d2 a b H H'→H' r=some (.dK (dk (foldL cat a b)))→Q (.ref r) H'
theorem scTw:FnScope ["one","other","found","first","second"] ["one","other"] (defScope (top 33)):=⟨rfl,rfl,rfl,by decide +kernel,rfl,by decide +kernel,by decide +kernel⟩
theorem ok_tw (FP:At K mg "_law_put" (top 32) ["counts","word","count"] fp pd) (F:At K mg "_law_twisted" (top 33) ["one","other"] f fd):FnOk P w K mg base CX0 2 f fd ["one","other"] spTw:=by
  have GP:FnOk P w K mg base CX0 1 fp pd ["counts","word","count"] (spAdd lput):=ok_put FP.fn
  refine F.fn.ok scTw (fun vs H Q E h=>?_) (fun cdv A outer s H vs Q E hr h=>?_)
  · obtain ⟨d1,d2,a,b,rfl,_⟩:=h
    rfl
  obtain ⟨d1,d2,a,b,rfl,e1,e2,nA,nB,hAB,hw,q⟩:=h
  refine ⟨_,pss_cons (ps_set (i:=2) scTw.nd rfl (Or.inl rfl) pe_dnewK)
    (pss_cons (ps_for PassesOwn.never rfl (pi_dict (pv 0)) (pg_name (i:=3) scTw.nd rfl (Or.inl rfl))
      (pss_one (ps_for PassesOwn.never rfl (pi_dict (pv 1)) (pg_name (i:=4) scTw.nd rfl (Or.inl rfl))
        (pss_cons (ps_expr (pe_call GP hr rfl FP.m FP.k FP.b .nil pass0 (pa_cons (pv 2) (pa_cons (pe_op op_add_str (pv 3) (pv 4)) (pa_cons (pe_op op_mulG (pe_dget (hu_of hr) (pv 0) (pv 3) (fun _ _=>rfl)) (pe_dget (hu_of hr) (pv 1) (pv 4) (fun _ _=>rfl))) pa_nil)))))
        (pss_one (ps_expr (pe_call GP hr rfl FP.m FP.k FP.b .nil pass0 (pa_cons (pv 2) (pa_cons (pe_op op_add_str (pv 4) (pv 3)) (pa_cons (pe_op op_sub pe_int (pe_op op_mulG (pe_dget (hu_of hr) (pv 0) (pv 3) (fun _ _=>rfl)) (pe_dget (hu_of hr) (pv 1) (pv 4) (fun _ _=>rfl)))) pa_nil))))))))))
    (pss_one (ps_ret (pv 2)))),?_⟩
  intro c nc
  have d1c:d1≠c:=rd_ne (o:=.own 0) e1 nc
  have d2c:d2≠c:=rd_ne (o:=.own 0) e2 nc
  have hz:=sizeLine_eq
  have sc:=new_same nc (.dK [])
  have rd1:Rd (upd H c (.dK [])) d1 (.dK (dk a)):=rd_same sc e1
  have rd2:Rd (upd H c (.dK [])) d2 (.dK (dk b)):=rd_same sc e2
  dsimp only [gName,tSeq]
  refine loop_dict' (d:=d1) rfl rd1 (fun o1 i σ Hx=>∃ x3 x4,σ=[some (.ref d1),some (.ref d2),some (.ref c),x3,x4]∧(∀ x o,x≠d1→x≠d2→H x=some o→Hx x=some o)∧Hx d1=some (.frz o1 (.dK (dk a)))∧Rd Hx d2 (.dK (dk b))∧Hx c=some (.dK (dk (outL a b i)))) ?_ ?_ ?_ ?_
  · intro o1 H3 e3 k3 _
    refine ⟨none,none,rfl,fun x o n1 n2 e=>?_,e3,?_,?_⟩
    · rw [k3 x n1];exact sc _ _ e
    · by_cases hh:d2=d1
      · subst hh
        have:dk a=dk b:=rd_inj rd1 rd2
        rw [← this];exact .inr ⟨o1,e3⟩
      · unfold Rd;rw [k3 d2 hh];exact rd2
    · rw [k3 c d1c.symm,upd_same];rfl
  · rintro o1 i σ Hx ⟨x3,x4,rfl,sx,f1,f2,f3⟩
    exact f1
  · rintro o1 i k v σ Hx hi ⟨x3,x4,rfl,sx,f1,f2,f3⟩
    obtain ⟨pa,hpa,rfl,rfl⟩:=dk_get hi
    have hil:i < a.length:=(List.getElem?_eq_some_iff.mp hpa).1
    have mA:pa∈a:=List.mem_of_getElem? hpa
    dsimp only [gName,tSeq]
    refine loop_dict' (d:=d2) rfl f2 (fun o2 j σ Hx=>∃ x4,σ=[some (.ref d1),some (.ref d2),some (.ref c),some (.str pa.1),x4]∧(∀ x o,x≠d1→x≠d2→H x=some o→Hx x=some o)∧Hx d1=some (.frz o1 (.dK (dk a)))∧Hx d2=some (.frz o2 (.dK (dk b)))∧Hx c=some (.dK (dk (inL b pa (outL a b i) j)))) ?_ ?_ ?_ ?_
    · intro o2 H4 e4 k4 k5
      refine ⟨x4,rfl,fun x o n1 n2 e=>?_,?_,e4,?_⟩
      · rw [k4 x n2];exact sx x o n1 n2 e
      · by_cases hh:d1=d2
        · subst hh
          have:dk a=dk b:=rd_inj (.inr ⟨o1,f1⟩) f2
          rw [this] at f1
          rw [k5 o1 f1,this];exact f1
        · rw [k4 d1 hh];exact f1
      · rw [k4 c d2c.symm];exact f3
    · rintro o2 j σ Hy ⟨y4,rfl,sy,g1,g2,g3⟩
      exact g2
    · rintro o2 j k v σ Hy hj ⟨y4,rfl,sy,g1,g2,g3⟩
      obtain ⟨pb,hpb,rfl,rfl⟩:=dk_get hj
      have hjl:j < b.length:=(List.getElem?_eq_some_iff.mp hpb).1
      have mB:pb∈b:=List.mem_of_getElem? hpb
      obtain ⟨wAB,mm⟩:=hw pa mA pb mB
      have L1:=inL_len b pa (outL a b i) j
      have L2:=outL_len a b i
      have L3:=fill_lt hil hjl
      have kA:look a pa.1=some pa.2:=look_of_mem nA mA
      have kB:look b pb.1=some pb.2:=look_of_mem nB mB
      refine ⟨_,rfl,_,rfl,_,rfl,_,_,rfl,rfl,by omega,_,rfl,_,rfl,d1,_,rfl,dget_frz (.inr ⟨o1,g1⟩) kA,_,rfl,_,rfl,d2,_,rfl,dget_frz (.inr ⟨o2,g2⟩) kB,_,_,rfl,rfl,mm,c,_,_,_,rfl,g3,by omega,?_⟩
      have g1':∀ o,(upd Hy c o) d1=some (.frz o1 (.dK (dk a))):=fun o=>by rw [upd_ne d1c];exact g1
      have g2':∀ o,(upd Hy c o) d2=some (.frz o2 (.dK (dk b))):=fun o=>by rw [upd_ne d2c];exact g2
      refine ⟨_,rfl,_,rfl,_,rfl,_,_,rfl,rfl,by omega,_,rfl,_,rfl,d1,_,rfl,dget_frz (.inr ⟨o1,g1' _⟩) kA,_,rfl,_,rfl,d2,_,rfl,dget_frz (.inr ⟨o2,g2' _⟩) kB,_,_,rfl,rfl,mm,_,_,rfl,rfl,c,_,_,_,rfl,upd_same,?_,?_⟩
      · have:=len_lput (inL b pa (outL a b i) j) (pa.1++pb.1) (pa.2 * pb.2)
        omega
      refine ⟨_,rfl,fun x o n1 n2 e=>?_,?_,?_,?_⟩
      · rw [upd_ne (ne_of_none e nc),upd_ne (ne_of_none e nc)];exact sy x o n1 n2 e
      · rw [upd_ne d1c];exact g1' _
      · rw [upd_ne d2c];exact g2' _
      · rw [upd_same,inL_succ hpb];rfl
    · rintro o2 σ Hy ⟨y4,rfl,sy,g1,g2,g3⟩
      refine ⟨_,_,rfl,sy,g1,.inr ⟨o2,g2⟩,?_⟩
      rw [g3,dk_len,outL_succ hpa]
  · rintro o1 σ Hx ⟨x3,x4,rfl,sx,f1,f2,f3⟩
    rw [dk_len,outL_all] at f3
    exact ⟨_,rfl,q c Hx nc ⟨sx,.inr ⟨o1,f1⟩,f2⟩ f3⟩
theorem scLc:FnScope ["bracket"] ["bracket"] (defScope (top 34)):=⟨rfl,rfl,rfl,by decide +kernel,rfl,by decide +kernel,by decide +kernel⟩
theorem ok_lc (T:Blt mg) (F:At K mg "_law_counts" (top 34) ["bracket"] f fd) (FP:At K mg "_law_put" (top 32) ["counts","word","count"] fp pd) (FT:At K mg "_law_twisted" (top 33) ["one","other"] ft td) :
    ∀ n:Nat,FnOk P w K mg base CX0 (n + 2) f fd ["bracket"] (spBc (cL cat) n)
  | 0=>fn_zero fun vs H Q E h=>by
    obtain ⟨b,v,_,_,h,_⟩:=h
    have:=br_wt_pos b
    omega
  | n + 1=>by
    have G:=ok_lc T F FP FT n
    have GT:FnOk P w K mg base CX0 2 ft td ["one","other"] spTw:=ok_tw FP FT
    refine F.fn.ok scLc (fun vs H Q E h=>?_) (fun cdv A outer s H vs Q E hr h=>?_)
    · obtain ⟨b,v,rfl,_⟩:=h
      rfl
    obtain ⟨b,v,rfl,hb,hn,h12,q⟩:=h
    have hr2:Room 2 _:=hr.mono (by omega)
    refine ⟨_,pss_cons (ps_if (pt_val (pe_callB call_isi rfl T.isi boot_isi (pa_cons (pv 0) (pa_cons (pe_ty rfl T.str bt_str) pa_nil)))) (pss_one (ps_ret (pe_disp (pps_cons (pv 0) pe_int pps_nil) rfl rfl (by simp) (by decide)))) pss_nil)
      (pss_one (ps_ret (pe_call GT hr2 rfl FT.m FT.k FT.b .nil pass0 (pa_cons (pe_call G hr rfl F.m F.k F.b .nil pass0 (pa_cons (pe_ix ix_tup (pv 0) pe_int (fun _ _=>rfl)) pa_nil)) (pa_cons (pe_call G hr rfl F.m F.k F.b .nil pass0 (pa_cons (pe_ix ix_tup (pv 0) pe_int (fun _ _=>rfl)) pa_nil)) pa_nil))))),?_⟩
    cases b with
    | leaf x =>
      obtain ⟨rfl,hx⟩:=hb
      refine ⟨_,rfl,_,_,_,rfl,.ss x,_,rfl,iteT ?_⟩
      intro p hp
      refine ⟨_,rfl,upd_same,[(Sum.inr x,.int 1)],rfl,(by show 1≤15;decide),?_⟩
      exact q p _ hp (upd_same2 (new_same hp _) hp) upd_same
    | node a b =>
      obtain ⟨p,u,w,rfl,hp,hu,hw⟩:=hb
      have hn:a.wt + b.wt≤n + 1:=hn
      have h12:a.wt + b.wt≤12:=h12
      have:=br_wt_pos a
      have:=br_wt_pos b
      refine ⟨_,rfl,_,_,_,rfl,.ts hp,_,rfl,iteF ?_⟩
      refine ⟨_,rfl,p,_,_,_,rfl,rfl,.inl (.inl hp),rfl,a,u,rfl,hu,by omega,by omega,fun r1 H1 n1 s1 e1=>?_⟩
      refine ⟨_,rfl,p,_,_,_,rfl,rfl,.inl (.inl (s1 _ _ hp)),rfl,b,w,rfl,hw.same s1,by omega,by omega,fun r2 H2 n2 s2 e2=>?_⟩
      have hz:=sizeLine_eq
      have hA:=len_cL (op:=cat) a
      have hB:=len_cL (op:=cat) b
      have hAB:=two_len hA hB h12
      refine ⟨r1,r2,_,_,rfl,.inl (s2 _ _ e1),.inl e2,nd_cL a,nd_cL b,by omega,fun p mA q' mB=>⟨?_,(mul_ok (abs_cL mA) (by omega)).ok⟩,fun r H' nr sr er=>?_⟩
      · have wA:=wlen_cL (op:=cat) len_cat hu.ok p.1 (List.mem_map.mpr ⟨p,mA,rfl⟩)
        have wB:=wlen_cL (op:=cat) len_cat hw.ok q'.1 (List.mem_map.mpr ⟨q',mB,rfl⟩)
        omega
      · exact q r H' (s1.free (s2.free nr)) (fun x o e=>sr.1 x o (ne_of_none e n1) (ne_of_none e (s1.free n2)) (s2 _ _ (s1 _ _ e))) er
end
end K01
end
section
namespace K01
open PySem PySem.Spec PyProof.Rows Tim L2 Wm
noncomputable def TotV (K:PySem.W.Frag) (H:Hp) (t:Addr) (ps:List V) (T:List (Int×Br Str)):Prop :=
  SqL K H t ps∧ps.length=T.length∧∀ (i:Nat) x,T[i]? = some x→∃ p bv,ps[i]? = some (.ref p)∧H p=some (.tup [.int x.1,bv])∧BrV H x.2 bv
theorem TotV.same {K:PySem.W.Frag} {H H':Hp} {t:Addr} {ps:List V} {T:List (Int×Br Str)} (h:TotV K H t ps T) (s:Same H H'):TotV K H' t ps T :=
  ⟨s.seq h.1,h.2.1,fun i x e=>by
    obtain ⟨p,bv,a,b,c⟩:=h.2.2 i x e
    exact ⟨p,bv,a,s _ _ b,c.same s⟩⟩
theorem TotV.at {K:PySem.W.Frag} {H:Hp} {t:Addr} {ps:List V} {T:List (Int×Br Str)} (h:TotV K H t ps T) {i:Nat} {v:V} (e:ps[i]? = some v):∃ x p bv,T[i]? = some x∧v = .ref p∧H p=some (.tup [.int x.1,bv])∧BrV H x.2 bv:=by
  have hi:i < T.length:=by rw [← h.2.1];exact (List.getElem?_eq_some_iff.mp e).1
  obtain ⟨p,bv,a,b,c⟩:=h.2.2 i T[i] (List.getElem?_eq_getElem hi)
  rw [e] at a
  exact ⟨_,p,bv,List.getElem?_eq_getElem hi,Option.some.inj a,b,c⟩
noncomputable def outS (ad:D Str→Str→Int→D Str) (g:Br Str→D Str) (T:List (Int×Br Str)) (i:Nat):D Str:=(T.take i).foldl (fun d p=>(g p.2).foldl (fun d q=>ad d q.1 (p.1 * q.2)) d) []
theorem outS_succ {ad:D Str→Str→Int→D Str} {g:Br Str→D Str} {T:List (Int×Br Str)} {x:Int×Br Str} {i:Nat} (e:T[i]? = some x):outS ad g T (i + 1)=inS ad (g x.2) x.1 (outS ad g T i) (g x.2).length:=by
  unfold outS inS;rw [List.take_add_one,e,List.foldl_append,List.take_length];rfl
theorem outS_len {ad:D Str→Str→Int→D Str} {g:Br Str→D Str} {T:List (Int×Br Str)} (ha:∀ d w c,(ad d w c).length≤d.length + 1) (hg:∀ x∈T,(g x.2).length≤2048):∀ i,i≤T.length→(outS ad g T i).length≤i * 2048
  | 0,_=>by unfold outS;simp
  | i + 1,h=>by
    have ih:=outS_len ha hg i (by omega)
    have hi:i < T.length:=h
    rw [outS_succ (List.getElem?_eq_getElem hi)]
    have h1:=inS_len ha (g T[i].2) T[i].1 (outS ad g T i) (g T[i].2).length
    have h2:=hg _ (List.getElem_mem hi)
    omega
theorem len2048 {x:Br Str} {d:D Str} (h:d.length≤2 ^ (x.wt - 1)) (hx:x.wt≤12):d.length≤2048:=by
  have h3:2 ^ (x.wt - 1)≤2 ^ 11:=pow_le (by omega)
  omega
section
variable {P:Program} {w:World} {K:PySem.W.Frag} {mg:Str→Option Value} {base:Heap} {f fp ft fa fn fb:Addr} {fd pd td ad nd bd:FuncData}
noncomputable def spSum (K:PySem.W.Frag) (g:List (Int×Br Str)→D Str):Sp:=fun vs H Q _=>∃ (t:Addr) (ps:List V) (T:List (Int×Br Str)),vs=[.ref t]∧TotV K H t ps T∧T.length≤4000∧(∀ x∈T,x.2.wt≤12)∧∀ r H',H r=none→Same H H'→H' r=some (.dK (dk (g T)))→Q (.ref r) H'
end
end K01
end
section
namespace K01
open PySem PySem.Spec PyProof.Rows Tim L2 Wm
section
variable {P:Program} {w:World} {K:PySem.W.Frag} {mg:Str→Option Value} {base:Heap} {f fp ft fa fn fb:Addr} {fd pd td ad nd bd:FuncData}
theorem scSc:FnScope ["total","counts","times","bracket"] ["total"] (defScope (top 2)):=⟨rfl,rfl,rfl,by decide +kernel,rfl,by decide +kernel,by decide +kernel⟩
theorem ok_sc (F:At K mg "sum_counts" (top 2) ["total"] f fd) (FB:At K mg "bracket_counts" (top 3) ["bracket"] fb bd) (FC:At K mg "add_counts" (top 5) ["counts","times","added"] fp pd) (FA:At K mg "add_count" (top 6) ["counts","word","count"] fa ad) (FN:At K mg "without_noughts" (top 7) ["counts"] fn nd) (GB:FnOk P w K mg base CX0 14 fb bd ["bracket"] (spBc (cP cat) 12)) :
    FnOk P w K mg base CX0 15 f fd ["total"] (spSum K (smP cat)):=by
  have GC:FnOk P w K mg base CX0 2 fp pd ["counts","times","added"] spAdA:=ok_adA FC FA
  have GN:FnOk P w K mg base CX0 1 fn nd ["counts"] spNz:=ok_nz FN.fn
  refine F.fn.ok scSc (fun vs H Q E h=>?_) (fun cdv A outer s H vs Q E hr h=>?_)
  · obtain ⟨t,ps,T,rfl,_⟩:=h
    rfl
  obtain ⟨t,ps,T,rfl,hT,h64,h12,q⟩:=h
  have hr1:Room 1 _:=hr.mono (by omega)
  have hr2:Room 2 _:=hr.mono (by omega)
  refine ⟨_,pss_cons (ps_set (i:=1) scSc.nd rfl (Or.inl rfl) pe_dnewK)
    (pss_cons (ps_for PassesOwn.never rfl (pi_list (pv 0)) (pg_tup rfl (pgs_cons (pg_name (i:=2) scSc.nd rfl (Or.inl rfl)) (pgs_cons (pg_name (i:=3) scSc.nd rfl (Or.inl rfl)) pgs_nil)))
      (pss_one (ps_expr (pe_call GC hr2 rfl FC.m FC.k FC.b .nil pass0 (pa_cons (pv 1) (pa_cons (pv 2) (pa_cons (pe_call GB hr rfl FB.m FB.k FB.b .nil pass0 (pa_cons (pv 3) pa_nil)) pa_nil)))))))
    (pss_one (ps_ret (pe_call GN hr1 rfl FN.m FN.k FN.b .nil pass0 (pa_cons (pv 1) pa_nil))))),?_⟩
  intro c nc
  have hz:=sizeLine_eq
  have hg:∀ x∈T,(cP cat x.2).length≤2048:=fun x hx=>len2048 (len_cP x.2).1 (h12 x hx)
  refine ⟨_,rfl,t,rfl,⟨_,(new_same nc _).seq hT.1⟩,for_list (K:=K) (a:=t) (xs:=ps) (fun i σ Hx=>∃ x2 x3,σ=[some (.ref t),some (.ref c),x2,x3]∧Same H Hx∧Hx c=some (.dK (dk (outS add (cP cat) T i)))) ?_ ?_ ?_ ?_⟩
  · exact ⟨none,none,rfl,new_same nc _,upd_same⟩
  · rintro i σ Hx _ ⟨x2,x3,rfl,sx,f1⟩
    exact sx.seq hT.1
  · rintro i v σ Hx hi ⟨x2,x3,rfl,sx,f1⟩
    obtain ⟨x,p,bv,hx,rfl,hp,hb⟩:=(hT.same sx).at hi
    have hil:i < T.length:=(List.getElem?_eq_some_iff.mp hx).1
    have hm:=List.mem_of_getElem? hx
    refine ⟨p,_,rfl,.inl (.inl hp),rfl,_,_,rfl,_,_,rfl,rfl,?_⟩
    refine ⟨_,rfl,_,rfl,_,rfl,x.2,bv,rfl,hb,h12 x hm,h12 x hm,fun r H1 nr s1 er=>?_⟩
    have ncr:c≠r:=ne_of_none f1 nr
    have nr':H r=none:=sx.free nr
    have L2:=outS_len (ad:=add) len_add hg i (by omega)
    have L3:=hg x hm
    refine ⟨c,r,x.1,outS add (cP cat) T i,cP cat x.2,rfl,ncr,s1 _ _ f1,.inl er,by omega,fun p mB=>CMul.ok (mul_ok2 (abs_cP mB) (h12 x hm)),fun H2 k2 _ e2=>?_⟩
    refine ⟨_,_,rfl,fun b o e=>k2 b o (ne_of_none e nc) (ne_of_none e nr') (s1 _ _ (sx _ _ e)),?_⟩
    rw [e2,outS_succ hx]
    unfold addAll inS
    rw [List.take_length]
  · rintro σ Hx ⟨x2,x3,rfl,sx,f1⟩
    rw [hT.2.1] at f1
    have L2:=outS_len (ad:=add) len_add hg T.length (Nat.le_refl _)
    refine ⟨_,rfl,c,_,rfl,f1,by omega,fun r H' nr sr er=>q r H' (sx.free nr) (SX.same sx nc sr) ?_⟩
    rw [er]
    unfold smP outS
    rw [List.take_length]
end
end K01
end
section
namespace K01
open PySem PySem.Spec PyProof.Rows Tim L2 Wm
section
variable {P:Program} {w:World} {K:PySem.W.Frag} {mg:Str→Option Value} {base:Heap} {f fp ft fa fn fb:Addr} {fd pd td ad nd bd:FuncData}
theorem scLs:FnScope ["total","found","count","bracket","counts","word"] ["total"] (defScope (top 35)):=⟨rfl,rfl,rfl,by decide +kernel,rfl,by decide +kernel,by decide +kernel⟩
theorem ok_ls (F:At K mg "_law_of_sum" (top 35) ["total"] f fd) (FB:At K mg "_law_counts" (top 34) ["bracket"] fb bd) (FA:At K mg "_law_put" (top 32) ["counts","word","count"] fa ad) (GB:FnOk P w K mg base CX0 14 fb bd ["bracket"] (spBc (cL cat) 12)) :
    FnOk P w K mg base CX0 15 f fd ["total"] (spSum K (smL cat)):=by
  have GA:FnOk P w K mg base CX0 1 fa ad ["counts","word","count"] (spAdd lput):=ok_put FA.fn
  refine F.fn.ok scLs (fun vs H Q E h=>?_) (fun cdv A outer s H vs Q E hr h=>?_)
  · obtain ⟨t,ps,T,rfl,_⟩:=h
    rfl
  obtain ⟨t,ps,T,rfl,hT,h64,h12,q⟩:=h
  have hr1:Room 1 _:=hr.mono (by omega)
  refine ⟨_,pss_cons (ps_set (i:=1) scLs.nd rfl (Or.inl rfl) pe_dnewK)
    (pss_cons (ps_for PassesOwn.never rfl (pi_list (pv 0)) (pg_tup rfl (pgs_cons (pg_name (i:=2) scLs.nd rfl (Or.inl rfl)) (pgs_cons (pg_name (i:=3) scLs.nd rfl (Or.inl rfl)) pgs_nil)))
      (pss_cons (ps_set (i:=4) scLs.nd rfl (Or.inl rfl) (pe_call GB hr rfl FB.m FB.k FB.b .nil pass0 (pa_cons (pv 3) pa_nil)))
      (pss_one (ps_for PassesOwn.never rfl (pi_dict (pv 4)) (pg_name (i:=5) scLs.nd rfl (Or.inl rfl))
        (pss_one (ps_expr (pe_call GA hr1 rfl FA.m FA.k FA.b .nil pass0 (pa_cons (pv 1) (pa_cons (pv 5) (pa_cons (pe_op op_mul (pv 2) (pe_dget (hu_of hr) (pv 4) (pv 5) (fun _ _=>rfl))) pa_nil))))))))))
    (pss_one (ps_ret (pv 1)))),?_⟩
  intro c nc
  have hz:=sizeLine_eq
  have hg:∀ x∈T,(cL cat x.2).length≤2048:=fun x hx=>len2048 (len_cL x.2) (h12 x hx)
  refine ⟨_,rfl,t,rfl,⟨_,(new_same nc _).seq hT.1⟩,for_list (K:=K) (a:=t) (xs:=ps) (fun i σ Hx=>∃ x2 x3 x4 x5,σ=[some (.ref t),some (.ref c),x2,x3,x4,x5]∧Same H Hx∧Hx c=some (.dK (dk (outS lput (cL cat) T i)))) ?_ ?_ ?_ ?_⟩
  · exact ⟨none,none,none,none,rfl,new_same nc _,upd_same⟩
  · rintro i σ Hx _ ⟨x2,x3,x4,x5,rfl,sx,f1⟩
    exact sx.seq hT.1
  · rintro i v σ Hx hi ⟨x2,x3,x4,x5,rfl,sx,f1⟩
    obtain ⟨x,p,bv,hx,rfl,hp,hb⟩:=(hT.same sx).at hi
    have hil:i < T.length:=(List.getElem?_eq_some_iff.mp hx).1
    have hm:=List.mem_of_getElem? hx
    refine ⟨p,_,rfl,.inl (.inl hp),rfl,_,_,rfl,_,_,rfl,rfl,?_⟩
    refine ⟨_,rfl,x.2,bv,rfl,hb,h12 x hm,h12 x hm,fun r H1 nr s1 er=>?_⟩
    have ncr:c≠r:=ne_of_none f1 nr
    have nr':H r=none:=sx.free nr
    have nB:=nd_cL (op:=cat) x.2
    refine ⟨_,rfl,r,_,rfl,.inl ⟨er,fun o=>?_⟩⟩
    refine for_dict (d:=r) (o:=o) (kvs:=dk (cL cat x.2)) (fun j σ Hy=>∃ y5,σ=[some (.ref t),some (.ref c),some (.int x.1),some bv,some (.ref r),y5]∧Same H Hy∧Hy r=some (.frz o (.dK (dk (cL cat x.2))))∧Hy c=some (.dK (dk (inS lput (cL cat x.2) x.1 (outS lput (cL cat) T i) j)))) ?_ ?_ ?_ ?_
    · refine ⟨x5,rfl,upd_same2 (sx.trans s1) nr',upd_same,?_⟩
      rw [upd_ne ncr];exact s1 _ _ f1
    · rintro j σ Hy _ ⟨y5,rfl,sy,g1,g2⟩
      exact g1
    · rintro j k v σ Hy hj ⟨y5,rfl,sy,g1,g2⟩
      obtain ⟨pb,hpb,rfl,rfl⟩:=dk_get hj
      have hjl:j < (cL cat x.2).length:=(List.getElem?_eq_some_iff.mp hpb).1
      have mB:pb∈cL cat x.2:=List.mem_of_getElem? hpb
      have L1:=inS_len (ad:=lput) len_lput (cL cat x.2) x.1 (outS lput (cL cat) T i) j
      have L2:=outS_len (ad:=lput) len_lput hg i (by omega)
      have L3:=hg x hm
      have kB:look (cL cat x.2) pb.1=some pb.2:=look_of_mem nB mB
      refine ⟨_,rfl,_,rfl,_,rfl,_,rfl,_,rfl,r,_,rfl,dget_frz (.inr ⟨o,g1⟩) kB,_,_,rfl,rfl,mul_ok2 (abs_cL mB) (h12 x hm),c,_,_,_,rfl,g2,by omega,?_⟩
      refine ⟨_,rfl,upd_same2 sy nc,?_,?_⟩
      · rw [upd_ne ncr.symm];exact g1
      · rw [upd_same,inS_succ hpb]
    · rintro σ Hy ⟨y5,rfl,sy,g1,g2⟩
      refine ⟨_,_,_,_,rfl,sy,?_⟩
      rw [g2,dk_len,outS_succ hx]
  · rintro σ Hx ⟨x2,x3,x4,x5,rfl,sx,f1⟩
    rw [hT.2.1] at f1
    refine ⟨_,rfl,q c Hx nc sx ?_⟩
    rw [f1]
    unfold smL outS
    rw [List.take_length]
end
end K01
end
section
namespace K01
open PySem PySem.Spec PyProof.Rows Tim L2 Wm
theorem with_vals {d:D Str} (h:(keys d).Nodup):(keys d).map (fun w=>(w,val d w))=d:=by
  unfold keys
  rw [List.map_map]
  conv=>rhs;rw [← List.map_id d]
  refine List.map_congr_left fun p hp=>?_
  show (p.1,val d p.1)=p
  unfold val
  rw [look_of_mem h (w:=p.1) (c:=p.2) hp]
  rfl
section
variable {P:Program} {w:World} {K:PySem.W.Frag} {mg:Str→Option Value} {base:Heap} {f fp ft fa fn fb fl:Addr} {fd pd td ad nd bd ld:FuncData}
end
end K01
end
section
namespace K01
open PySem PySem.Spec PyProof.Rows Tim L2 Wm
section
variable {P:Program} {w:World} {K:PySem.W.Frag} {mg:Str→Option Value} {base:Heap} {f fo fw:Addr} {fd od wd:FuncData}
end
end K01
end
section
namespace K01
open PySem PySem.Spec PyProof.Rows Tim L2 Wm
section
variable {P:Program} {w:World} {K:PySem.W.Frag} {mg:Str→Option Value} {base:Heap} {f fs fr fb fm fd' fc:Addr} {fd sd rd bd md dd cd:FuncData}
noncomputable def spDraw:Sp:=fun vs H Q _=>∃ c k b:Int,vs=[.int c,.int k,.int b]∧0 < b∧∀ i:Int,0≤i→i < b→Q (.int i) H
theorem scDraw:FnScope ["cell","k","bound","stir"] ["cell","k","bound"] (defScope (top 26)):=⟨rfl,rfl,rfl,by decide +kernel,rfl,by decide +kernel,by decide +kernel⟩
theorem ok_draw (F:At K mg "_law_draw" (top 26) ["cell","k","bound"] f fd):FnOk P w K mg base CX0 1 f fd ["cell","k","bound"] spDraw:=by
  refine F.fn.ok scDraw (fun vs H Q E h=>?_) (fun cdv A outer s H vs Q E hr h=>?_)
  · obtain ⟨c,k,b,rfl,_⟩:=h
    rfl
  obtain ⟨c,k,b,rfl,hb,q⟩:=h
  refine ⟨_,pss_cons (ps_set (i:=3) scDraw.nd rfl (Or.inl rfl) (pe_op op_mod (pe_op op_add (pe_op op_add (pe_op op_mod (pv 0) pe_int) pe_int) (pe_op op_mul (pv 1) pe_int)) pe_int))
    (pss_cons (ps_set (i:=3) scDraw.nd rfl (Or.inl rfl) (pe_op op_mod (pe_op op_mul (pe_op op_mod (pe_op op_mul (pv 3) (pv 3)) pe_int) pe_int) pe_int))
    (pss_cons (ps_set (i:=3) scDraw.nd rfl (Or.inl rfl) (pe_op op_mod (pe_op op_mul (pe_op op_mod (pe_op op_mul (pv 3) (pv 3)) pe_int) pe_int) pe_int))
    (pss_one (ps_ret (pe_op op_mod (pe_op op_fdiv (pv 3) pe_int) (pv 2)))))),?_⟩
  have m1:=mod_lt (i:=c % 2147483629 + 1 + k * 1000003) (j:=2147483647) (by decide)
  generalize e1:(c % 2147483629 + 1 + k * 1000003) % 2147483647=s1 at m1
  refine ⟨_,rfl,_,_,rfl,rfl,(by show (0:Int) < _;decide),_,_,rfl,rfl,_,rfl,_,_,rfl,rfl,cmul_r (by decide) (by decide),_,_,rfl,rfl,_,_,rfl,rfl,(by show (0:Int) < _;decide),?_⟩
  have m2:=mod_lt (i:=s1 * s1 % 2147483647 * 48271) (j:=2147483629) (by decide)
  refine ⟨_,rfl,_,rfl,_,_,rfl,rfl,cmul_r (by rw [e1];exact m1.1) (by rw [e1];omega),_,_,rfl,rfl,(by show (0:Int) < _;decide),_,_,rfl,rfl,cmul_r (by decide) (by decide),_,_,rfl,rfl,(by show (0:Int) < _;decide),?_⟩
  refine ⟨_,rfl,_,rfl,_,_,rfl,rfl,cmul_r (by rw [e1];exact m2.1) (by rw [e1];omega),_,_,rfl,rfl,(by show (0:Int) < _;decide),_,_,rfl,rfl,cmul_r (by decide) (by decide),_,_,rfl,rfl,(by show (0:Int) < _;decide),?_⟩
  refine ⟨_,rfl,_,_,rfl,rfl,⟨by decide,by decide⟩,_,rfl,_,_,rfl,rfl,hb,q _ (mod_lt hb).1 (mod_lt hb).2⟩
end
end K01
end
section
namespace K01
open PySem PySem.Spec PyProof.Rows Tim L2 Wm
section
variable {P:Program} {w:World} {K:PySem.W.Frag} {mg:Str→Option Value} {base:Heap} {f fs fr fb fm fd' fc:Addr} {fd sd rd bd md dd cd:FuncData}
noncomputable def spBd (n:Nat):Sp:=fun vs H Q _=>∃ c m:Int,vs=[.int c,.int m]∧1≤m∧m≤(n:Int)∧m≤12∧∀ p (b:Br Str) bv (c':Int) H',Same H H'→BrV H' b bv→(b.wt:Int)=m→H' p=some (.tup [bv,.int c'])→Q (.ref p) H'
theorem scBd:FnScope ["cell","many","front","first","second"] ["cell","many"] (defScope (top 28)):=⟨rfl,rfl,rfl,by decide +kernel,rfl,by decide +kernel,by decide +kernel⟩
theorem ok_bd (F:At K mg "_law_by_digits" (top 28) ["cell","many"] f fd):∀ n:Nat,FnOk P w K mg base CX0 n f fd ["cell","many"] (spBd n)
  | 0=>fn_zero fun vs H Q E h=>by
    obtain ⟨c,m,_,h1,h2,_⟩:=h
    omega
  | n + 1=>by
    have G:=ok_bd F n
    refine F.fn.ok scBd (fun vs H Q E h=>?_) (fun cdv A outer s H vs Q E hr h=>?_)
    · obtain ⟨c,m,rfl,_⟩:=h
      rfl
    obtain ⟨c,m,rfl,h1,h2,h12,q⟩:=h
    refine ⟨_,pss_cons (ps_if (pt_cmpR op_lt (pv 1) pe_int (nomark _)) (pss_one (ps_ret (pe_tup (pa_cons (pe_item_str pe_str (pe_op op_mod (pv 0) pe_int) (fun _ _=>rfl)) (pa_cons (pe_op op_fdiv (pv 0) pe_int) pa_nil))))) pss_nil)
      (pss_cons (ps_set (i:=2) scBd.nd rfl (Or.inl rfl) (pe_op op_add pe_int (pe_op op_mod (pv 0) (pe_op op_sub (pv 1) pe_int))))
      (pss_cons (ps_asg (pe_call G hr rfl F.m F.k F.b .nil pass0 (pa_cons (pe_op op_fdiv (pv 0) (pe_op op_sub (pv 1) pe_int)) (pa_cons (pv 2) pa_nil))) (pg_tup rfl (pgs_cons (pg_name (i:=3) scBd.nd rfl (Or.inl rfl)) (pgs_cons (pg_name (i:=0) scBd.nd rfl (Or.inl rfl)) pgs_nil))))
      (pss_cons (ps_asg (pe_call G hr rfl F.m F.k F.b .nil pass0 (pa_cons (pv 0) (pa_cons (pe_op op_sub (pv 1) (pv 2)) pa_nil))) (pg_tup rfl (pgs_cons (pg_name (i:=4) scBd.nd rfl (Or.inl rfl)) (pgs_cons (pg_name (i:=0) scBd.nd rfl (Or.inl rfl)) pgs_nil))))
      (pss_one (ps_ret (pe_tup (pa_cons (pe_tup (pa_cons (pv 3) (pa_cons (pv 4) pa_nil))) (pa_cons (pv 0) pa_nil)))))))),?_⟩
    have h63:=p63
    refine ⟨_,rfl,_,_,rfl,rfl,_,rfl,?_⟩
    refine ite2 (fun e=>?_) (fun e=>?_)
    · have e:m < 2:=of_decide_eq_true e
      have m1:=mod_lt (i:=c) (j:=3) (by decide)
      obtain ⟨x,hx,ha⟩:=abc_at m1.1 m1.2
      refine ⟨_,rfl,_,_,rfl,rfl,(by show (0:Int) < _;decide),_,_,x,rfl,rfl,m1.1,by omega,by rw [abc_len];exact m1.2,hx,_,rfl,_,_,rfl,rfl,⟨by decide,by decide⟩,(by show 2≤sizeLine;decide),fun p np=>?_⟩
      exact q p (.leaf ⟨#[x]⟩) (.str ⟨#[x]⟩) _ _ (new_same np _) ⟨rfl,rfl,abc_one ha⟩ (by show ((1:Nat):Int)=m;omega) upd_same
    · have e:¬ m < 2:=of_decide_eq_false (Bool.eq_false_iff.mpr e)
      have m1:=mod_lt (i:=c) (j:=m - 1) (by omega)
      refine ⟨_,rfl,_,rfl,_,_,rfl,rfl,_,_,rfl,rfl,(by show 0 < m - 1;omega),_,_,rfl,rfl,?_⟩
      refine ⟨_,rfl,_,rfl,_,_,rfl,rfl,_,_,rfl,rfl,⟨by omega,by omega⟩,_,rfl,_,1 + c % (m - 1),rfl,by omega,by omega,by omega,fun p1 b1 v1 c1 H1 s1 hb1 w1 e1=>?_⟩
      refine ⟨p1,_,rfl,.inl (.inl e1),rfl,_,_,rfl,_,_,rfl,rfl,?_⟩
      refine ⟨_,rfl,_,rfl,_,rfl,_,_,rfl,rfl,_,m - (1 + c % (m - 1)),rfl,by omega,by omega,by omega,fun p2 b2 v2 c2 H2 s2 hb2 w2 e2=>?_⟩
      refine ⟨p2,_,rfl,.inl (.inl e2),rfl,_,_,rfl,_,_,rfl,rfl,?_⟩
      refine ⟨_,rfl,_,rfl,(by show 2≤sizeLine;decide),fun p3 n3=>⟨_,rfl,(by show 2≤sizeLine;decide),fun p4 n4=>?_⟩⟩
      have s3:=new_same n3 (.tup [v1,v2])
      have s4:=new_same n4 (.tup [V.ref p3,.int c2])
      refine q p4 (.node b1 b2) (.ref p3) c2 _ (s1.trans (s2.trans (s3.trans s4))) ⟨p3,v1,v2,rfl,s4 _ _ upd_same,hb1.same (s2.trans (s3.trans s4)),hb2.same (s3.trans s4)⟩ ?_ upd_same
      show ((b1.wt + b2.wt:Nat):Int)=m
      omega
noncomputable def spMx (n:Nat):Sp:=fun vs H Q _=>∃ c m k:Int,vs=[.int c,.int m,.int k]∧1≤m∧m≤(n:Int)∧m≤12∧∀ (b:Br Str) bv H',Same H H'→BrV H' b bv→(b.wt:Int)=m→Q bv H'
theorem scMx:FnScope ["cell","many","k","front"] ["cell","many","k"] (defScope (top 29)):=⟨rfl,rfl,rfl,by decide +kernel,rfl,by decide +kernel,by decide +kernel⟩
theorem ok_mx (F:At K mg "_law_mixed" (top 29) ["cell","many","k"] f fd) (FD:At K mg "_law_draw" (top 26) ["cell","k","bound"] fd' dd):∀ n:Nat,FnOk P w K mg base CX0 (n + 1) f fd ["cell","many","k"] (spMx n)
  | 0=>fn_zero fun vs H Q E h=>by
    obtain ⟨c,m,k,_,h1,h2,_⟩:=h
    omega
  | n + 1=>by
    have G:=ok_mx F FD n
    have GD:FnOk P w K mg base CX0 1 fd' dd ["cell","k","bound"] spDraw:=ok_draw FD
    refine F.fn.ok scMx (fun vs H Q E h=>?_) (fun cdv A outer s H vs Q E hr h=>?_)
    · obtain ⟨c,m,k,rfl,_⟩:=h
      rfl
    obtain ⟨c,m,k,rfl,h1,h2,h12,q⟩:=h
    have hr1:Room 1 _:=hr.mono (by omega)
    refine ⟨_,pss_cons (ps_if (pt_cmpR op_lt (pv 1) pe_int (nomark _)) (pss_one (ps_ret (pe_item_str pe_str (pe_call GD hr1 rfl FD.m FD.k FD.b .nil pass0 (pa_cons (pv 0) (pa_cons (pe_op op_mul pe_int (pv 2)) (pa_cons pe_int pa_nil)))) (fun _ _=>rfl)))) pss_nil)
      (pss_cons (ps_set (i:=3) scMx.nd rfl (Or.inl rfl) (pe_op op_add pe_int (pe_call GD hr1 rfl FD.m FD.k FD.b .nil pass0 (pa_cons (pv 0) (pa_cons (pe_op op_add (pe_op op_mul pe_int (pv 2)) pe_int) (pa_cons (pe_op op_sub (pv 1) pe_int) pa_nil))))))
      (pss_one (ps_ret (pe_tup (pa_cons (pe_call G hr rfl F.m F.k F.b .nil pass0 (pa_cons (pv 0) (pa_cons (pv 3) (pa_cons (pe_op op_mul pe_int (pv 2)) pa_nil))))
        (pa_cons (pe_call G hr rfl F.m F.k F.b .nil pass0 (pa_cons (pv 0) (pa_cons (pe_op op_sub (pv 1) (pv 3)) (pa_cons (pe_op op_add (pe_op op_mul pe_int (pv 2)) pe_int) pa_nil)))) pa_nil)))))),?_⟩
    have h63:=p63
    refine ⟨_,rfl,_,_,rfl,rfl,_,rfl,?_⟩
    refine ite2 (fun e=>?_) (fun e=>?_)
    · have e:m < 2:=of_decide_eq_true e
      refine ⟨_,rfl,_,rfl,_,_,rfl,rfl,cmul_l (by decide) (by decide),_,_,_,rfl,by decide,fun i i0 i3=>?_⟩
      obtain ⟨x,hx,ha⟩:=abc_at i0 i3
      refine ⟨_,_,x,rfl,rfl,i0,by omega,by rw [abc_len];exact i3,hx,?_⟩
      exact q (.leaf ⟨#[x]⟩) (.str ⟨#[x]⟩) _ (fun _ _ h=>h) ⟨rfl,rfl,abc_one ha⟩ (by show ((1:Nat):Int)=m;omega)
    · have e:¬ m < 2:=of_decide_eq_false (Bool.eq_false_iff.mpr e)
      refine ⟨_,rfl,_,rfl,_,_,rfl,rfl,cmul_l (by decide) (by decide),_,_,rfl,rfl,_,rfl,_,_,rfl,rfl,_,_,m - 1,rfl,by omega,fun i i0 i1=>?_⟩
      refine ⟨_,_,rfl,rfl,?_⟩
      refine ⟨_,rfl,_,rfl,_,rfl,_,_,rfl,rfl,cmul_l (by decide) (by decide),_,1 + i,_,rfl,by omega,by omega,by omega,fun b1 v1 H1 s1 hb1 w1=>?_⟩
      refine ⟨_,rfl,_,rfl,_,rfl,_,_,rfl,rfl,_,rfl,_,_,rfl,rfl,cmul_l (by decide) (by decide),_,_,rfl,rfl,_,m - (1 + i),_,rfl,by omega,by omega,by omega,fun b2 v2 H2 s2 hb2 w2=>?_⟩
      refine ⟨(by show 2≤sizeLine;decide),fun p3 n3=>?_⟩
      have s3:=new_same n3 (.tup [v1,v2])
      refine q (.node b1 b2) (.ref p3) _ (s1.trans (s2.trans s3)) ⟨p3,v1,v2,rfl,upd_same,hb1.same (s2.trans s3),hb2.same s3⟩ ?_
      show ((b1.wt + b2.wt:Nat):Int)=m
      omega
noncomputable def spBk (K:PySem.W.Frag):Sp:=fun vs H Q _=>∃ (a:Addr) (ns:List Int) (k m:Int),vs=[.ref a,.int k,.int m]∧SqL K H a (ns.map V.int)∧0≤k∧1≤m∧m≤12∧∀ (b:Br Str) bv H',Same H H'→BrV H' b bv→(b.wt:Int)≤m→Q bv H'
theorem scBk:FnScope ["script","at","most","cell"] ["script","at","most"] (defScope (top 30)):=⟨rfl,rfl,rfl,by decide +kernel,rfl,by decide +kernel,by decide +kernel⟩
theorem ok_bk (T:Blt mg) (F:At K mg "_law_bracket" (top 30) ["script","at","most"] f fd) (FR:At K mg "_law_raw" (top 27) ["script","k"] fr rd) (FS:At K mg "_law_stir" (top 23) ["cell"] fs sd) (FB:At K mg "_law_by_digits" (top 28) ["cell","many"] fb bd)
    (FM:At K mg "_law_mixed" (top 29) ["cell","many","k"] fm md) (FD:At K mg "_law_draw" (top 26) ["cell","k","bound"] fd' dd):FnOk P w K mg base CX0 14 f fd ["script","at","most"] (spBk K):=by
  have GR:FnOk P w K mg base CX0 1 fr rd ["script","k"] (spRaw K):=ok_raw T FR
  have GS:FnOk P w K mg base CX0 1 fs sd ["cell"] spStir:=ok_stir FS
  have GB:FnOk P w K mg base CX0 12 fb bd ["cell","many"] (spBd 12):=ok_bd FB 12
  have GM:FnOk P w K mg base CX0 13 fm md ["cell","many","k"] (spMx 12):=ok_mx FM FD 12
  refine F.fn.ok scBk (fun vs H Q E h=>?_) (fun cdv A outer s H vs Q E hr h=>?_)
  · obtain ⟨a,ns,k,m,rfl,_⟩:=h
    rfl
  obtain ⟨a,ns,k,m,rfl,hS,h0,h1,h12,q⟩:=h
  have hr1:Room 1 _:=hr.mono (by omega)
  have hr12:Room 12 _:=hr.mono (by omega)
  refine ⟨_,pss_cons (ps_set (i:=3) scBk.nd rfl (Or.inl rfl) (pe_call GR hr1 rfl FR.m FR.k FR.b .nil pass0 (pa_cons (pv 0) (pa_cons (pv 1) pa_nil))))
    (pss_cons (ps_if (pt_cmpR op_eq (pe_op op_mod (pv 3) pe_int) pe_int (nomark _)) (pss_one (ps_ret (pe_ix ix_tup (pe_call GB hr12 rfl FB.m FB.k FB.b .nil pass0 (pa_cons (pe_op op_fdiv (pe_op op_fdiv (pv 3) pe_int) (pv 2)) (pa_cons (pe_op op_add pe_int (pe_op op_mod (pe_op op_fdiv (pv 3) pe_int) (pv 2))) pa_nil))) pe_int (fun _ _=>rfl)))) pss_nil)
    (pss_cons (ps_set (i:=3) scBk.nd rfl (Or.inl rfl) (pe_call GS hr1 rfl FS.m FS.k FS.b .nil pass0 (pa_cons (pv 3) pa_nil)))
    (pss_one (ps_ret (pe_call GM hr rfl FM.m FM.k FM.b .nil pass0 (pa_cons (pe_op op_fdiv (pv 3) (pv 2)) (pa_cons (pe_op op_add pe_int (pe_op op_mod (pv 3) (pv 2))) (pa_cons pe_int pa_nil)))))))),?_⟩
  refine ⟨_,rfl,_,rfl,a,ns,k,rfl,hS,h0,fun c=>?_⟩
  refine ⟨_,rfl,_,_,rfl,rfl,(by show (0:Int) < _;decide),rfl,_,rfl,?_⟩
  refine ite2 (fun e=>?_) (fun e=>?_)
  · have m1:=mod_lt (i:=c / 2) (j:=m) (by omega)
    refine ⟨_,rfl,_,_,rfl,rfl,⟨by decide,by decide⟩,_,rfl,_,_,rfl,rfl,⟨by omega,by omega⟩,_,rfl,_,_,rfl,rfl,⟨by decide,by decide⟩,_,rfl,_,_,rfl,rfl,(by show 0 < m;omega),_,_,rfl,rfl,_,1 + c / 2 % m,rfl,by omega,by omega,by omega,fun p b bv c' H' s1 hb hw hp=>?_⟩
    exact ⟨p,_,_,_,rfl,rfl,.inl (.inl hp),rfl,q b bv H' s1 hb (by omega)⟩
  · refine ⟨_,rfl,c,rfl,fun i H1 s1=>?_⟩
    have m1:=mod_lt (i:=i) (j:=m) (by omega)
    refine ⟨_,rfl,_,rfl,_,_,rfl,rfl,⟨by omega,by omega⟩,_,rfl,_,rfl,_,_,rfl,rfl,(by show 0 < m;omega),_,_,rfl,rfl,_,1 + i % m,_,rfl,by omega,by omega,by omega,fun b bv H' s2 hb hw=>?_⟩
    exact q b bv H' (s1.trans s2) hb (by omega)
noncomputable def spSm (K:PySem.W.Frag):Sp:=fun vs H Q _=>∃ (a:Addr) (ns:List Int) (k n m:Int),vs=[.ref a,.int k,.int n,.int m]∧SqL K H a (ns.map V.int)∧0≤k∧0≤n∧n≤60∧1≤m∧m≤12 ∧
  ∀ t ps (T:List (Int×Br Str)) H',H t=none→Same H H'→H' t=some (.lst ps)→TotV K H' t ps T→(T.length:Int)≤n→(∀ x∈T,(x.2.wt:Int)≤m∧x.1.natAbs≤10 ^ 29)→Q (.ref t) H'
theorem scSm:FnScope ["script","at","tuples","most","found","k","cell","count"] ["script","at","tuples","most"] (defScope (top 31)):=⟨rfl,rfl,rfl,by decide +kernel,rfl,by decide +kernel,by decide +kernel⟩
theorem ok_sm (T:Blt mg) (F:At K mg "_law_sum" (top 31) ["script","at","tuples","most"] f fd) (FC:At K mg "_law_cell" (top 24) ["script","k"] fc cd) (FS:At K mg "_law_stir" (top 23) ["cell"] fs sd) (FB:At K mg "_law_bracket" (top 30) ["script","at","most"] fb bd) (GB:FnOk P w K mg base CX0 14 fb bd ["script","at","most"] (spBk K)) :
    FnOk P w K mg base CX0 15 f fd ["script","at","tuples","most"] (spSm K):=by
  have GC:FnOk P w K mg base CX0 2 fc cd ["script","k"] (spCell K):=ok_cell T FC FS
  refine F.fn.ok scSm (fun vs H Q E h=>?_) (fun cdv A outer s H vs Q E hr h=>?_)
  · obtain ⟨a,ns,k,n,m,rfl,_⟩:=h
    rfl
  obtain ⟨a,ns,k,n,m,rfl,hS,h0,n0,n1,h1,h12,q⟩:=h
  have hr2:Room 2 _:=hr.mono (by omega)
  refine ⟨_,pss_cons (ps_set (i:=4) scSm.nd rfl (Or.inl rfl) (pe_lst pa_nil))
    (pss_cons (ps_for PassesOwn.never rfl (pi_range1 rfl T.rng (pa_cons (pe_op op_mod (pe_call GC hr2 rfl FC.m FC.k FC.b .nil pass0 (pa_cons (pv 0) (pa_cons (pv 1) pa_nil))) (pe_op op_add (pv 2) pe_int)) pa_nil)) (pg_name (i:=5) scSm.nd rfl (Or.inl rfl))
      (pss_cons (ps_set (i:=6) scSm.nd rfl (Or.inl rfl) (pe_call GC hr2 rfl FC.m FC.k FC.b .nil pass0 (pa_cons (pv 0) (pa_cons (pe_op op_add (pe_op op_add (pv 1) pe_int) (pe_op op_mul pe_int (pv 5))) pa_nil))))
      (pss_cons (ps_set (i:=7) scSm.nd rfl (Or.inl rfl) (pe_op op_sub (pe_op op_mod (pe_op op_fdiv (pv 6) pe_int) pe_int) pe_int))
      (pss_cons (ps_if (pt_cmpR op_eq (pe_op op_mod (pv 6) pe_int) pe_int (nomark _)) (pss_one (ps_set (i:=7) scSm.nd rfl (Or.inl rfl) (pe_op op_sub (pe_op op_mod (pe_op op_fdiv (pv 6) pe_int) (pe_op op_pow pe_int pe_int)) (pe_op op_mul pe_int (pe_op op_pow pe_int pe_int))))) pss_nil)
      (pss_one (ps_expr (pe_bm PySem.F.plainAttrs_list PySem.F.slot_list_append PySem.F.type_list_append mt_append (pv 4) (pa_cons (pe_tup (pa_cons (pv 7) (pa_cons (pe_call GB hr rfl FB.m FB.k FB.b .nil pass0 (pa_cons (pv 0) (pa_cons (pe_op op_add (pe_op op_add (pv 1) pe_int) (pe_op op_mul pe_int (pv 5))) (pa_cons (pv 3) pa_nil)))) pa_nil))) pa_nil))))))))
    (pss_one (ps_ret (pv 4)))),?_⟩
  have h62:=p62
  have hz:=sizeLine_eq
  refine ⟨by show 0≤sizeLine;decide,fun t nt=>?_⟩
  have s0:=new_same nt (.lst [])
  refine ⟨_,rfl,_,rfl,a,ns,k,rfl,s0.seq hS,h0,fun c H1 s1=>?_⟩
  have m1:=mod_lt (i:=c) (j:=n + 1) (by omega)
  refine ⟨_,rfl,_,_,rfl,rfl,_,_,rfl,rfl,(by show 0 < n + 1;omega),c % (n + 1),rfl,by omega,by omega,?_⟩
  refine for_range (lo:=0) (n:=(c % (n + 1)).toNat) (fun i σ Hx=>∃ x5 x6 x7 ps,∃ TT:List (Int×Br Str),σ=[some (.ref a),some (.int k),some (.int n),some (.int m),some (.ref t),x5,x6,x7]∧Same H Hx∧Hx t=some (.lst ps)∧TotV K Hx t ps TT∧TT.length=i∧∀ x∈TT,(x.2.wt:Int)≤m∧x.1.natAbs≤10 ^ 29) ?_ ?_ ?_
  · refine ⟨none,none,none,[],[],rfl,s0.trans s1,s1 _ _ upd_same,⟨.inl (.inl (s1 _ _ upd_same)),rfl,fun i x e=>by cases e⟩,rfl,fun x hx=>by cases hx⟩
  · rintro i σ Hx hi ⟨x5,x6,x7,ps,TT,rfl,sx,xt,hT,hl,hw⟩
    refine ⟨_,rfl,_,rfl,_,_,rfl,rfl,_,rfl,_,_,rfl,rfl,cmul_l (by decide) (by decide),_,_,rfl,rfl,a,ns,_,rfl,sx.seq hS,by omega,fun g H2 s2=>?_⟩
    refine ⟨_,rfl,_,_,rfl,rfl,⟨by decide,by decide⟩,_,_,rfl,rfl,(by show (0:Int) < _;decide),_,_,rfl,rfl,?_⟩
    have fin:∀ (cnt:Int),cnt.natAbs≤10 ^ 29→tDrop (tBM K "list" rAppend (tVar 4) (tCons (tTup (tCons (tVar 7) (tCons (tCall (spBk K) [] E0 (tCons (tVar 0) (tCons (tOp (rI0 fun i j=>V.int (i + j)) (tOp (rI0 fun i j=>V.int (i + j)) (tVar 1) (tC (.int 2))) (tOp (rI CMul fun i j=>V.int (i * j)) (tC (.int 2)) (tVar 5))) (tCons (tVar 3) tNil)))) tNil))) tNil))
        { nx:=fun σ Hx=>∃ x5 x6 x7 ps,∃ TT:List (Int×Br Str),σ=[some (.ref a),some (.int k),some (.int n),some (.int m),some (.ref t),x5,x6,x7]∧Same H Hx∧Hx t=some (.lst ps)∧TotV K Hx t ps TT∧TT.length=i + 1∧∀ x∈TT,(x.2.wt:Int)≤m∧x.1.natAbs≤10 ^ 29,rt:=Q }
        [some (.ref a),some (.int k),some (.int n),some (.int m),some (.ref t),some (.int (0 + (i:Int))),some (.int g),some (.int cnt)] H2:=by
      intro cnt hcnt
      refine ⟨_,rfl,.inl ⟨rfl,_,.inl (.inl (s2 _ _ xt))⟩,_,rfl,_,rfl,_,rfl,_,_,rfl,rfl,_,rfl,_,_,rfl,rfl,cmul_l (by decide) (by decide),_,_,rfl,rfl,_,rfl,a,ns,_,m,rfl,(sx.trans s2).seq hS,by omega,h1,h12,fun b bv H3 s3 hb hbw=>?_⟩
      refine ⟨(by show 2≤sizeLine;decide),fun p np=>?_⟩
      have s4:=new_same np (.tup [.int cnt,bv])
      have xt4:=s4 _ _ (s3 _ _ (s2 _ _ xt))
      have npt:p≠t:=fun z=>by rw [z,s3 _ _ (s2 _ _ xt)] at np;cases np
      refine ⟨t,ps,_,rfl,rfl,xt4,by rw [hT.2.1];omega,?_⟩
      have sAll:Same H (upd (upd H3 p (.tup [.int cnt,bv])) t (.lst (ps++[.ref p]))):=upd_same2 (sx.trans (s2.trans (s3.trans s4))) nt
      have up:∀ q o,q≠t→(upd H3 p (.tup [.int cnt,bv])) q=some o→(upd (upd H3 p (.tup [.int cnt,bv])) t (.lst (ps++[.ref p]))) q=some o:=fun q o nq e=>by rw [upd_ne nq];exact e
      have brv:∀ {b:Br Str} {v:V},BrV (upd H3 p (.tup [.int cnt,bv])) b v→BrV (upd (upd H3 p (.tup [.int cnt,bv])) t (.lst (ps++[.ref p]))) b v:=by
        intro b
        induction b with
        | leaf x=>intro v h;exact h
        | node b1 b2 i1 i2 =>
          rintro v ⟨q,u,w,e,h,g1,g2⟩
          refine ⟨q,u,w,e,up q _ (fun z=>?_) h,i1 g1,i2 g2⟩
          rw [z,xt4] at h
          cases h
      have hT4:=hT.same (s2.trans (s3.trans s4))
      refine ⟨_,_,_,ps++[.ref p],TT++[(cnt,b)],rfl,sAll,upd_same,⟨.inl (.inl upd_same),by simp [hT.2.1],fun j x e=>?_⟩,by simp [hl],fun x hx=>?_⟩
      · by_cases hj:j < TT.length
        · rw [List.getElem?_append_left hj] at e
          obtain ⟨q,v,e1,e2,e3⟩:=hT4.2.2 j x e
          refine ⟨q,v,by rw [List.getElem?_append_left (by rw [hT.2.1];exact hj)];exact e1,up q _ (fun z=>?_) e2,brv e3⟩
          rw [z,xt4] at e2
          cases e2
        · have hjl:=(List.getElem?_eq_some_iff.mp e).1
          rw [List.length_append] at hjl
          have hj2:j=TT.length:=by simp at hjl;omega
          subst hj2
          rw [List.getElem?_append_right (Nat.le_refl _),Nat.sub_self] at e
          cases e
          refine ⟨p,bv,by rw [List.getElem?_append_right (by rw [hT.2.1];exact Nat.le_refl _),hT.2.1,Nat.sub_self];rfl,up p _ npt upd_same,brv (hb.same s4)⟩
      · rcases List.mem_append.mp hx with z | z
        · exact hw x z
        · have e:x=(cnt,b):=by simpa using z
          rw [e];exact ⟨hbw,hcnt⟩
    refine ⟨_,rfl,_,_,rfl,rfl,(by show (0:Int) < _;decide),rfl,_,rfl,?_⟩
    refine ite2 (fun e=>?_) (fun e=>?_)
    · refine ⟨_,rfl,_,_,rfl,rfl,⟨by decide,by decide⟩,_,_,rfl,rfl,⟨by decide,by decide,by decide⟩,_,_,rfl,rfl,(by show (0:Int) < _;decide),_,_,rfl,rfl,⟨by decide,by decide,by decide⟩,_,_,rfl,rfl,cmul_l (by decide) (by decide),_,_,rfl,rfl,?_⟩
      refine fin _ ?_
      have e1:(10:Int) ^ ((29:Int).toNat)=100000000000000000000000000000:=by decide
      have e2:(10:Int) ^ ((28:Int).toNat)=10000000000000000000000000000:=by decide
      have e3:(10:Nat) ^ 29=100000000000000000000000000000:=by decide
      have mm:=mod_lt (i:=g / 8) (j:=(10:Int) ^ ((29:Int).toNat)) (by decide)
      rw [e3]
      rw [e1] at mm ⊢
      rw [e2]
      omega
    · refine fin _ ?_
      have e3:(10:Nat) ^ 29=100000000000000000000000000000:=by decide
      have mm:=mod_lt (i:=g / 8) (j:=7) (by decide)
      rw [e3]
      omega
  · rintro σ Hx ⟨x5,x6,x7,ps,TT,rfl,sx,xt,hT,hl,hw⟩
    exact ⟨_,rfl,q t ps TT Hx nt sx xt hT (by omega) hw⟩
end
end K01
end
section
namespace K01
open PySem PySem.Spec PyProof.Rows Tim L2 Wm
noncomputable abbrev Ls (x:Str):List Nat:=x.cps.toList
noncomputable def mk (l:List Nat):Str:=⟨l.toArray⟩
theorem Ls_mk (l:List Nat):Ls (mk l)=l:=by simp [Ls,mk]
theorem mk_Ls (x:Str):mk (Ls x)=x:=by cases x;simp [mk,Ls]
theorem str_ext {x y:Str} (h:Ls x=Ls y):x=y:=by rw [← mk_Ls x,← mk_Ls y,h]
theorem len_Ls (x:Str):(Ls x).length=x.length:=by rw [Array.length_toList];rfl
theorem len_mk (l:List Nat):(mk l).length=l.length:=by rw [← len_Ls,Ls_mk]
theorem Ls_cat (x y:Str):Ls (x++y)=Ls x++Ls y:=by
  show (x.cps++y.cps).toList=_
  simp
theorem slice_from {x:Str} {i:Nat} (h:i≤x.length):Txt.slice x (some (i:Int)) none=mk ((Ls x).drop i):=by
  apply str_ext
  rw [Ls_mk]
  have:=sl_from (x:=x) (i:=(i:Int)) ⟨by omega,by omega⟩
  simpa using this
theorem slice_to {x:Str} {i:Nat} (h:i≤x.length):Txt.slice x none (some (i:Int))=mk ((Ls x).take i):=by
  apply str_ext
  rw [Ls_mk]
  have:=sl_to (x:=x) (j:=(i:Int)) ⟨by omega,by omega⟩
  simpa using this
theorem abc_drop {x:Str} {i:Nat} (h:Abc x):Abc (mk ((Ls x).drop i)):=fun c hc=>h c (by
  have hc:c∈Ls (mk ((Ls x).drop i)):=hc
  rw [Ls_mk] at hc
  exact List.mem_of_mem_drop hc)
theorem abc_take {x:Str} {i:Nat} (h:Abc x):Abc (mk ((Ls x).take i)):=fun c hc=>h c (by
  have hc:c∈Ls (mk ((Ls x).take i)):=hc
  rw [Ls_mk] at hc
  exact List.mem_of_mem_take hc)
theorem abc_cat {x y:Str} (h:Abc x) (g:Abc y):Abc (x++y):=fun c hc=>by
  have hc:c∈Ls (x++y):=hc
  rw [Ls_cat] at hc
  rcases List.mem_append.mp hc with z | z
  · exact h c z
  · exact g c z
theorem empty_iff {z:Str}:z=Str.ofString ""↔Ls z=[]:=by
  constructor
  · intro h;rw [h];decide +kernel
  · intro h;exact str_ext (by rw [h];decide +kernel)
theorem lk2 {x a b c:Str} {k:NameKind} (h:List.lookup x [(a,NameKind.local),(b,NameKind.local),(c,NameKind.cell)]=some k) (hk:k≠.local):x=c:=by
  rw [List.lookup_cons] at h
  split at h
  · cases h;exact absurd rfl hk
  · rw [List.lookup_cons] at h
    split at h
    · cases h;exact absurd rfl hk
    · rw [List.lookup_cons] at h
      split at h
      · rename_i e;exact eq_of_beq e
      · cases h
section
variable {P:Program} {w:World} {K:PySem.W.Frag} {mg:Str→Option Value} {base:Heap} {f fa fn ft fp fr:Addr} {fd ad nd td pd rd:FuncData}
noncomputable def spPl:Sp:=fun vs H Q _=>∃ z:Str,vs=[.str z]∧z.length≤1000∧∀ H',Same H H'→Q (.bl (MW.pl (Ls z))) H'
theorem scPl:FnScope ["word"] ["word"] (defScope (top 13)):=⟨rfl,rfl,rfl,by decide +kernel,rfl,by decide +kernel,by decide +kernel⟩
noncomputable def cPl:Scope:={ kind:=.function,names:=[(Str.ofString ".0",.local),(Str.ofString "start",.local),(Str.ofString "word",.free)],isGenerator:=false,isCoroutine:=false,more:=[] }
theorem ok_pl (T:Blt mg) (F:At K mg "is_plain" (top 13) ["word"] f fd):FnOk P w K mg base CX0 1 f fd ["word"] spPl:=by
  refine F.fn.ok scPl (fun vs H Q E h=>?_) (fun cdv A outer s H vs Q E hr h=>?_)
  · obtain ⟨z,rfl,_⟩:=h
    rfl
  obtain ⟨z,rfl,hz,q⟩:=h
  have O:CompOk (cxOf CX0 P w K mg base ["word"] "is_plain" (defScope (top 13)) f cdv A outer s H E).nox ["start","word"] cPl [(Str.ofString "word",s.heap.objs.size + 1)]:={
    clos:=rfl
    nocell:=by decide +kernel
    kind:=rfl
    names:=by decide +kernel
    sub:=fun x c e=>e
    has:=fun x h=>by
      have e:x=Str.ofString "word":=by
        rcases h with h | h
        · exact lk2 h (by decide)
        · exact lk2 h (by decide)
      subst e
      exact ⟨_,rfl⟩ }
  refine ⟨_,pss_cons (ps_if (pt_cmpR op_eq (pv 0) pe_str (nomark _)) (pss_one (ps_ret pe_bl)) pss_nil)
    (pss_one (ps_ret (pe_callB (call_all rfl) rfl T.all L2.boot_all (pa_cons (pe_compG (N':=["start","word"]) rfl O (pi_range2 rfl T.rng (pa_cons pe_int (pa_cons (pe_callB call_len_str rfl T.len PySem.boot_len (pa_cons (pv 0) pa_nil)) pa_nil))) (fun C s₀ H₀ ex pn xe=>pg_name (i:=0) (by show List.Nodup [Str.ofString "start",Str.ofString "word"];decide +kernel) rfl (.inl rfl) (.inr rfl)) (fun _ _ _ _ _ _=>pifs_nil)
      (fun C s₀ H₀ ex pn xe=>pe_cmpR op_lt_str (pv 1) (pe_slice sl_str (pv 1) (po_some (pv 0)) po_none) (nomark _))) pa_nil)))),?_⟩
  have hzl:=sizeLine_eq
  refine ⟨_,rfl,rfl,_,rfl,?_⟩
  refine ite2 (fun e=>?_) (fun e=>?_)
  · have e:z=Str.ofString "":=by
      have e:=of_decide_eq_true e
      exact V.str.inj e
    have:MW.pl (Ls z)=false:=by rw [empty_iff.mp e];rfl
    rw [this] at q
    exact q H (Same.refl _)
  · have e:Ls z≠[]:=fun y=>e (by rw [empty_iff.mpr y];rfl)
    have hl:0 < z.length:=by rw [← len_Ls];exact List.length_pos_iff.mpr e
    refine ⟨_,rfl,z,rfl,by omega,1,_,rfl,⟨by decide,by decide,by omega,by omega⟩,?_⟩
    refine ⟨[none,some (.str z)],⟨rfl,?_⟩,fun D nD=>?_⟩
    · intro i x v e1 e2
      rcases i with _ | _ | i
      · cases e2
      · cases e1
        cases e2
        exact ⟨0,rfl,rfl,rfl,rfl⟩
      · cases e1
    refine comp_rngG (g:=fun i=>.bl (decide (Ls z < (Ls z).drop (1 + i)))) (p:=fun _=>true) (by omega) nD (fun i Hx R hi sx hR=>hR _ (Same.refl _)) (fun i Hx R hi _ sx hR=>?_) fun Hx sx xD=>?_
    · refine ⟨_,rfl,_,rfl,_,rfl,_,rfl,z,rfl,by omega,z,_,rfl,rfl,?_⟩
      have e:(1:Int) + (i:Int)=((1 + i:Nat):Int):=by omega
      rw [e,slice_from (by omega)]
      have:=hR Hx (Same.refl _)
      show R (V.bl (decide (Ls z < Ls (mk _)))) Hx
      rw [Ls_mk]
      exact this
    · rw [List.filter_eq_self.mpr fun _ _=>rfl] at xD
      refine ⟨D,(List.range ((z.length:Int) - 1).toNat).map (fun i=>decide (Ls z < (Ls z).drop (1 + i))),rfl,.inl (.inl (by rw [xD,List.map_map];rfl)),?_⟩
      have:((List.range ((z.length:Int) - 1).toNat).map (fun i=>decide (Ls z < (Ls z).drop (1 + i)))).all id=MW.pl (Ls z):=by
        unfold MW.pl
        rw [List.all_map,decide_eq_true e,Bool.true_and,len_Ls]
        congr 2
        omega
      rw [this]
      exact q Hx sx
noncomputable def spRf (C:Addr):Sp:=fun vs H Q E=>∃ z:Str,vs=[.str z]∧z.length≤1000∧Abc z∧(MW.Pl (Ls z)→∀ H',Same H H'→Q .non H')∧(¬ MW.Pl (Ls z)→∀ H',Same H H'→E (.ref C) none H')
theorem scRf:FnScope ["word"] ["word"] (defScope (top 16)):=⟨rfl,rfl,rfl,by decide +kernel,rfl,by decide +kernel,by decide +kernel⟩
theorem abc_small {z:Str} (h:Abc z):∀ c∈z.cps.toList,c < 16 ^ 8:=fun c hc=>by
  have e:(16:Nat) ^ 8=4294967296:=by decide
  rcases h c hc with q | q | q <;> rw [q,e] <;> decide
theorem ok_rf {C:Addr} (T:Blt mg) (F:At K mg "refuse_unless_plain" (top 16) ["word"] f fd) (FP:At K mg "is_plain" (top 13) ["word"] fp pd) (XC:ExcAt K mg "NoWord" C) :
    FnOk P w K mg base (CXE P w) 2 f fd ["word"] (spRf C):=by
  have GP:FnOk P w K mg base CX0 1 fp pd ["word"] spPl:=ok_pl T FP
  refine F.fn.okE scRf (fun vs H Q E h=>?_) (fun cdv A outer s H vs Q E hr h=>?_)
  · obtain ⟨z,rfl,_⟩:=h
    rfl
  obtain ⟨z,rfl,hz,ha,q1,q2⟩:=h
  refine ⟨_,pss_one (ps_if (pt_not (pt_val (pe_call GP hr rfl FP.m FP.k FP.b .nil pass0 (pa_cons (pv 0) pa_nil))))
    (pss_one (ps_raise hr.hd XC rfl (pa_cons (pe_join (pj_cons pe_str (pj_cons (pe_fmtR (pv 0)) pj_nil))) pa_nil))) pss_nil),?_⟩
  have hzl:=sizeLine_eq
  refine ⟨_,rfl,z,rfl,hz,fun H1 s1=>⟨_,rfl,?_⟩⟩
  refine ite2 (fun e=>?_) (fun e=>?_)
  · have e:MW.pl (Ls z)=false:=by simpa using e
    have np:¬ MW.Pl (Ls z):=fun y=>by rw [MW.pl_true.mpr y] at e;cases e
    refine ⟨_,rfl,by decide +kernel,_,rfl,z,rfl,hz,abc_small ha,fun y hy=>⟨y,rfl,?_,?_,(by show 1≤sizeLine;decide),q2 np _ s1⟩⟩
    · have:(Str.empty++Str.ofString "not a plain word: ").length=18:=by decide +kernel
      have l:=len_cat (Str.empty++Str.ofString "not a plain word: ") y
      have l:((Str.empty++Str.ofString "not a plain word: ")++y).length=_:=l
      omega
    · have:(Str.empty++Str.ofString "not a plain word: ").length=18:=by decide +kernel
      have l:=len_cat (Str.empty++Str.ofString "not a plain word: ") y
      have l:((Str.empty++Str.ofString "not a plain word: ")++y).length=_:=l
      omega
  · have e:MW.pl (Ls z)=true:=by simpa using e
    exact q1 (MW.pl_true.mp e) _ s1
noncomputable def spCut (C:Addr):Sp:=fun vs H Q E=>∃ z:Str,vs=[.str z]∧z.length≤1000∧Abc z ∧
  (MW.Pl (Ls z)→2≤z.length→∀ p i H',MW.CutAt (Ls z) i→H p=none→Same H H'→H' p=some (.tup [.str (mk ((Ls z).take i)),.str (mk ((Ls z).drop i))])→Q (.ref p) H')∧(¬ (MW.Pl (Ls z)∧2≤z.length)→∀ H',Same H H'→E (.ref C) none H')
theorem scCut:FnScope ["word","start"] ["word"] (defScope (top 14)):=⟨rfl,rfl,rfl,by decide +kernel,rfl,by decide +kernel,by decide +kernel⟩
theorem ok_cut {C:Addr} (T:Blt mg) (F:At K mg "cut" (top 14) ["word"] f fd) (FP:At K mg "is_plain" (top 13) ["word"] fp pd) (FR:At K mg "refuse_unless_plain" (top 16) ["word"] fr rd) (XC:ExcAt K mg "NoWord" C) :
    FnOk P w K mg base (CXE P w) 3 f fd ["word"] (spCut C):=by
  have GP:FnOk P w K mg base CX0 1 fp pd ["word"] spPl:=ok_pl T FP
  have GR:FnOk P w K mg base (CXE P w) 2 fr rd ["word"] (spRf C):=ok_rf T FR FP XC
  refine F.fn.okE scCut (fun vs H Q E h=>?_) (fun cdv A outer s H vs Q E hr h=>?_)
  · obtain ⟨z,rfl,_⟩:=h
    rfl
  obtain ⟨z,rfl,hz,ha,q1,q2⟩:=h
  have hr1:Room 1 _:=hr.mono (by omega)
  refine ⟨_,pss_cons (ps_expr (pe_call GR hr rfl FR.m FR.k FR.b .nil passE (pa_cons (pv 0) pa_nil)))
    (pss_cons (ps_if (pt_cmpR op_eq (pe_callB call_len_str rfl T.len PySem.boot_len (pa_cons (pv 0) pa_nil)) pe_int (nomark _)) (pss_one (ps_raise hr.hd XC rfl (pa_cons (pe_join (pj_cons pe_str (pj_cons (pe_fmtR (pv 0)) pj_nil))) pa_nil))) pss_nil)
    (pss_cons (ps_set (i:=1) scCut.nd rfl (Or.inl rfl) pe_int)
    (pss_cons (ps_while PassesOwn.leaving (pt_not (pt_val (pe_call GP hr1 rfl FP.m FP.k FP.b .nil pass0 (pa_cons (pe_slice sl_str (pv 0) (po_some (pv 1)) po_none) pa_nil)))) (pss_one (ps_set (i:=1) scCut.nd rfl (Or.inl rfl) (pe_op op_add (pv 1) pe_int))))
    (pss_one (ps_ret (pe_tup (pa_cons (pe_slice sl_str (pv 0) po_none (po_some (pv 1))) (pa_cons (pe_slice sl_str (pv 0) (po_some (pv 1)) po_none) pa_nil)))))))),?_⟩
  have hzl:=sizeLine_eq
  refine ⟨_,rfl,z,rfl,hz,ha,fun hp H1 s1=>?_,fun hp H1 s1=>q2 (fun y=>hp y.1) H1 s1⟩
  refine ⟨_,rfl,z,rfl,by omega,rfl,_,rfl,?_⟩
  refine ite2 (fun e=>?_) (fun e=>?_)
  · have e:(z.length:Int)=1:=V.int.inj (of_decide_eq_true e)
    refine ⟨_,rfl,by decide +kernel,_,rfl,z,rfl,hz,abc_small ha,fun y hy=>⟨y,rfl,?_,?_,(by show 1≤sizeLine;decide),q2 (fun y=>by omega) _ s1⟩⟩
    · have:(Str.empty++Str.ofString "one letter has no cut: ").length=23:=by decide +kernel
      have l:=len_cat (Str.empty++Str.ofString "one letter has no cut: ") y
      have l:((Str.empty++Str.ofString "one letter has no cut: ")++y).length=_:=l
      omega
    · have:(Str.empty++Str.ofString "one letter has no cut: ").length=23:=by decide +kernel
      have l:=len_cat (Str.empty++Str.ofString "one letter has no cut: ") y
      have l:((Str.empty++Str.ofString "one letter has no cut: ")++y).length=_:=l
      omega
  · have e:¬ (z.length:Int)=1:=fun y=>e (by rw [y];rfl)
    have h0:0 < z.length:=by rw [← len_Ls];exact List.length_pos_iff.mpr hp.1
    have h2:2≤(Ls z).length:=by rw [len_Ls];omega
    obtain ⟨i,hi⟩:=MW.cut_ex h2
    have hil:=hi.2.1
    rw [len_Ls] at hil
    refine ⟨fun m σ Hx=>∃ j:Nat,m=i - j∧σ=[some (.str z),some (.int (j:Int))]∧Same H1 Hx∧0 < j∧j≤i,⟨i - 1,1,rfl,rfl,Same.refl _,by omega,hi.1⟩,?_⟩
    rintro m σ Hx ⟨j,rfl,rfl,sx,j0,ji⟩
    refine ⟨_,rfl,_,rfl,_,rfl,z,rfl,by omega,mk ((Ls z).drop j),by rw [slice_from (by omega)];rfl,?_,fun Hy sy=>⟨_,rfl,?_⟩⟩
    · rw [len_mk,List.length_drop,len_Ls];omega
    · rw [Ls_mk]
      by_cases hpj:MW.Pl ((Ls z).drop j)
      · rw [MW.pl_true.mpr hpj]
        refine iteF ?_
        have ej:j=i:=by
          rcases Nat.lt_or_ge j i with y | y
          · exact absurd hpj (hi.2.2.2 j j0 y)
          · omega
        subst ej
        refine ⟨_,rfl,_,rfl,_,rfl,z,rfl,by omega,_,rfl,_,rfl,_,rfl,z,rfl,by omega,(by show 2≤sizeLine;decide),fun p np=>?_⟩
        rw [slice_to (by omega),slice_from (by omega)]
        have s2:Same H Hy:=s1.trans (sx.trans sy)
        exact q1 hp (by omega) p j _ hi (s2.free np) (s2.trans (new_same np _)) upd_same
      · have:MW.pl ((Ls z).drop j)=false:=Bool.eq_false_iff.mpr fun y=>hpj (MW.pl_true.mp y)
        rw [this]
        refine iteT ?_
        have hji:j < i:=by
          rcases Nat.lt_or_ge j i with y | y
          · exact y
          · have:j=i:=by omega
            rw [this] at hpj
            exact absurd hi.2.2.1 hpj
        refine ⟨fun σ' H'=>∃ j':Nat,j'=j + 1∧σ'=[some (.str z),some (.int (j':Int))]∧Same H1 H',?_,_,rfl,_,_,rfl,rfl,j + 1,rfl,rfl,sx.trans sy⟩
        rintro σ' H' ⟨j',rfl,rfl,s'⟩
        exact ⟨i - (j + 1),by omega,j + 1,rfl,rfl,s',by omega,by omega⟩
end
end K01
end
section
namespace K01
open PySem PySem.Spec PyProof.Rows Tim L2 Wm
section
variable {P:Program} {w:World} {K:PySem.W.Frag} {mg:Str→Option Value} {base:Heap} {f fa fn ft fp fr fs fc:Addr} {fd ad nd td pd rd sd cd:FuncData}
theorem scLp:FnScope ["word","at"] ["word"] (defScope (top 37)):=⟨rfl,rfl,rfl,by decide +kernel,rfl,by decide +kernel,by decide +kernel⟩
theorem ok_lp (T:Blt mg) (F:At K mg "_law_is_plain" (top 37) ["word"] f fd):FnOk P w K mg base CX0 1 f fd ["word"] spPl:=by
  refine F.fn.ok scLp (fun vs H Q E h=>?_) (fun cdv A outer s H vs Q E hr h=>?_)
  · obtain ⟨z,rfl,_⟩:=h
    rfl
  obtain ⟨z,rfl,hz,q⟩:=h
  refine ⟨_,pss_cons (ps_for PassesOwn.never rfl (pi_range2 rfl T.rng (pa_cons pe_int (pa_cons (pe_callB call_len_str rfl T.len PySem.boot_len (pa_cons (pv 0) pa_nil)) pa_nil))) (pg_name (i:=1) scLp.nd rfl (Or.inl rfl))
      (pss_one (ps_if (pt_not (pt_cmpR op_lt_str (pv 0) (pe_op op_add_str (pe_slice sl_str (pv 0) (po_some (pv 1)) po_none) (pe_slice sl_str (pv 0) po_none (po_some (pv 1)))) (nomark _))) (pss_one (ps_ret pe_bl)) pss_nil)))
    (pss_one (ps_ret (pe_cmpR op_ne (pv 0) pe_str (nomark _)))),?_⟩
  have hzl:=sizeLine_eq
  have h62:=p62
  refine ⟨_,rfl,z,rfl,by omega,1,_,rfl,⟨by omega,by omega,by omega,by omega⟩,?_⟩
  refine for_range (lo:=1) (n:=((z.length:Int) - 1).toNat) (fun i σ Hx=>∃ x1,σ=[some (.str z),x1]∧Hx=H∧∀ j,0 < j→j≤i→Ls z < (Ls z).drop j++(Ls z).take j) ⟨none,rfl,rfl,fun j a b=>by omega⟩ ?_ ?_
  · rintro i σ Hx hi ⟨x1,rfl,rfl,hp⟩
    have e:(1:Int) + (i:Int)=((1 + i:Nat):Int):=by omega
    have hil:1 + i≤z.length:=by omega
    refine ⟨_,rfl,_,rfl,_,rfl,_,rfl,z,rfl,by omega,_,rfl,_,rfl,_,rfl,z,rfl,by omega,mk ((Ls z).drop (1 + i)),mk ((Ls z).take (1 + i)),by rw [e,slice_from hil],by rw [e,slice_to hil],?_,z,_,rfl,rfl,_,rfl,?_⟩
    · rw [len_mk,len_mk,List.length_drop,List.length_take,len_Ls];omega
    · have eL:(mk ((Ls z).drop (1 + i))++mk ((Ls z).take (1 + i))).cps.toList=(Ls z).drop (1 + i)++(Ls z).take (1 + i):=by
        have:=Ls_cat (mk ((Ls z).drop (1 + i))) (mk ((Ls z).take (1 + i)))
        rw [Ls_mk,Ls_mk] at this
        exact this
      rw [eL]
      refine ite2 (fun c=>?_) (fun c=>?_)
      · have c:¬ Ls z < (Ls z).drop (1 + i)++(Ls z).take (1 + i):=by simpa using c
        have np:¬ MW.Pl (Ls z):=fun y=>c ((MW.plT_of y).2 (1 + i) (by omega) (by rw [len_Ls];omega))
        have:MW.pl (Ls z)=false:=Bool.eq_false_iff.mpr fun y=>np (MW.pl_true.mp y)
        rw [this] at q
        exact q _ (Same.refl _)
      · have c:Ls z < (Ls z).drop (1 + i)++(Ls z).take (1 + i):=by simpa using c
        refine ⟨_,rfl,rfl,fun j a b=>?_⟩
        by_cases y:j=1 + i
        · rw [y];exact c
        · exact hp j a (by omega)
  · rintro σ Hx ⟨x1,rfl,rfl,hp⟩
    refine ⟨_,rfl,rfl,?_⟩
    by_cases e:z=Str.ofString ""
    · have e1:MW.pl (Ls z)=false:=by rw [empty_iff.mp e];rfl
      have e2:(!decide (V.str z=V.str (Str.ofString "")))=false:=by rw [e];simp
      rw [e1] at q
      show Q (V.bl (!decide (V.str z=V.str (Str.ofString "")))) _
      rw [e2];exact q _ (Same.refl _)
    · have ne:Ls z≠[]:=fun y=>e (empty_iff.mpr y)
      have pp:MW.Pl (Ls z):=MW.pl_of ⟨ne,fun j a b=>hp j a (by rw [len_Ls] at b;omega)⟩
      have e2:(!decide (V.str z=V.str (Str.ofString "")))=true:=by
        rw [decide_eq_false (fun y=>e (V.str.inj y))];rfl
      rw [MW.pl_true.mpr pp] at q
      show Q (V.bl (!decide (V.str z=V.str (Str.ofString "")))) _
      rw [e2];exact q _ (Same.refl _)
end
end K01
end
section
namespace K01
open PySem PySem.Spec PyProof.Rows Tim L2 Wm
inductive PB:List Nat→Br Str→Prop where
  | one (a:Nat):PB [a] (.leaf (mk [a]))
  | two {w:List Nat} {i:Nat} {b c:Br Str} (h:MW.CutAt w i) (hb:PB (w.take i) b) (hc:PB (w.drop i) c):PB w (.node b c)
theorem PB.len {w:List Nat} {b:Br Str} (h:PB w b):b.wt=w.length:=by
  induction h with
  | one a=>rfl
  | @two w i b c h hb hc ih1 ih2 =>
    show b.wt + c.wt=_
    rw [ih1,ih2,List.length_take,List.length_drop]
    have:=h.2.1
    omega
theorem PB.uni {w:List Nat} {b:Br Str} (h:PB w b):∀ {c:Br Str},PB w c→b=c:=by
  induction h with
  | one a =>
    intro c hc
    cases hc with
    | one=>rfl
    | two h _ _=>have:=h.1;have:=h.2.1;simp at this;omega
  | @two w i b1 b2 h hb hc ih1 ih2 =>
    intro c hc'
    cases hc' with
    | one=>have:=h.1;have:=h.2.1;simp at this;omega
    | two h' hb' hc' =>
      have e:=MW.cut_uni h h'
      subst e
      rw [ih1 hb',ih2 hc']
theorem pb_ex:∀ (n:Nat) (w:List Nat),w.length≤n→MW.Pl w→∃ b,PB w b
  | 0,w,h,hp=>by
    have:w=[]:=List.length_eq_zero_iff.mp (by omega)
    exact absurd this hp.1
  | n + 1,w,h,hp=>by
    by_cases h1:w.length=1
    · obtain ⟨a,rfl⟩:=List.length_eq_one_iff.mp h1
      exact ⟨_,.one a⟩
    · have h0:0 < w.length:=List.length_pos_iff.mpr hp.1
      obtain ⟨i,hi⟩:=MW.cut_ex (w:=w) (by omega)
      have:=hi.1
      have:=hi.2.1
      obtain ⟨b,hb⟩:=pb_ex n (w.take i) (by rw [List.length_take];omega) (MW.cut_plain hp hi)
      obtain ⟨c,hc⟩:=pb_ex n (w.drop i) (by rw [List.length_drop];omega) hi.2.2.1
      exact ⟨_,.two hi hb hc⟩
theorem leaf_of {z:Str} (h:z.length=1):∃ a,Ls z=[a]∧z=mk [a]:=by
  obtain ⟨a,e⟩:=List.length_eq_one_iff.mp (by rw [len_Ls];exact h)
  exact ⟨a,e,by rw [← e,mk_Ls]⟩
section
variable {P:Program} {w:World} {K:PySem.W.Frag} {mg:Str→Option Value} {base:Heap} {f fa fn ft fp fr fs fc:Addr} {fd ad nd td pd rd sd cd:FuncData}
noncomputable def spPb (C:Addr) (n:Nat):Sp:=fun vs H Q E=>∃ z:Str,vs=[.str z]∧z.length≤n∧z.length≤1000∧Abc z ∧
  (MW.Pl (Ls z)→∀ b v H',PB (Ls z) b→Same H H'→BrV H' b v→Q v H')∧(¬ MW.Pl (Ls z)→∀ H',Same H H'→E (.ref C) none H')
theorem scPb:FnScope ["word","parts"] ["word"] (defScope (top 15)):=⟨rfl,rfl,rfl,by decide +kernel,rfl,by decide +kernel,by decide +kernel⟩
theorem fn_never {CX:CXT} {k:Nat} {ps:List Str}:FnOk P w K mg base CX k f fd ps (fun _ _ _ _=>False):=⟨fun vs H Q E h=>h.elim,fun A outer s H args us vs Q E _ _ _ _ h=>h.elim⟩
theorem pb_step {C:Addr} {n k:Nat} {spG:Sp} (T:Blt mg) (F:At K mg "plain_bracket" (top 15) ["word"] f fd) (FC:At K mg "cut" (top 14) ["word"] fc cd) (FP:At K mg "is_plain" (top 13) ["word"] fp pd) (FR:At K mg "refuse_unless_plain" (top 16) ["word"] fr rd) (XC:ExcAt K mg "NoWord" C)
    (G:FnOk P w K mg base (CXE P w) k f fd ["word"] spG) (hk:4≤k) (hG:∀ (z:Str) H Q E,z.length < n→z.length≤1000→Abc z→MW.Pl (Ls z)→(∀ b v H',PB (Ls z) b→Same H H'→BrV H' b v→Q v H')→spG [.str z] H Q E) :
    FnOk P w K mg base (CXE P w) (k + 1) f fd ["word"] (spPb C n):=by
  have GC:FnOk P w K mg base (CXE P w) 3 fc cd ["word"] (spCut C):=ok_cut T FC FP FR XC
  have GR:FnOk P w K mg base (CXE P w) 2 fr rd ["word"] (spRf C):=ok_rf T FR FP XC
  refine F.fn.okE scPb (fun vs H Q E h=>?_) (fun cdv A outer s H vs Q E hr h=>?_)
  · obtain ⟨z,rfl,_⟩:=h
    rfl
  obtain ⟨z,rfl,hn,hz,ha,q1,q2⟩:=h
  have hr3:Room 3 _:=hr.mono (by omega)
  have hr2:Room 2 _:=hr.mono (by omega)
  refine ⟨_,pss_cons (ps_expr (pe_call GR hr2 rfl FR.m FR.k FR.b .nil passE (pa_cons (pv 0) pa_nil)))
    (pss_cons (ps_if (pt_cmpR op_eq (pe_callB call_len_str rfl T.len PySem.boot_len (pa_cons (pv 0) pa_nil)) pe_int (nomark _)) (pss_one (ps_ret (pv 0))) pss_nil)
    (pss_cons (ps_set (i:=1) scPb.nd rfl (Or.inl rfl) (pe_call GC hr3 rfl FC.m FC.k FC.b .nil passE (pa_cons (pv 0) pa_nil)))
    (pss_one (ps_ret (pe_tup (pa_cons (pe_call G hr rfl F.m F.k F.b .nil passE (pa_cons (pe_ix ix_tup (pv 1) pe_int (fun _ _=>rfl)) pa_nil)) (pa_cons (pe_call G hr rfl F.m F.k F.b .nil passE (pa_cons (pe_ix ix_tup (pv 1) pe_int (fun _ _=>rfl)) pa_nil)) pa_nil))))))),?_⟩
  have hzl:=sizeLine_eq
  refine ⟨_,rfl,z,rfl,hz,ha,fun hp H1 s1=>?_,fun hp H1 s1=>q2 hp H1 s1⟩
  refine ⟨_,rfl,z,rfl,by omega,rfl,_,rfl,?_⟩
  refine ite2 (fun e=>?_) (fun e=>?_)
  · have e:(z.length:Int)=1:=V.int.inj (of_decide_eq_true e)
    obtain ⟨a,e1,e2⟩:=leaf_of (z:=z) (by omega)
    refine ⟨_,rfl,q1 hp (.leaf z) (.str z) H1 (by rw [e1,e2];exact .one a) s1 ⟨rfl,by omega,ha⟩⟩
  · have e:¬ (z.length:Int)=1:=fun y=>e (by rw [y];rfl)
    have h0:0 < z.length:=by rw [← len_Ls];exact List.length_pos_iff.mpr hp.1
    refine ⟨_,rfl,z,rfl,hz,ha,fun _ h2 p i H2 hi np s2 e2=>?_,fun y=>absurd ⟨hp,by omega⟩ y⟩
    have i0:=hi.1
    have i1:=hi.2.1
    rw [len_Ls] at i1
    refine ⟨_,rfl,p,_,_,_,rfl,rfl,.inl (.inl e2),rfl,hG (mk ((Ls z).take i)) _ _ _ ?_ ?_ (abc_take ha) (by rw [Ls_mk];exact MW.cut_plain hp hi) fun b1 v1 H3 pb1 s3 hb1=>?_⟩
    · rw [len_mk,List.length_take,len_Ls];omega
    · rw [len_mk,List.length_take,len_Ls];omega
    rw [Ls_mk] at pb1
    refine ⟨_,rfl,p,_,_,_,rfl,rfl,.inl (.inl (s3 _ _ e2)),rfl,hG (mk ((Ls z).drop i)) _ _ _ ?_ ?_ (abc_drop ha) (by rw [Ls_mk];exact hi.2.2.1) fun b2 v2 H4 pb2 s4 hb2=>?_⟩
    · rw [len_mk,List.length_drop,len_Ls];omega
    · rw [len_mk,List.length_drop,len_Ls];omega
    rw [Ls_mk] at pb2
    refine ⟨(by show 2≤sizeLine;decide),fun p5 n5=>?_⟩
    have s5:=new_same n5 (.tup [v1,v2])
    exact q1 hp (.node b1 b2) (.ref p5) _ (.two hi pb1 pb2) (s1.trans (s2.trans (s3.trans (s4.trans s5)))) ⟨p5,v1,v2,rfl,upd_same,hb1.same (s4.trans s5),hb2.same s5⟩
theorem ok_pb {C:Addr} (T:Blt mg) (F:At K mg "plain_bracket" (top 15) ["word"] f fd) (FC:At K mg "cut" (top 14) ["word"] fc cd) (FP:At K mg "is_plain" (top 13) ["word"] fp pd) (FR:At K mg "refuse_unless_plain" (top 16) ["word"] fr rd) (XC:ExcAt K mg "NoWord" C) :
    ∀ n:Nat,FnOk P w K mg base (CXE P w) (n + 5) f fd ["word"] (spPb C n)
  | 0=>pb_step T F FC FP FR XC (k:=4) fn_never (Nat.le_refl _) fun z H Q E h=>by omega
  | n + 1=>pb_step T F FC FP FR XC (k:=n + 5) (ok_pb T F FC FP FR XC n) (by omega) fun z H Q E h hz ha hp q=>⟨z,rfl,by omega,hz,ha,fun _=>q,fun y=>absurd hp y⟩
noncomputable def spLb (n:Nat):Sp:=fun vs H Q E=>∃ z:Str,vs=[.str z]∧z.length≤n∧z.length≤1000∧Abc z∧MW.Pl (Ls z)∧∀ b v H',PB (Ls z) b→Same H H'→BrV H' b v→Q v H'
theorem scLb:FnScope ["word","ends"] ["word"] (defScope (top 38)):=⟨rfl,rfl,rfl,by decide +kernel,rfl,by decide +kernel,by decide +kernel⟩
noncomputable def cLb:Scope:={ kind:=.function,names:=[(Str.ofString ".0",.local),(Str.ofString "at",.local),(Str.ofString "_law_is_plain",.globalImplicit),(Str.ofString "word",.free)],isGenerator:=false,isCoroutine:=false,more:=[] }
theorem ok_lb (T:Blt mg) (F:At K mg "_law_plain_bracket" (top 38) ["word"] f fd) (FP:At K mg "_law_is_plain" (top 37) ["word"] fp pd):∀ n:Nat,FnOk P w K mg base CX0 (n + 1) f fd ["word"] (spLb n)
  | 0=>fn_zero fun vs H Q E h=>by
    obtain ⟨z,_,h,_,_,hp,_⟩:=h
    have h0:0 < z.length:=by rw [← len_Ls];exact List.length_pos_iff.mpr hp.1
    omega
  | n + 1=>by
    have G:=ok_lb T F FP n
    have GL:FnOk P w K mg base CX0 1 fp pd ["word"] spPl:=ok_lp T FP
    refine F.fn.ok scLb (fun vs H Q E h=>?_) (fun cdv A outer s H vs Q E hr h=>?_)
    · obtain ⟨z,rfl,_⟩:=h
      rfl
    obtain ⟨z,rfl,hn,hz,ha,hp,q⟩:=h
    have hr1:Room 1 _:=hr.mono (by omega)
    have O:CompOk (cxOf CX0 P w K mg base ["word","ends"] "_law_plain_bracket" (defScope (top 38)) f cdv A outer s H E).nox ["at","word"] cLb [(Str.ofString "word",s.heap.objs.size + 1)]:={
      clos:=rfl
      nocell:=by decide +kernel
      kind:=rfl
      names:=by decide +kernel
      sub:=fun x c e=>e
      has:=fun x h=>by
        have e:x=Str.ofString "word":=List.mem_singleton.mp (lk_has (l:=[(Str.ofString ".0",.local),(Str.ofString "at",.local),(Str.ofString "_law_is_plain",.globalImplicit),(Str.ofString "word",.cell)]) h (by decide +kernel))
        subst e
        exact ⟨_,rfl⟩ }
    refine ⟨_,pss_cons (ps_if (pt_cmpR op_eq (pe_callB call_len_str rfl T.len PySem.boot_len (pa_cons (pv 0) pa_nil)) pe_int (nomark _)) (pss_one (ps_ret (pv 0))) pss_nil)
      (pss_cons (ps_setComp (N' := ["at", "word"]) (i := 1) scLb.nd rfl rfl rfl O (pi_range2 rfl T.rng (pa_cons pe_int (pa_cons (pe_callB call_len_str rfl T.len PySem.boot_len (pa_cons (pv 0) pa_nil)) pa_nil))) (fun C s₀ H₀ ex pn xe => pg_name (i := 0) (by show List.Nodup [Str.ofString "at", Str.ofString "word"]; decide +kernel) rfl (.inl rfl) (.inr rfl))
            (fun _ _ _ _ _ _=>pifs_one (pt_val (pe_call GL hr1 rfl FP.m FP.k FP.b .nil pass0 (pa_cons (pe_slice sl_str (pv 1) (po_some (pv 0)) po_none) pa_nil)))) (fun _ _ _ _ _ _=>pv 0))
      (pss_one (ps_ret (pe_tup (pa_cons (pe_call G hr rfl F.m F.k F.b .nil pass0 (pa_cons (pe_slice sl_str (pv 0) po_none (po_some (pe_ix ix_list (pv 1) pe_int (fun _ _=>rfl)))) pa_nil)) (pa_cons (pe_call G hr rfl F.m F.k F.b .nil pass0 (pa_cons (pe_slice sl_str (pv 0) (po_some (pe_ix ix_list (pv 1) pe_int (fun _ _=>rfl))) po_none) pa_nil)) pa_nil)))))),?_⟩
    have hzl:=sizeLine_eq
    have h62:=p62
    refine ⟨_,rfl,z,rfl,by omega,rfl,_,rfl,?_⟩
    refine ite2 (fun e=>?_) (fun e=>?_)
    · have e:(z.length:Int)=1:=V.int.inj (of_decide_eq_true e)
      obtain ⟨a,e1,e2⟩:=leaf_of (z:=z) (by omega)
      refine ⟨_,rfl,q (.leaf z) (.str z) H (by rw [e1,e2];exact .one a) (Same.refl _) ⟨rfl,by omega,ha⟩⟩
    · have e:¬ (z.length:Int)=1:=fun y=>e (by rw [y];rfl)
      have h0:0 < z.length:=by rw [← len_Ls];exact List.length_pos_iff.mpr hp.1
      obtain ⟨i,hi⟩:=MW.cut_ex (w:=Ls z) (by rw [len_Ls];omega)
      have i0:=hi.1
      have i1:=hi.2.1
      rw [len_Ls] at i1
      refine ⟨_,rfl,z,rfl,by omega,1,_,rfl,⟨by omega,by omega,by omega,by omega⟩,?_⟩
      refine ⟨[none,some (.str z)],⟨rfl,?_⟩,fun D nD=>?_⟩
      · intro i x v e1 e2
        rcases i with _ | _ | i
        · cases e2
        · cases e1
          cases e2
          exact ⟨0,rfl,rfl,rfl,rfl⟩
        · cases e1
      refine comp_rngG (g:=fun i=>.int (1 + i)) (p:=fun i=>MW.pl ((Ls z).drop (1 + i))) (by omega) nD (fun i Hx R hi sx hR=>?_) (fun i Hx R hi _ sx hR=>⟨_,rfl,hR _ (Same.refl _)⟩) fun H6 s6 xD=>?_
      · have e:(1:Int) + (i:Int)=((1 + i:Nat):Int):=by omega
        refine ⟨_,rfl,_,rfl,_,rfl,z,rfl,by omega,mk ((Ls z).drop (1 + i)),by rw [e,slice_from (by omega)];rfl,?_,fun Hy sy=>⟨_,rfl,?_⟩⟩
        · rw [len_mk,List.length_drop,len_Ls];omega
        · rw [Ls_mk];exact hR Hy sy
      have hd:∀ m,(((List.range m).filter fun i=>MW.pl ((Ls z).drop (1 + i)))).head? = if i - 1 < m then some (i - 1) else none:=by
        intro m
        induction m with
        | zero=>rfl
        | succ m ih =>
          rw [List.range_succ,List.filter_append,List.head?_append,ih]
          by_cases h1:i - 1 < m
          · rw [if_pos h1,if_pos (by omega)];rfl
          · rw [if_neg h1]
            by_cases h2:i - 1=m
            · subst h2
              rw [if_pos (by omega)]
              have:MW.pl ((Ls z).drop (1 + (i - 1)))=true:=by rw [show 1 + (i - 1)=i by omega];exact MW.pl_true.mpr hi.2.2.1
              simp [this]
            · rw [if_neg (by omega)]
              have:MW.pl ((Ls z).drop (1 + m))=false:=Bool.eq_false_iff.mpr fun y=>hi.2.2.2 (1 + m) (by omega) (by omega) (MW.pl_true.mp y)
              simp [this]
      have at0:atI (((List.range ((z.length:Int) - 1).toNat).filter fun i=>MW.pl ((Ls z).drop (1 + i))).map fun (i:Nat)=>V.int (1 + i)) 0=some (.int (i:Int)):=by
        have h1:=hd ((z.length:Int) - 1).toNat
        rw [if_pos (by omega)] at h1
        have h2:(((List.range ((z.length:Int) - 1).toNat).filter fun i=>MW.pl ((Ls z).drop (1 + i))).map fun (i:Nat)=>V.int (1 + i))[0]? = some (.int (i:Int)):=by
          rw [List.getElem?_map,← List.head?_eq_getElem?,h1]
          show some (V.int (1 + ((i - 1:Nat):Int)))=_
          rw [show (1:Int) + ((i - 1:Nat):Int)=(i:Int) by omega]
        exact atI_nat (j:=0) h2
      refine ⟨_,rfl,_,rfl,D,_,_,_,rfl,rfl,.inl (.inl xD),at0,_,rfl,z,rfl,by omega,mk ((Ls z).take i),by rw [slice_to (by omega)];rfl,?_,?_,abc_take ha,by rw [Ls_mk];exact MW.cut_plain hp hi,fun b1 v1 H7 pb1 s7 hb1=>?_⟩
      · rw [len_mk,List.length_take,len_Ls];omega
      · rw [len_mk,List.length_take,len_Ls];omega
      rw [Ls_mk] at pb1
      refine ⟨_,rfl,_,rfl,D,_,_,_,rfl,rfl,.inl (.inl (s7 _ _ xD)),at0,_,rfl,z,rfl,by omega,mk ((Ls z).drop i),by rw [slice_from (by omega)];rfl,?_,?_,abc_drop ha,by rw [Ls_mk];exact hi.2.2.1,fun b2 v2 H8 pb2 s8 hb2=>?_⟩
      · rw [len_mk,List.length_drop,len_Ls];omega
      · rw [len_mk,List.length_drop,len_Ls];omega
      rw [Ls_mk] at pb2
      refine ⟨(by show 2≤sizeLine;decide),fun p5 n5=>?_⟩
      have s5:=new_same n5 (.tup [v1,v2])
      exact q (.node b1 b2) (.ref p5) _ (.two hi pb1 pb2) (s6.trans (s7.trans (s8.trans s5))) ⟨p5,v1,v2,rfl,upd_same,hb1.same (s8.trans s5),hb2.same s5⟩
end
end K01
end
section
namespace K01
open PySem PySem.Spec PyProof.Rows Tim L2 Wm
noncomputable def brL:Br Str→List Nat
  | .leaf x=>Ls x
  | .node a b=>brL a++brL b
theorem isum_zero {β:Type} {f:β→Int}:∀ {l:List β},(∀ p∈l,f p=0)→isum (l.map f)=0
  | [],_=>rfl
  | x :: r,h=>by
    simp only [List.map_cons,isum]
    rw [h x (List.mem_cons_self ..),isum_zero fun p hp=>h p (List.mem_cons_of_mem _ hp)]
    rfl
theorem isum_ne {β:Type} {f:β→Int} {l:List β} (h:isum (l.map f)≠0):∃ p∈l,f p≠0:=by
  refine Classical.byContradiction fun y=>h (isum_zero fun p hp=>?_)
  exact Classical.byContradiction fun z=>y ⟨p,hp,z⟩
theorem key_mem {d:D Str} {p:Str×Int} (h:p∈d):p.1∈keys d:=List.mem_map.mpr ⟨p,h,rfl⟩
theorem tw_key {a b:D Str} {x:Str} (h:x∈keys (foldL cat a b)):∃ y∈keys a,∃ z∈keys b,x=cat y z∨x=cat z y:=by
  have g:=good_foldL (op:=cat) a b
  have v:=g.2.val g.1 h
  rw [val_foldL] at v
  obtain ⟨p,hp,v⟩:=isum_ne v
  obtain ⟨q,hq,v⟩:=isum_ne v
  refine ⟨p.1,key_mem hp,q.1,key_mem hq,?_⟩
  unfold gv at v
  by_cases e1:x=cat p.1 q.1
  · exact .inl e1
  · rw [if_neg e1] at v
    by_cases e2:x=cat q.1 p.1
    · exact .inr e2
    · rw [if_neg e2] at v;exact absurd rfl v
theorem br_perm:∀ (b:Br Str) {x:Str},x∈keys (cL cat b)→(Ls x).Perm (brL b)
  | .leaf y,x,h=>by
    have:x=y:=by simpa [keys,cL] using h
    rw [this]
    exact List.Perm.refl _
  | .node l r,x,h=>by
    obtain ⟨y,hy,z,hz,e⟩:=tw_key h
    have p1:=br_perm l hy
    have p2:=br_perm r hz
    rcases e with e | e
    · rw [e]
      show (Ls (y++z)).Perm (brL l++brL r)
      rw [Ls_cat]
      exact p1.append p2
    · rw [e]
      show (Ls (z++y)).Perm (brL l++brL r)
      rw [Ls_cat]
      exact (p2.append p1).trans List.perm_append_comm
theorem br_len (b:Br Str) {x:Str} (h:x∈keys (cL cat b)):(Ls x).length=(brL b).length:=(br_perm b h).length_eq
theorem PB.lets {w:List Nat} {b:Br Str} (h:PB w b):brL b=w:=by
  induction h with
  | one a=>exact Ls_mk _
  | @two w i b c h hb hc ih1 ih2 =>
    show brL b++brL c=w
    rw [ih1,ih2,List.take_append_drop]
theorem isum_pick {d:D Str} (hn:(keys d).Nodup) (u:Str) (c:Int):isum (d.map fun p=>if p.1=u then p.2 * c else 0)=val d u * c:=by
  induction d with
  | nil=>show (0:Int)=_;unfold val;rw [look_nil];simp
  | cons p r ih =>
    have hn':(keys r).Nodup:=(List.nodup_cons.mp hn).2
    have hp:p.1 ∉ keys r:=(List.nodup_cons.mp hn).1
    simp only [List.map_cons,isum]
    rw [ih hn']
    by_cases e:p.1=u
    · rw [if_pos e]
      unfold val
      rw [look_pos e]
      have:look r u=none:=look_none.mpr (by rw [← e];exact hp)
      rw [this]
      simp
    · rw [if_neg e]
      unfold val
      rw [look_neg e]
      omega
theorem PB.words {w:List Nat} {b:Br Str} (h:PB w b):MW.Pl w→val (cL cat b) (mk w)=1∧∀ x∈keys (cL cat b),¬ Ls x < w:=by
  induction h with
  | one a =>
    intro _
    refine ⟨?_,fun x hx=>?_⟩
    · show val [(mk [a],(1:Int))] (mk [a])=1
      unfold val
      rw [look_pos rfl]
      rfl
    · have:x=mk [a]:=by simpa [keys,cL] using hx
      rw [this,Ls_mk]
      exact MW.lt_irrefl _
  | @two w i b c h hb hc ih1 ih2 =>
    intro hw
    have i0:=h.1
    have i1:=h.2.1
    have pu:=MW.cut_plain hw h
    obtain ⟨u1,u2⟩:=ih1 pu
    obtain ⟨v1,v2⟩:=ih2 h.2.2.1
    have lu:∀ x∈keys (cL cat b),(Ls x).length=i:=fun x hx=>by rw [br_len b hx,hb.lets,List.length_take];omega
    have lv:∀ x∈keys (cL cat c),(Ls x).length=w.length - i:=fun x hx=>by rw [br_len c hx,hc.lets,List.length_drop]
    have ltu:(w.take i).length=i:=by rw [List.length_take];omega
    have ltv:(w.drop i).length=w.length - i:=List.length_drop
    have late:∀ x∈keys (cL cat b),∀ y∈keys (cL cat c),w < Ls (cat y x):=fun x hx y hy=>by
      show w < Ls (y++x)
      rw [Ls_cat]
      have h1:=hw.2 i i0 i1
      have hl:(w.drop i).length≤w.length:=by omega
      have h2:=MW.lt_more h1 hl [] (Ls x)
      rw [List.append_nil] at h2
      rcases MW.tri (w.drop i) (Ls y) with z | z | z
      · exact MW.lt_trans h2 (MW.lt_more z (by rw [lv y hy,ltv];omega) _ _)
      · rw [← z];exact h2
      · exact absurd z (v2 y hy)
    refine ⟨?_,fun x hx=>?_⟩
    · show val (foldL cat (cL cat b) (cL cat c)) (mk w)=1
      rw [val_foldL]
      have key:∀ p∈cL cat b,isum ((cL cat c).map fun q=>gv cat p q (mk w))=if p.1=mk (w.take i) then p.2 * val (cL cat c) (mk (w.drop i)) else 0:=fun p hp=>by
        have h1:∀ q∈cL cat c,gv cat p q (mk w)=if q.1=mk (w.drop i) then q.2 * (if p.1=mk (w.take i) then p.2 else 0) else 0:=fun q hq=>by
          unfold gv
          have n2:¬ mk w=cat q.1 p.1:=fun e=>by
            have:=late p.1 (key_mem hp) q.1 (key_mem hq)
            rw [← e,Ls_mk] at this
            exact MW.lt_irrefl _ this
          rw [if_neg n2,Int.add_zero]
          by_cases e:mk w=cat p.1 q.1
          · have e':w=Ls p.1++Ls q.1:=by
              have:Ls (mk w)=Ls (p.1++q.1):=congrArg Ls e
              rw [Ls_mk,Ls_cat] at this
              exact this
            have a1:w.take i=Ls p.1:=by rw [e',List.take_append_of_le_length (by rw [lu _ (key_mem hp)];omega),List.take_of_length_le (by rw [lu _ (key_mem hp)];omega)]
            have a2:w.drop i=Ls q.1:=by rw [e',List.drop_append_of_le_length (by rw [lu _ (key_mem hp)];omega),List.drop_of_length_le (by rw [lu _ (key_mem hp)];omega)];rfl
            rw [if_pos e,if_pos (by rw [a2,mk_Ls]),if_pos (by rw [a1,mk_Ls]),Int.mul_comm]
          · rw [if_neg e]
            by_cases e1:q.1=mk (w.drop i)
            · rw [if_pos e1]
              by_cases e2:p.1=mk (w.take i)
              · refine absurd ?_ e
                rw [e1,e2]
                show mk w=mk (w.take i)++mk (w.drop i)
                refine str_ext ?_
                rw [Ls_cat,Ls_mk,Ls_mk,Ls_mk,List.take_append_drop]
              · rw [if_neg e2,Int.mul_zero]
            · rw [if_neg e1]
        rw [isum_map_congr h1,isum_pick (nd_cL c)]
        by_cases e2:p.1=mk (w.take i)
        · rw [if_pos e2,if_pos e2,Int.mul_comm]
        · rw [if_neg e2,if_neg e2,Int.mul_zero]
      rw [isum_map_congr key,isum_pick (nd_cL b),u1,v1]
      rfl
    · obtain ⟨y,hy,z,hz,e⟩:=tw_key hx
      rcases e with e | e
      · rw [e]
        show ¬ Ls (y++z) < w
        rw [Ls_cat]
        intro q
        rw [← List.take_append_drop i w] at q
        rcases MW.lt_of_more q (by rw [lu y hy,ltu]) with q | ⟨_,q⟩
        · exact u2 y hy q
        · exact v2 z hz q
      · rw [e]
        exact MW.lt_asymm (late y hy z hz)
end K01
end
section
namespace K01
open PySem PySem.Spec PyProof.Rows Tim L2 Wm
theorem iso:MD.Iso cat Ls mk:=⟨Ls_mk,mk_Ls,fun x y=>Ls_cat x y⟩
noncomputable def pbr (z:Str):Br Str:=open Classical in if h:∃ b,PB (Ls z) b then Classical.choose h else .leaf z
theorem pbr_pb {z:Str} (h:MW.Pl (Ls z)):PB (Ls z) (pbr z):=by
  have e:=pb_ex _ (Ls z) (Nat.le_refl _) h
  unfold pbr
  rw [dif_pos e]
  exact Classical.choose_spec e
theorem PB.lt {w:List Nat} {b:Br Str} (h:PB w b):MD.Lt Ls b:=by
  induction h with
  | one a=>exact ⟨a,Ls_mk _⟩
  | two _ _ _ i1 i2=>exact ⟨i1,i2⟩
theorem pbk:MD.PBk cat Ls mk pbr where
  one:=fun z h=>by have:=((pbr_pb h).words h).1;rw [mk_Ls] at this;exact this
  late:=fun z h=>((pbr_pb h).words h).2
  perm:=fun z h x hx=>by have:=br_perm (pbr z) hx;rw [(pbr_pb h).lets] at this;exact this
  lie:=fun z h=>MD.lie_cL iso (pbr_pb h).lt
theorem brv_lt {H:Hp}:∀ {b:Br Str} {v:V},BrV H b v→MD.Lt Ls b
  | .leaf x,v,h=>by
    have:(Ls x).length=1:=by rw [len_Ls];exact h.2.1
    obtain ⟨c,hc⟩:=List.length_eq_one_iff.mp this
    exact ⟨c,hc⟩
  | .node a b,v,⟨_,_,_,_,_,h1,h2⟩=>⟨brv_lt h1,brv_lt h2⟩
noncomputable def skS (z:Str):Str:=mk ((Ls z).mergeSort (fun a b=>decide (a≤b)))
theorem skS_perm (z:Str):(Ls (skS z)).Perm (Ls z):=by unfold skS;rw [Ls_mk];exact List.mergeSort_perm _ _
theorem srt_uni {a b:List Nat} (ha:a.Pairwise (·≤·)) (hb:b.Pairwise (·≤·)) (p:a.Perm b):a=b:=List.Perm.eq_of_pairwise (fun x y _ _ h1 h2=>Nat.le_antisymm h1 h2) ha hb p
theorem srt_ms (l:List Nat):(l.mergeSort (fun a b=>decide (a≤b))).Pairwise (·≤·):=by
  have:=List.pairwise_mergeSort (le:=fun a b:Nat=>decide (a≤b)) (fun a b c h1 h2=>decide_eq_true (Nat.le_trans (of_decide_eq_true h1) (of_decide_eq_true h2))) (fun a b=>by rcases Nat.le_total a b with h | h <;> simp [h]) l
  exact this.imp fun h=>of_decide_eq_true h
theorem skS_eq {x y:Str}:skS x=skS y↔(Ls x).Perm (Ls y):=by
  refine ⟨fun e=>?_,fun p=>?_⟩
  · have:=(skS_perm x).symm
    rw [e] at this
    exact this.trans (skS_perm y)
  · unfold skS
    rw [srt_uni (srt_ms _) (srt_ms _) ((List.mergeSort_perm _ _).trans (p.trans (List.mergeSort_perm _ _).symm))]
theorem glued_ls:∀ (ss:List Str),Ls (Builtin.Str.glued (Str.ofString "") ss)=ss.flatMap Ls:=by
  have go:∀ (ss:List Str) (acc:Array Nat),(ss.foldl (fun acc p=>acc++(Str.ofString "").cps++p.cps) acc).toList=acc.toList++ss.flatMap Ls:=by
    intro ss
    induction ss with
    | nil=>intro acc;simp
    | cons s ss ih =>
      intro acc
      rw [List.foldl_cons,ih]
      have:(Str.ofString "").cps = #[]:=by decide
      rw [this]
      simp [List.flatMap_cons]
  intro ss
  cases ss with
  | nil=>rfl
  | cons s ss =>
    show (List.foldl _ s.cps ss).toList=_
    rw [go,List.flatMap_cons]
theorem join_sorted {z:Str} {ss:List Str} (p:ss.Perm (L2.signs z)) (hs:sortedS ss=true):Builtin.Str.glued (Str.ofString "") ss=skS z:=by
  have one:∀ s∈ss,∃ c,s=⟨#[c]⟩:=fun s h=>by
    obtain ⟨c,_,e⟩:=List.mem_map.mp (p.mem_iff.mp h)
    exact ⟨c,e.symm⟩
  have pw:=sorted_all hs
  refine str_ext ?_
  rw [glued_ls]
  have h1:(ss.flatMap Ls).Perm (Ls z):=by
    refine (p.flatMap_right Ls).trans ?_
    unfold L2.signs
    rw [List.flatMap_map]
    show ((Ls z).flatMap fun c=>[c]).Perm (Ls z)
    rw [List.flatMap_singleton']
  have h2:(ss.flatMap Ls).Pairwise (·≤·):=by
    clear h1 p hs
    induction ss with
    | nil=>exact .nil
    | cons s ss ih =>
      obtain ⟨c,rfl⟩:=one s (List.mem_cons_self ..)
      have pw':=List.pairwise_cons.mp pw
      rw [List.flatMap_cons]
      refine List.pairwise_cons.mpr ⟨fun d hd=>?_,ih (fun s h=>one s (List.mem_cons_of_mem _ h)) pw'.2⟩
      obtain ⟨t,ht,hd⟩:=List.mem_flatMap.mp hd
      obtain ⟨e,rfl⟩:=one t (List.mem_cons_of_mem _ ht)
      have:d=e:=by simpa [Ls] using hd
      subst this
      have:=pw'.1 _ ht
      rcases Nat.lt_or_ge d c with q | q
      · exact absurd (show [d] < [c] from List.cons_lt_cons_iff.mpr (.inl q)) this
      · exact q
  unfold skS
  rw [Ls_mk]
  exact srt_uni h2 (srt_ms _) (h1.trans (List.mergeSort_perm _ _).symm)
end K01
end
section
namespace K01
open PySem PySem.Spec PyProof.Rows Tim L2 Wm
theorem nodup_le {α:Type} [DecidableEq α]:∀ {l m:List α},l.Nodup→(∀ x∈l,x∈m)→l.length≤m.length
  | [],m,_,_=>Nat.zero_le _
  | a :: l,m,h,hs=>by
    have hn:=List.nodup_cons.mp h
    have i:=nodup_le (l:=l) (m:=m.erase a) hn.2 fun x hx=>(List.mem_erase_of_ne (fun (e:x=a)=>hn.1 (e ▸ hx))).mpr (hs x (List.mem_cons_of_mem _ hx))
    have ha:=hs a (List.mem_cons_self ..)
    rw [List.length_erase_of_mem ha] at i
    have:=List.length_pos_of_mem ha
    rw [List.length_cons]
    omega
theorem len_words:∀ n,(MD.words n).length=3 ^ n
  | 0=>rfl
  | n + 1=>by
    unfold MD.words
    rw [List.length_flatMap]
    have e:((MD.words n).map fun w=>[97 :: w,98 :: w,99 :: w].length)=(MD.words n).map fun _=>3:=rfl
    rw [e,List.map_const',List.sum_replicate_nat,len_words n,Nat.pow_succ]
theorem part_len {x:D Str} {m:List Nat} (hn:(keys x).Nodup) (hp:∀ y∈keys x,(Ls y).Perm m) (hm:∀ c∈m,c∈[97,98,99]) (h8:m.length≤8):x.length≤6561:=by
  have h1:((keys x).map Ls).Nodup:=List.Pairwise.map _ (fun a b n e=>n (str_ext e)) hn
  have h2:=nodup_le h1 (m:=MD.words m.length) fun y hy=>by
    obtain ⟨z,hz,rfl⟩:=List.mem_map.mp hy
    have p:=hp z hz
    rw [← p.length_eq]
    exact MD.mem_words _ fun c hc=>hm c (p.mem_iff.mp hc)
  rw [len_words,List.length_map] at h2
  have h3:(keys x).length=x.length:=List.length_map _
  have h4:3 ^ m.length≤3 ^ 8:=Nat.pow_le_pow_right (by decide) h8
  have h5:3 ^ 8=6561:=by decide
  omega
theorem val_addAll {y x:D Str} (hy:(keys y).Nodup) (t:Int) (z:Str):val (addAll y t x) z=val x z + t * val y z:=by
  unfold addAll
  rw [val_fold (g:=fun q z=>if z=q.1 then t * q.2 else 0) (fun d q z=>val_add d q.1 z _),MD.val_isum hy,← MD.isum_mul]
  congr 1
  refine isum_map_congr fun q _=>?_
  by_cases e:z=q.1
  · rw [if_pos e,if_pos e.symm]
  · rw [if_neg e,if_neg (Ne.symm e),Int.mul_zero]
theorem nd_addAll {y:D Str} (t:Int):∀ {x:D Str},(keys x).Nodup→(keys (addAll y t x)).Nodup:=fun {x} h=>keep_fold (P:=fun d=>(keys d).Nodup) (fun d p hd=>nd_add hd _ _) y x h
noncomputable abbrev RIS (m:List Nat) (x f y:D Str):Prop:=MD.RI cat Ls mk pbr m x f y
noncomputable def spPc (C:Addr):Sp:=fun vs H Q E=>∃ (d:Addr) (x:D Str) (m:List Nat),vs=[.ref d]∧Rd H d (.dK (dk x))∧(keys x).Nodup∧NZ x∧(∀ y∈keys x,(Ls y).Perm m)∧(∀ c∈m,c∈[97,98,99])∧m.length≤8 ∧
  (∀ r f H',H r=none→Same H H'→H' r=some (.dK (dk f))→RIS m x f []→Q (.ref r) H')∧(¬ ML.Lie (MD.fn mk x)→∀ H',Same H H'→E (.ref C) none H')
section
variable {P:Program} {w:World} {K:PySem.W.Frag} {mg:Str→Option Value} {base:Heap} {f fa fn ft fp fr fs fc fb fi:Addr} {fd ad nd td pd rd sd cd bd id':FuncData}
theorem scPc:FnScope ["part","found","left","least","count"] ["part"] (defScope (top 21)):=⟨rfl,rfl,rfl,by decide +kernel,rfl,by decide +kernel,by decide +kernel⟩
theorem bt_dict:bootBuiltins "dict" = some (.type "dict"):=by decide +kernel
theorem ok_pc {C N:Addr} (T:Blt mg) (F:At K mg "plain_counts_of" (top 21) ["part"] f fd) (FI:At K mg "is_plain" (top 13) ["word"] fi id') (FP:At K mg "plain_bracket" (top 15) ["word"] fp pd) (FB:At K mg "bracket_counts" (top 3) ["bracket"] fb bd)
    (FS:At K mg "add_counts" (top 5) ["counts","times","added"] fs sd) (FA:At K mg "add_count" (top 6) ["counts","word","count"] fa ad) (FN:At K mg "without_noughts" (top 7) ["counts"] fn nd) (XS:ExcAt K mg "NoSum" C)
    (GB:FnOk P w K mg base (CXE P w) 13 fp pd ["word"] (spPb N 8)) (GC:FnOk P w K mg base CX0 14 fb bd ["bracket"] (spBc (cP cat) 12)) :
    FnOk P w K mg base (CXE P w) 15 f fd ["part"] (spPc C):=by
  have GP:FnOk P w K mg base CX0 1 fi id' ["word"] spPl:=ok_pl T FI
  have GS:FnOk P w K mg base CX0 2 fs sd ["counts","times","added"] spAdA:=ok_adA FS FA
  have GN:FnOk P w K mg base CX0 1 fn nd ["counts"] spNz:=ok_nz FN.fn
  refine F.fn.okE scPc (fun vs H Q E h=>?_) (fun cdv A outer s H vs Q E hr h=>?_)
  · obtain ⟨d,x,m,rfl,_⟩:=h
    rfl
  obtain ⟨d,x,m,rfl,hd,ndx,nzx,per,abc,h8,q1,q2⟩:=h
  have hr1:Room 1 _:=hr.mono (by omega)
  have hr2:Room 2 _:=hr.mono (by omega)
  have hr13:Room 13 _:=hr.mono (by omega)
  have hr14:Room 14 _:=hr.mono (by omega)
  refine ⟨_,@PSsW.out _ _ _ (w_cons ⟨ps_set (i:=1) scPc.nd rfl (Or.inl rfl) pe_dnewK⟩
    (w_cons ⟨ps_set (i:=2) scPc.nd rfl (Or.inl rfl) (pe_callTy call_dict_of rfl T.dict bt_dict (pa_cons (pv 0) pa_nil))⟩
    (w_cons ⟨ps_while PassesOwn.leaving (pt_truthD (pv 2) (fun _=>rfl))
      (pss_cons (ps_set (i:=3) scPc.nd rfl (Or.inl rfl) (pe_callB (call_min_dict rfl) rfl T.min L2.boot_min (pa_cons (pv 2) pa_nil)))
      (pss_cons (ps_if (pt_not (pt_val (pe_call GP hr1 rfl FI.m FI.k FI.b .nil pass0 (pa_cons (pv 3) pa_nil)))) (pss_one (ps_raise hr.hd XS rfl (pa_cons (pe_join (pj_cons pe_str (pj_cons (pe_fmtR (pv 3)) (pj_cons pe_str pj_nil)))) pa_nil))) pss_nil)
      (pss_cons (ps_set (i:=4) scPc.nd rfl (Or.inl rfl) (pe_dget (hu_of hr) (pv 2) (pv 3) (fun _ _=>rfl)))
      (pss_cons (ps_dput (hu_of hr) (pv 1) (pv 3) (pv 4) rfl)
      (pss_cons (ps_expr (pe_call GS hr2 rfl FS.m FS.k FS.b .nil pass0 (pa_cons (pv 2) (pa_cons (pe_un un_neg (pv 4)) (pa_cons (pe_call GC hr14 rfl FB.m FB.k FB.b .nil pass0 (pa_cons (pe_call GB hr13 rfl FP.m FP.k FP.b .nil passF (pa_cons (pv 3) pa_nil)) pa_nil)) pa_nil)))))
      (pss_one (ps_set (i:=2) scPc.nd rfl (Or.inl rfl) (pe_call GN hr1 rfl FN.m FN.k FN.b .nil pass0 (pa_cons (pv 2) pa_nil)))))))))⟩
    (w_one ⟨ps_ret (pv 1)⟩)))),?_⟩
  have hz:=sizeLine_eq
  intro r nr
  have s1:=new_same nr (.dK [])
  refine ⟨_,rfl,d,dk x,rfl,rd_same s1 hd,fun l nl=>?_⟩
  have s2:=new_same nl (.dK (dk x))
  have nrl:r≠l:=fun e=>by rw [← e,upd_same] at nl;cases nl
  refine ⟨fun n σ Hx=>∃ (g y:D Str) (y3 y4:Option V) (l:Addr),σ=[some (.ref d),some (.ref r),some (.ref l),y3,y4]∧Same H Hx∧Hx r=some (.dK (dk g))∧Hx l=some (.dK (dk y))∧r≠l∧H l=none∧RIS m x g y∧n=MD.meas Ls m.length y,⟨_,[],x,none,none,l,rfl,s1.trans s2,s2 _ _ upd_same,upd_same,nrl,s1.free nl,MD.RI.start ndx nzx per,rfl⟩,?_⟩
  rintro n σ Hx ⟨g,y,y3,y4,l,rfl,sx,hg,hl,nrl,nl,R,rfl⟩
  refine ⟨_,rfl,l,dk y,rfl,.inl hl,?_⟩
  by_cases hy:y=[]
  · subst hy
    refine iteF ?_
    exact ⟨_,rfl,q1 r g Hx nr sx hg R⟩
  have hne:(!(dk y).isEmpty)=true:=by
    cases y with
    | nil=>exact absurd rfl hy
    | cons _ _=>rfl
  rw [hne]
  refine iteT ?_
  refine ⟨fun σ' H'=>∃ m' < MD.meas Ls m.length y,∃ (g y:D Str) (y3 y4:Option V) (l:Addr),σ'=[some (.ref d),some (.ref r),some (.ref l),y3,y4]∧Same H H'∧H' r=some (.dK (dk g))∧H' l=some (.dK (dk y))∧r≠l∧H l=none∧RIS m x g y∧m'=MD.meas Ls m.length y,fun σ' H' h=>h,?_⟩
  have kne:keys y≠[]:=fun e=>hy (List.map_eq_nil_iff.mp e)
  refine ⟨_,rfl,l,_,keys y,rfl,.inl hl,dk_keys _,kne,fun v hv hmin=>?_⟩
  have pv':=R.per v hv
  have hvl:v.length≤8:=by rw [← len_Ls,pv'.length_eq];exact h8
  have hva:Abc v:=fun c hc=>by
    have:=abc c (pv'.mem_iff.mp hc)
    simpa using this
  refine ⟨_,rfl,v,rfl,by omega,fun H1 s3=>⟨_,rfl,?_⟩⟩
  have hg1:=s3 _ _ hg
  have hl1:=s3 _ _ hl
  by_cases hp:MW.Pl (Ls v)
  · rw [MW.pl_true.mpr hp]
    refine iteF ?_
    obtain ⟨c,hc⟩:∃ c,look y v=some c:=by
      cases e:look y v with
      | none=>exact absurd hv (look_none.mp e)
      | some c=>exact ⟨c,rfl⟩
    have hcv:val y v=c:=by unfold val;rw [hc];rfl
    refine ⟨_,rfl,_,rfl,l,_,rfl,dget_frz (.inl hl1) hc,?_⟩
    have ly:y.length≤6561:=part_len R.nd R.per abc h8
    have lg:g.length≤6561:=part_len R.ndf (fun x hx=>(R.plf x hx).2) abc h8
    refine ⟨_,rfl,_,rfl,_,rfl,r,_,rfl,DPut.k (k:=Sum.inr v) hg1 (by rw [dk_len];omega),?_⟩
    rw [dk_put]
    have hl2:(upd H1 r (.dK (dk (put g v c)))) l=some (.dK (dk y)):=by rw [upd_ne nrl.symm];exact hl1
    refine ⟨_,rfl,_,rfl,_,rfl,_,rfl,v,rfl,hvl,by omega,hva,fun _ b bv H3 pb s4 hb=>?_,fun hn=>absurd hp hn⟩
    have wt:b.wt≤8:=by rw [pb.len,len_Ls];exact hvl
    refine ⟨b,bv,rfl,hb,by omega,by omega,fun r5 H5 n5 s5 e5=>?_⟩
    have hl5:=s5 _ _ (s4 _ _ hl2)
    have hlen:(cP cat b).length≤2 ^ 7:=Nat.le_trans (len_cP b).1 (Nat.pow_le_pow_right (by decide) (by omega))
    refine ⟨l,r5,-c,y,cP cat b,rfl,?_,hl5,.inl e5,by omega,fun p hp=>?_,fun H6 k6 rd6 e6=>?_⟩
    · exact fun e=>by rw [e] at hl2;rw [s4 _ _ hl2] at n5;cases n5
    · exact CMul.ok (mul_ok2 (abs_cP hp) (by omega))
    have n65:(addAll (cP cat b) (-c) y).length < sizeLine:=by
      have:=inS_len (ad:=add) len_add (cP cat b) (-c) y (cP cat b).length
      unfold inS at this
      rw [List.take_length] at this
      unfold addAll
      omega
    refine ⟨_,rfl,l,_,rfl,e6,n65,fun r7 H7 n7 sx7 e7=>?_⟩
    have eb:pbr v=b:=(pbr_pb hp).uni pb
    have ndA:(keys (addAll (cP cat b) (-c) y)).Nodup:=nd_addAll (-c) R.nd
    obtain ⟨nw,R',hm⟩:=R.step (d':=nz (addAll (cP cat b) (-c) y)) iso pbk abc hp hv hmin (nd_nz ndA) (NZ_nz ndA) fun z=>by
      rw [val_nz ndA,val_addAll (nd_cP b),hcv,eb,MD.perm_val (nd_cP b) (c_perm b)]
    rw [hcv] at R'
    have h2r:(upd H1 r (.dK (dk (put g v c)))) r=some (.dK (dk (put g v c))):=upd_same
    have h5r:=s5 _ _ (s4 _ _ h2r)
    have nr5:r≠r5:=fun z=>by rw [← z,s4 _ _ h2r] at n5;cases n5
    have h6r:=k6 r _ nrl nr5 h5r
    have old:∀ z o,H z=some o→H6 z=some o:=fun z o e=>by
      have z1:=s3 _ _ (sx _ _ e)
      have zr:z≠r:=fun y=>by rw [y,nr] at e;cases e
      have z2:(upd H1 r (.dK (dk (put g v c)))) z=some o:=by rw [upd_ne zr];exact z1
      have z4:=s4 _ _ z2
      exact k6 z o (fun y=>by rw [y,nl] at e;cases e) (fun y=>by rw [y,n5] at z4;cases z4) (s5 _ _ z4)
    rw [put_new _ nw] at h6r
    refine ⟨_,hm,_,_,_,_,r7,rfl,fun z o e=>sx7 z o (fun y=>by rw [y,nl] at e;cases e) (old z o e),sx7 r _ nrl h6r,e7,(fun z=>by rw [← z,h6r] at n7;cases n7),?_,R',rfl⟩
    cases e:H r7 with
    | none=>rfl
    | some o=>rw [old _ _ e] at n7;cases n7
  · have hp':MW.pl (Ls v)=false:=Bool.eq_false_iff.mpr fun y=>hp (MW.pl_true.mp y)
    rw [hp']
    refine iteT ?_
    have nL:¬ ML.Lie (MD.fn mk x):=fun L=>hp (R.plain iso L abc h8 hv hmin)
    refine ⟨_,rfl,by decide +kernel,_,rfl,v,rfl,by omega,abc_small hva,fun t ht=>?_⟩
    have l0:(Str.empty++Str.ofString "no sum has these words: ").length=24:=by decide +kernel
    have l1:=len_cat (Str.empty++Str.ofString "no sum has these words: ") t
    have l1:((Str.empty++Str.ofString "no sum has these words: ")++t).length=_:=l1
    have l2:=len_cat ((Str.empty++Str.ofString "no sum has these words: ")++t) (Str.ofString " is left over")
    have l2:(((Str.empty++Str.ofString "no sum has these words: ")++t)++Str.ofString " is left over").length=_:=l2
    have l3:(Str.ofString " is left over").length=13:=by decide +kernel
    exact ⟨t,rfl,by omega,_,rfl,by omega,by omega,(by show 1≤sizeLine;decide),q2 nL _ (sx.trans s3)⟩
end
end K01
end
section
namespace K01
open PySem PySem.Spec PyProof.Rows Tim L2 Wm
noncomputable def kvG (G:List (Str×D Str)) (as:List Addr):List (Key×V):=List.zipWith (fun e a=>((Sum.inr e.1:Key),V.ref a)) G as
theorem kvG_some:∀ {G:List (Str×D Str)} {as:List Addr} {j:Nat} {e:Str×D Str} {a:Addr},(G.map (·.1)).Nodup→G[j]? = some e→as[j]? = some a→valV (kvG G as) (Sum.inr e.1:Key)=some (.ref a)
  | [],as,j,e,a,_,h,_=>by simp at h
  | g :: G,[],j,e,a,_,_,h=>by simp at h
  | g :: G,b :: as,0,e,a,_,h1,h2=>by
    cases h1;cases h2
    unfold valV kvG
    rw [List.zipWith_cons_cons,List.find?_cons_of_pos (by simp)]
    rfl
  | g :: G,b :: as,j + 1,e,a,hn,h1,h2=>by
    rw [List.map_cons] at hn
    have hn:=List.nodup_cons.mp hn
    have h1:G[j]? = some e:=by simpa using h1
    have h2:as[j]? = some a:=by simpa using h2
    have ne:g.1≠e.1:=fun z=>hn.1 (by rw [z];exact List.mem_map.mpr ⟨e,List.mem_of_getElem? h1,rfl⟩)
    have i:=kvG_some hn.2 h1 h2
    unfold valV kvG at i ⊢
    rw [List.zipWith_cons_cons,List.find?_cons_of_neg (by simpa using ne)]
    exact i
theorem kvG_any {G:List (Str×D Str)} {as:List Addr} (hl:as.length=G.length) (k:Str):((kvG G as).any fun kv=>decide (kv.1=(Sum.inr k:Key)))=G.any fun e=>decide (e.1=k):=by
  induction G generalizing as with
  | nil=>cases as <;> rfl
  | cons g G ih =>
    cases as with
    | nil=>simp at hl
    | cons a as =>
      unfold kvG
      rw [List.zipWith_cons_cons,List.any_cons,List.any_cons]
      have:=ih (as:=as) (by simpa using hl)
      unfold kvG at this
      rw [this]
      congr 1
      by_cases e:g.1=k
      · simp [e]
      · simp [e]
theorem kvG_none {G:List (Str×D Str)} {as:List Addr} {k:Str} (hl:as.length=G.length) (h:(G.any fun e=>decide (e.1=k))=false):valV (kvG G as) (Sum.inr k:Key)=none:=by
  rw [← kvG_any hl k] at h
  unfold valV
  rw [Option.map_eq_none_iff,List.find?_eq_none]
  intro x hx y
  rw [List.any_eq_false] at h
  exact h x hx y
theorem kvG_snoc {G:List (Str×D Str)} {as:List Addr} (hl:as.length=G.length) (e:Str×D Str) (a:Addr):kvG (G++[e]) (as++[a])=kvG G as++[((Sum.inr e.1:Key),V.ref a)]:=by
  unfold kvG
  rw [List.zipWith_append hl.symm]
  rfl
theorem kvG_keys {G G':List (Str×D Str)} (as:List Addr) (h:G'.map (·.1)=G.map (·.1)):kvG G' as=kvG G as:=by
  have e:∀ G:List (Str×D Str),kvG G as=List.zipWith (fun (k:Str) a=>((Sum.inr k:Key),V.ref a)) (G.map (·.1)) as:=fun G=>by
    unfold kvG
    rw [List.zipWith_map_left]
  rw [e,e,h]
theorem kvG_len {G:List (Str×D Str)} {as:List Addr} (hl:as.length=G.length):(kvG G as).length=G.length:=by
  unfold kvG;rw [List.length_zipWith];omega
theorem kvG_vals {G:List (Str×D Str)} {as:List Addr} (hl:as.length=G.length):(kvG G as).map (·.2)=as.map V.ref:=by
  induction G generalizing as with
  | nil=>cases as with
    | nil=>rfl
    | cons _ _=>simp at hl
  | cons g G ih =>
    cases as with
    | nil=>simp at hl
    | cons a as =>
      have:=ih (as:=as) (by simpa using hl)
      unfold kvG at this ⊢
      rw [List.zipWith_cons_cons,List.map_cons,List.map_cons,this]
structure PartsAt (H Hy:Hp) (q:Addr) (G:List (Str×D Str)) (as:List Addr):Prop where
  len:as.length=G.length
  nd:as.Nodup
  new:∀ a∈as,H a=none∧a≠q
  top:Hy q=some (.dK (kvG G as))
  at':∀ (j:Nat) e a,G[j]? = some e→as[j]? = some a→Hy a=some (.dK (dk e.2))
noncomputable def grp (x:D Str) (i:Nat):List (Str×D Str):=(x.take i).foldl (MD.gput skS) []
theorem grp_succ {x:D Str} {i:Nat} {p:Str×Int} (e:x[i]? = some p):grp x (i + 1)=MD.gput skS (grp x i) p:=by
  unfold grp;rw [List.take_add_one,e,List.foldl_append];rfl
theorem grp_ok {x:D Str} (hn:(keys x).Nodup):∀ i,i≤x.length→MD.GI skS (grp x i) (x.take i)
  | 0,_=>by unfold grp;rw [List.take_zero];exact MD.GI.nil _
  | i + 1,h=>by
    have e:x[i]? = some x[i]:=List.getElem?_eq_getElem (by omega)
    rw [grp_succ e]
    have t:x.take (i + 1)=x.take i++[x[i]]:=by rw [List.take_add_one,e];rfl
    rw [t]
    refine (grp_ok hn i (by omega)).step fun hm=>?_
    obtain ⟨p,hp,ep⟩:=List.mem_map.mp hm
    obtain ⟨j,hj,ej⟩:=List.getElem_of_mem hp
    rw [List.length_take] at hj
    rw [List.getElem_take] at ej
    have h1:(keys x)[j]'(by unfold keys;rw [List.length_map];omega)=(keys x)[i]'(by unfold keys;rw [List.length_map];omega):=by
      unfold keys
      rw [List.getElem_map,List.getElem_map,ej]
      exact ep
    have:=(List.getElem_inj hn).mp h1
    omega
theorem grp_len (x:D Str):∀ i,(grp x i).length≤i
  | 0=>by unfold grp;rw [List.take_zero];exact Nat.le_refl _
  | i + 1=>by
    have ih:=grp_len x i
    cases e:x[i]? with
    | none =>
      have hi:x.length≤i:=by
        rcases Nat.lt_or_ge i x.length with h | h
        · rw [List.getElem?_eq_getElem h] at e;cases e
        · exact h
      have:grp x (i + 1)=grp x i:=by unfold grp;rw [List.take_of_length_le (by omega),List.take_of_length_le hi]
      rw [this];omega
    | some p =>
      rw [grp_succ e]
      unfold MD.gput
      split
      · rw [List.length_map];omega
      · rw [List.length_append];simp;omega
theorem PartsAt.changed {H Hy:Hp} {q:Addr} {G:List (Str×D Str)} {as:List Addr} (p:PartsAt H Hy q G as) (hn:(G.map (·.1)).Nodup) {e:Str×Int} {j:Nat} {g:Str×D Str} {a:Addr} (hg:G[j]? = some g) (ha:as[j]? = some a) (hk:g.1=skS e.1) :
    PartsAt H (upd Hy a (.dK (dk (put g.2 e.1 e.2)))) q (MD.gput skS G e) as:=by
  have hany:(G.any fun g=>decide (g.1=skS e.1))=true:=List.any_eq_true.mpr ⟨g,List.mem_of_getElem? hg,decide_eq_true hk⟩
  have eG:MD.gput skS G e=G.map fun g=>if g.1=skS e.1 then (g.1,put g.2 e.1 e.2) else g:=by unfold MD.gput;rw [if_pos hany]
  have am:a∈as:=List.mem_of_getElem? ha
  have aq:=(p.new a am).2
  rw [eG]
  refine ⟨by rw [List.length_map];exact p.len,p.nd,p.new,?_,fun i e' b h1 h2=>?_⟩
  · rw [upd_ne aq.symm,p.top]
    congr 2
    refine (kvG_keys as ?_).symm
    rw [List.map_map]
    refine List.map_congr_left fun g _=>?_
    show (if g.1=skS e.1 then (g.1,put g.2 e.1 e.2) else g).1=g.1
    split <;> rfl
  · rw [List.getElem?_map] at h1
    cases hi:G[i]? with
    | none=>rw [hi] at h1;cases h1
    | some g' =>
      rw [hi] at h1
      have h1:(if g'.1=skS e.1 then (g'.1,put g'.2 e.1 e.2) else g')=e':=Option.some.inj h1
      by_cases ij:i=j
      · subst ij
        rw [hg] at hi
        cases hi
        rw [ha] at h2
        cases h2
        rw [upd_same,← h1,if_pos hk]
      · have hil:i < G.length:=(List.getElem?_eq_some_iff.mp hi).1
        have hjl:j < G.length:=(List.getElem?_eq_some_iff.mp hg).1
        have ne:g'.1≠skS e.1:=fun z=>ij (by
          have h3:(G.map (·.1))[i]'(by rw [List.length_map];exact hil)=(G.map (·.1))[j]'(by rw [List.length_map];exact hjl):=by
            rw [List.getElem_map,List.getElem_map,(List.getElem?_eq_some_iff.mp hi).2,(List.getElem?_eq_some_iff.mp hg).2,z,hk]
          exact (List.getElem_inj hn).mp h3)
        rw [if_neg ne] at h1
        subst h1
        have nb:b≠a:=fun z=>ij (by
          subst z
          have e1:=(List.getElem?_eq_some_iff.mp h2)
          have e2:=(List.getElem?_eq_some_iff.mp ha)
          obtain ⟨l1,e1⟩:=e1
          obtain ⟨l2,e2⟩:=e2
          exact (List.getElem_inj p.nd).mp (e1.trans e2.symm))
        rw [upd_ne nb]
        exact p.at' i g' b hi h2
theorem PartsAt.keep {H Hy Hz:Hp} {q:Addr} {G:List (Str×D Str)} {as:List Addr} (p:PartsAt H Hy q G as) (s:Same Hy Hz):PartsAt H Hz q G as:=⟨p.len,p.nd,p.new,s _ _ p.top,fun j e a h1 h2=>s _ _ (p.at' j e a h1 h2)⟩
theorem PartsAt.snoc {H Hy:Hp} {q:Addr} {G:List (Str×D Str)} {as:List Addr} (p:PartsAt H Hy q G as) {e:Str×Int} {n:Addr} (hn:H n=none) (nq:n≠q) (na:n ∉ as) (hno:(G.any fun g=>decide (g.1=skS e.1))=false) :
    PartsAt H (upd (upd Hy q (.dK (kvG G as++[((Sum.inr (skS e.1):Key),V.ref n)]))) n (.dK (dk [e]))) q (MD.gput skS G e) (as++[n]):=by
  have eG:MD.gput skS G e=G++[(skS e.1,[e])]:=by unfold MD.gput;rw [if_neg (by rw [hno];decide)]
  rw [eG]
  refine ⟨by rw [List.length_append,List.length_append,p.len];rfl,?_,fun a ha=>?_,?_,fun i e' b h1 h2=>?_⟩
  · refine List.nodup_append.mpr ⟨p.nd,by simp,fun a ha b hb=>?_⟩
    have:b=n:=by simpa using hb
    rw [this]
    exact fun (z:a=n)=>na (z ▸ ha)
  · rcases List.mem_append.mp ha with h | h
    · exact p.new a h
    · have:a=n:=by simpa using h
      rw [this];exact ⟨hn,nq⟩
  · rw [upd_ne nq.symm,upd_same,kvG_snoc p.len]
  · rcases Nat.lt_or_ge i G.length with hi | hi
    · rw [List.getElem?_append_left hi] at h1
      rw [List.getElem?_append_left (by rw [p.len];exact hi)] at h2
      have bm:=List.mem_of_getElem? h2
      rw [upd_ne (fun (z:b=n)=>na (z ▸ bm)),upd_ne (p.new b bm).2]
      exact p.at' i e' b h1 h2
    · rw [List.getElem?_append_right hi] at h1
      rw [List.getElem?_append_right (by rw [p.len];exact hi),p.len] at h2
      cases hk:i - G.length with
      | zero =>
        rw [hk] at h1 h2
        cases h1
        cases h2
        exact upd_same
      | succ m=>rw [hk] at h1;simp at h1
theorem ones_sum:∀ {l:List Str},(∀ s∈l,s.length=1)→(l.map (·.length)).sum=l.length
  | [],_=>rfl
  | s :: l,h=>by
    rw [List.map_cons,List.sum_cons,List.length_cons,ones_sum fun t ht=>h t (List.mem_cons_of_mem _ ht),h s (List.mem_cons_self ..)]
    omega
theorem signs_fit {z:Str} {ss:List Str} (p:ss.Perm (L2.signs z)) (hz:z.length < 64):(ss.map (·.length)).sum + ss.length * (Str.ofString "").length≤sizeLine:=by
  have h1:∀ s∈ss,s.length=1:=fun s h=>by
    obtain ⟨c,_,e⟩:=List.mem_map.mp (p.mem_iff.mp h)
    rw [← e];rfl
  have h2:ss.length=z.length:=by
    rw [p.length_eq];unfold L2.signs;rw [List.length_map];exact len_Ls z
  have h3:(Str.ofString "").length=0:=by decide
  have hzl:=sizeLine_eq
  rw [ones_sum h1,h3,Nat.mul_zero]
  omega
noncomputable def spPt:Sp:=fun vs H Q _=>∃ (d:Addr) (x:D Str),vs=[.ref d]∧Rd H d (.dK (dk x))∧(keys x).Nodup∧(∀ w∈keys x,w.length < 64)∧x.length < sizeLine ∧
  ∀ (l:Addr) (as:List Addr) H',as.length=(grp x x.length).length→as.Nodup→(∀ a∈as,H a=none)→H l=none→SX d H H'→Rd H' d (.dK (dk x))→H' l=some (.lst (as.map V.ref))→(∀ (j:Nat) e a,(grp x x.length)[j]? = some e→as[j]? = some a→H' a=some (.dK (dk e.2)))→Q (.ref l) H'
section
variable {P:Program} {w:World} {K:PySem.W.Frag} {mg:Str→Option Value} {base:Heap} {f:Addr} {fd:FuncData}
theorem scPt:FnScope ["counts","parts","word","count","part"] ["counts"] (defScope (top 20)):=⟨rfl,rfl,rfl,by decide +kernel,rfl,by decide +kernel,by decide +kernel⟩
theorem ok_pt (T:Blt mg) (F:At K mg "parts_by_letters" (top 20) ["counts"] f fd):FnOk P w K mg base CX0 1 f fd ["counts"] spPt:=by
  refine F.fn.ok scPt (fun vs H Q E h=>?_) (fun cdv A outer s H vs Q E hr h=>?_)
  · obtain ⟨d,x,rfl,_⟩:=h
    rfl
  obtain ⟨d,x,rfl,hd,ndx,h64,hz,qq⟩:=h
  refine ⟨_,pss_cons (ps_set (i:=1) scPt.nd rfl (Or.inl rfl) pe_dnewK)
    (pss_cons (ps_for PassesOwn.never rfl (pi_items (pv 0)) (pg_tup rfl (pgs_cons (pg_name (i:=2) scPt.nd rfl (Or.inl rfl)) (pgs_cons (pg_name (i:=3) scPt.nd rfl (Or.inl rfl)) pgs_nil)))
      (pss_cons (ps_set (i:=4) scPt.nd rfl (Or.inl rfl) (pe_bm PySem.F.plainAttrs_dict PySem.F.slot_dict_setdefault PySem.F.type_dict_setdefault mt_setdef (pv 1) (pa_cons (pe_bm PySem.F.plainAttrs_str PySem.F.slot_str_join PySem.F.type_str_join mt_join pe_str (pa_cons (pe_callB (call_sorted_str rfl) rfl T.srt bt_sorted (pa_cons (pv 2) pa_nil)) pa_nil)) (pa_cons pe_dnewK pa_nil))))
      (pss_one (ps_dput (hu_of hr) (pv 4) (pv 2) (pv 3) rfl))))
    (pss_one (ps_ret (pe_listValues rfl rfl T.lst bt_list (pv 1))))),?_⟩
  have hzl:=sizeLine_eq
  intro q nq
  have s1:=new_same nq (.dK [])
  have dq:d≠q:=by
    rcases hd with h | ⟨o,h⟩
    · exact ne_of_none h nq
    · exact ne_of_none h nq
  dsimp only [gName,tSeq]
  refine loop_items' (d:=d) rfl (rd_same s1 hd) (fun o j σ Hy=>∃ y2 y3 y4 as,σ=[some (.ref d),some (.ref q),y2,y3,y4]∧SX d H Hy∧Hy d=some (.frz o (.dK (dk x)))∧PartsAt H Hy q (grp x j) as) ?_ ?_ ?_ ?_
  · intro o H3 e3 k3 _
    refine ⟨none,none,none,[],rfl,fun b o n e=>by rw [k3 b n];exact s1 _ _ e,e3,rfl,List.nodup_nil,fun a h=>(by cases h),by rw [k3 q dq.symm,upd_same];rfl,fun j e a h _=>?_⟩
    simp [grp] at h
  · rintro o j σ Hy ⟨y2,y3,y4,as,rfl,sy,g1,g2⟩
    exact g1
  · rintro o j k v tb σ Hy hj htb ⟨y2,y3,y4,as,rfl,sy,g1,g2⟩
    obtain ⟨pb,hpb,rfl,rfl⟩:=dk_get hj
    have hjl:j < x.length:=(List.getElem?_eq_some_iff.mp hpb).1
    have sb:=new_same htb (.tup [kV (Sum.inr pb.1),.int pb.2])
    have gi:=grp_ok ndx j (by omega)
    have gl:=grp_len x j
    have hw:pb.1.length < 64:=h64 pb.1 (List.mem_map.mpr ⟨pb,List.mem_of_getElem? hpb,rfl⟩)
    refine ⟨tb,_,rfl,.inl (.inl upd_same),rfl,_,_,rfl,_,_,rfl,rfl,?_⟩
    have p0:=g2.keep sb
    refine ⟨_,rfl,.inr (.inr (.inl ⟨rfl,.inl ⟨_,p0.top⟩⟩)),rfl,_,rfl,pb.1,rfl,hw,fun a1 ss n1 p1 t1=>?_⟩
    have sa:=new_same n1 (.lst (ss.map V.str))
    refine ⟨Str.ofString "",a1,ss,rfl,rfl,.inl (.inl upd_same),signs_fit p1 hw,?_⟩
    rw [join_sorted p1 t1]
    intro n nn
    have sn:=new_same nn (.dK [])
    have p3:=(p0.keep sa).keep sn
    have sxy:SX d H (upd (upd (upd Hy tb (.tup [kV (Sum.inr pb.1),.int pb.2])) a1 (.lst (ss.map V.str))) n (.dK [])):=fun b o' nb e=>sn _ _ (sa _ _ (sb _ _ (sy b o' nb e)))
    have gx:=sn _ _ (sa _ _ (sb _ _ g1))
    revert p3 sxy gx
    generalize hHz:upd (upd (upd Hy tb (.tup [kV (Sum.inr pb.1),.int pb.2])) a1 (.lst (ss.map V.str))) n (.dK [])=Hz
    intro p3 sxy gx
    have zn:Hz n=some (.dK []):=by rw [← hHz];exact upd_same
    have kl:=kvG_len (G:=grp x j) (as:=as) g2.len
    have fin:∀ (z4:Option V) (as':List Addr) (Hw:Hp),SX d H Hw→Hw d=some (.frz o (.dK (dk x)))→PartsAt H Hw q (MD.gput skS (grp x j) pb) as' →
        ∃ y2 y3 y4 as,[some (V.ref d),some (.ref q),some (kV (Sum.inr pb.1)),some (.int pb.2),z4]=[some (V.ref d),some (.ref q),y2,y3,y4]∧SX d H Hw∧Hw d=some (.frz o (.dK (dk x)))∧PartsAt H Hw q (grp x (j + 1)) as:=fun z4 as' Hw h1 h2 h3 =>
      ⟨_,_,z4,as',rfl,h1,h2,by rw [grp_succ hpb];exact h3⟩
    refine ⟨q,kvG (grp x j) as,Sum.inr (skS pb.1),.ref n,rfl,rfl,p3.top,by omega,fun v hv=>?_,fun hv=>?_⟩
    · have hany:((grp x j).any fun g=>decide (g.1=skS pb.1))=true:=by
        refine Bool.of_not_eq_false fun y=>?_
        rw [kvG_none g2.len y] at hv
        cases hv
      obtain ⟨g,hg,hk⟩:=List.any_eq_true.mp hany
      have hk:g.1=skS pb.1:=of_decide_eq_true hk
      obtain ⟨i,hi⟩:=List.getElem?_of_mem hg
      have il:=(List.getElem?_eq_some_iff.mp hi).1
      obtain ⟨a,ha⟩:∃ a,as[i]? = some a:=⟨_,List.getElem?_eq_getElem (by rw [g2.len];exact il)⟩
      have ev:=kvG_some gi.nd hi ha
      rw [hk,hv] at ev
      cases ev
      have za:=p3.at' i g a hi ha
      have ad:a≠d:=fun z=>by rw [z,gx] at za;cases za
      have gl2:g.2.length≤j:=by
        rw [gi.part g hg]
        exact Nat.le_trans (List.length_filter_le _ _) (List.length_take_le _ _)
      refine ⟨_,rfl,_,rfl,_,rfl,a,_,rfl,DPut.k (k:=Sum.inr pb.1) za (by rw [dk_len];omega),?_⟩
      rw [dk_put]
      refine fin (some (.ref a)) as _ (fun b o' nb e=>?_) (by rw [upd_ne ad.symm];exact gx) (p3.changed gi.nd hi ha hk)
      have ba:b≠a:=fun z=>by rw [z,(g2.new a (List.mem_of_getElem? ha)).1] at e;cases e
      rw [upd_ne ba]
      exact sxy b o' nb e
    · have hno:((grp x j).any fun g=>decide (g.1=skS pb.1))=false:=by
        refine Bool.eq_false_iff.mpr fun y=>?_
        obtain ⟨g,hg,hk⟩:=List.any_eq_true.mp y
        obtain ⟨i,hi⟩:=List.getElem?_of_mem hg
        have il:=(List.getElem?_eq_some_iff.mp hi).1
        obtain ⟨a,ha⟩:∃ a,as[i]? = some a:=⟨_,List.getElem?_eq_getElem (by rw [g2.len];exact il)⟩
        have ev:=kvG_some gi.nd hi ha
        rw [of_decide_eq_true hk,hv] at ev
        cases ev
      have ep:putK (kvG (grp x j) as) (Sum.inr (skS pb.1):Key) (.ref n)=kvG (grp x j) as++[((Sum.inr (skS pb.1):Key),V.ref n)]:=by
        unfold putK
        rw [kvG_any g2.len,hno,if_neg (by decide)]
      rw [ep]
      have nq':n≠q:=fun z=>by rw [z,(p0.keep sa).top] at nn;cases nn
      have na:n ∉ as:=fun h=>by
        obtain ⟨i,hi⟩:=List.getElem?_of_mem h
        have il:=(List.getElem?_eq_some_iff.mp hi).1
        obtain ⟨g,hg⟩:∃ g,(grp x j)[i]? = some g:=⟨_,List.getElem?_eq_getElem (by rw [← g2.len];exact il)⟩
        rw [(p0.keep sa).at' i g n hg hi] at nn
        cases nn
      have nd':n≠d:=fun z=>by rw [z,sa _ _ (sb _ _ g1)] at nn;cases nn
      have hn0:H n=none:=by
        cases e:H n with
        | none=>rfl
        | some o'=>rw [sa _ _ (sb _ _ (sy n o' nd' e))] at nn;cases nn
      refine ⟨_,rfl,_,rfl,_,rfl,n,_,rfl,DPut.k (k:=Sum.inr pb.1) (kvs:=dk []) (by rw [upd_ne nq'];exact zn) (by rw [dk_len];show 0 < sizeLine;omega),?_⟩
      rw [dk_put]
      have e1:dk (put ([]:D Str) pb.1 pb.2)=dk [pb]:=rfl
      rw [e1]
      refine fin (some (.ref n)) (as++[n]) _ (fun b o' nb e=>?_) (by rw [upd_ne nd'.symm,upd_ne dq];exact gx) (p3.snoc hn0 nq' na hno)
      have bn:b≠n:=fun z=>by rw [z,hn0] at e;cases e
      have bq:b≠q:=fun z=>by rw [z,nq] at e;cases e
      rw [upd_ne bn,upd_ne bq]
      exact sxy b o' nb e
  · rintro o σ Hy ⟨y2,y3,y4,as,rfl,sy,g1,g2⟩
    rw [dk_len] at g2
    refine ⟨_,rfl,q,_,rfl,.inl g2.top,fun l nl=>?_⟩
    have sl:=new_same nl (.lst ((kvG (grp x x.length) as).map (·.2)))
    have qd:∀ a∈as,a≠d:=fun a ha e=>by
      have:=(g2.new a ha).1
      rw [e] at this
      rcases hd with h | ⟨_,h⟩ <;> rw [h] at this <;> cases this
    refine qq l as _ g2.len g2.nd (fun a ha=>(g2.new a ha).1) ?_ (fun b o' nb e=>sl _ _ (sy b o' nb e)) (.inr ⟨o,sl _ _ g1⟩) (by rw [upd_same,kvG_vals g2.len]) fun j e a h1 h2=>sl _ _ (g2.at' j e a h1 h2)
    cases e:H l with
    | none=>rfl
    | some o' =>
      have:l≠d:=fun z=>by rw [z,g1] at nl;cases nl
      rw [sy l o' this e] at nl;cases nl
end
end K01
end
section
namespace K01
open PySem PySem.Spec PyProof.Rows Tim L2 Wm
theorem made_append (f g:D Str) (z:Str):MD.made cat pbr (f++g) z=MD.made cat pbr f z + MD.made cat pbr g z:=by
  unfold MD.made;rw [List.map_append,isum_append]
theorem grp_key {x:D Str}:∀ (i:Nat) (e:Str×D Str),e∈grp x i→∃ p∈x,e.1=skS p.1
  | 0,e,h=>by unfold grp at h;rw [List.take_zero] at h;cases h
  | i + 1,e,h=>by
    cases hi:x[i]? with
    | none =>
      have hl:x.length≤i:=by
        rcases Nat.lt_or_ge i x.length with q | q
        · rw [List.getElem?_eq_getElem q] at hi;cases hi
        · exact q
      have:grp x (i + 1)=grp x i:=by unfold grp;rw [List.take_of_length_le (by omega),List.take_of_length_le hl]
      rw [this] at h
      exact grp_key i e h
    | some p =>
      rw [grp_succ hi] at h
      unfold MD.gput at h
      split at h
      · obtain ⟨g,hg,he⟩:=List.mem_map.mp h
        obtain ⟨q,hq,hk⟩:=grp_key i g hg
        refine ⟨q,hq,?_⟩
        rw [← he]
        split <;> exact hk
      · rcases List.mem_append.mp h with h | h
        · exact grp_key i e h
        · have:e=(skS p.1,[p]):=by simpa using h
          rw [this]
          exact ⟨p,List.mem_of_getElem? hi,rfl⟩
noncomputable def okW (w:Str):Prop:=Abc w∧w.length≤8
theorem okW_perm {w z:Str} (h:okW z) (p:(Ls w).Perm (Ls z)):okW w:=⟨fun c hc=>h.1 c (p.mem_iff.mp hc),by rw [← len_Ls,p.length_eq,len_Ls];exact h.2⟩
theorem okW_abc {w:Str} (h:okW w):∀ c∈Ls w,c∈[97,98,99]:=fun c hc=>by
  have:=h.1 c hc
  simpa using this
structure FI (G:List (Str×D Str)) (g:D Str):Prop where
  nd:(keys g).Nodup
  nz:NZ g
  pl:∀ w∈keys g,MW.Pl (Ls w)∧okW w∧∃ e∈G,skS w=e.1
  sum:∀ z,MD.made cat pbr g z=isum (G.map fun e=>val e.2 z)
theorem FI.nil:FI [] []:=⟨List.nodup_nil,fun p h=>(by cases h),fun w h=>(by cases h),fun z=>rfl⟩
theorem FI.step {G:List (Str×D Str)} {g f:D Str} {e:Str×D Str} (h:FI G g) (hk:∃ z,okW z∧e.1=skS z) (hn:∀ e'∈G,e'.1≠e.1) (R:RIS (Ls e.1) e.2 f []):FI (G++[e]) (g++f)∧((dk g++dk f).map (·.1)).Nodup:=by
  obtain ⟨z,oz,ez⟩:=hk
  have kf:∀ w∈keys f,MW.Pl (Ls w)∧okW w∧skS w=e.1:=fun w hw=>by
    obtain ⟨h1,h2⟩:=R.plf w hw
    have h3:(Ls w).Perm (Ls z):=by rw [ez] at h2;exact h2.trans (skS_perm z)
    exact ⟨h1,okW_perm oz h3,by rw [ez];exact skS_eq.mpr h3⟩
  have nd:(keys (g++f)).Nodup:=by
    unfold keys
    rw [List.map_append]
    refine List.nodup_append.mpr ⟨h.nd,R.ndf,fun a ha b hb e'=>?_⟩
    subst e'
    obtain ⟨_,_,e',he',hs⟩:=h.pl a ha
    exact hn e' he' (by rw [← hs];exact (kf a hb).2.2)
  refine ⟨⟨nd,fun p hp=>?_,fun w hw=>?_,fun z=>?_⟩,?_⟩
  · rcases List.mem_append.mp hp with q | q
    · exact h.nz p q
    · exact R.nzf p q
  · have hw:w∈keys g++keys f:=by simpa [keys] using hw
    rcases List.mem_append.mp hw with q | q
    · obtain ⟨h1,h2,e',he',hs⟩:=h.pl w q
      exact ⟨h1,h2,e',List.mem_append_left _ he',hs⟩
    · obtain ⟨h1,h2,hs⟩:=kf w q
      exact ⟨h1,h2,e,List.mem_append_right _ (List.mem_singleton.mpr rfl),hs⟩
  · rw [made_append,h.sum,List.map_append,isum_append]
    congr 1
    have:=R.sum z
    have v0:val ([]:D Str) z=0:=rfl
    rw [v0,Int.zero_add] at this
    show _=val e.2 z + (0:Int)
    omega
  · have e1:dk g++dk f=dk (g++f):=by unfold dk;rw [List.map_append]
    rw [e1]
    have e2:(dk (g++f)).map (·.1)=(keys (g++f)).map (Sum.inr:Str→Key):=by
      unfold dk keys
      rw [List.map_map,List.map_map]
      rfl
    rw [e2]
    exact List.Pairwise.map _ (fun a b n e=>n (Sum.inr.inj e)) nd
theorem part_lie {x:D Str} (hx:(keys x).Nodup) {e:Str×D Str} {z:Str} (ez:e.1=skS z) (he:e.2=x.filter fun p=>decide (skS p.1=e.1)) (L:ML.Lie (MD.fn mk x)):ML.Lie (MD.fn mk e.2) :=
  (L.part (Ls e.1)).congr fun y=>by
    show (if y.Perm (Ls e.1) then val x (mk y) else 0)=val e.2 (mk y)
    rw [he,MD.val_filter hx (fun a=>decide (skS a=e.1)) (mk y)]
    have:y.Perm (Ls e.1)↔skS (mk y)=e.1:=by
      rw [ez,skS_eq,Ls_mk]
      exact ⟨fun p=>p.trans (skS_perm z),fun p=>p.trans (skS_perm z).symm⟩
    by_cases q:y.Perm (Ls e.1)
    · rw [if_pos q,if_pos (decide_eq_true (this.mp q))]
    · rw [if_neg q,if_neg (by simpa using fun w=>q (this.mpr w))]
theorem okW_len {g:D Str} (hn:(keys g).Nodup) (h:∀ w∈keys g,okW w):g.length≤9841:=by
  have h1:((keys g).map Ls).Nodup:=List.Pairwise.map _ (fun a b n e=>n (str_ext e)) hn
  have h2:=nodup_le h1 (m:=(List.range 9).flatMap MD.words) fun y hy=>by
    obtain ⟨z,hz,rfl⟩:=List.mem_map.mp hy
    have o:=h z hz
    exact List.mem_flatMap.mpr ⟨(Ls z).length,List.mem_range.mpr (by rw [len_Ls];have:=o.2;omega),MD.mem_words _ (okW_abc o)⟩
  rw [List.length_flatMap] at h2
  have e:((List.range 9).map fun n=>(MD.words n).length)=(List.range 9).map fun n=>3 ^ n:=List.map_congr_left fun n _=>len_words n
  rw [e,List.length_map] at h2
  have e2:((List.range 9).map fun n=>3 ^ n).sum=9841:=by decide
  have h3:(keys g).length=g.length:=List.length_map _
  omega
structure PSum (L:D Str):Prop where
  nd:(keys L).Nodup
  nz:NZ L
  pl:∀ w∈keys L,MW.Pl (Ls w)∧okW w
  ord:(keys L).Pairwise Wlt
noncomputable def PSumV (H:Hp) (r:Addr) (ws:List V) (L:D Str):Prop:=H r=some (.lst ws)∧ws.length=L.length∧∀ (i:Nat) p,L[i]? = some p→∃ a,ws[i]? = some (.ref a)∧H a=some (.tup [.int p.2,.str p.1])
noncomputable def spPso (C:Addr):Sp:=fun vs H Q E=>∃ (d:Addr) (x:D Str),vs=[.ref d]∧Rd H d (.dK (dk x))∧(keys x).Nodup∧NZ x∧(∀ w∈keys x,okW w) ∧
  (∀ r H' ws L,H r=none→SX d H H'→PSumV H' r ws L→PSum L→(∀ z,val x z=MD.made cat pbr L z)→Q (.ref r) H')∧(¬ ML.Lie (MD.fn mk x)→∀ H',SX d H H'→E (.ref C) none H')
section
variable {P:Program} {w:World} {K:PySem.W.Frag} {mg:Str→Option Value} {base:Heap} {f fa fn ft fp fr fs fc fb fi fl:Addr} {fd ad nd td pd rd sd cd bd id' ld:FuncData}
theorem scPso:FnScope ["counts","found","part"] ["counts"] (defScope (top 19)):=⟨rfl,rfl,rfl,by decide +kernel,rfl,by decide +kernel,by decide +kernel⟩
noncomputable def cPso:Scope:={ kind:=.function,names:=[(Str.ofString ".0",.local),(Str.ofString "word",.local),(Str.ofString "found",.free)],isGenerator:=false,isCoroutine:=false,more:=[] }
theorem ok_pso {C:Addr} (T:Blt mg) (F:At K mg "plain_sum_of" (top 19) ["counts"] f fd) (FT:At K mg "parts_by_letters" (top 20) ["counts"] ft td) (FC:At K mg "plain_counts_of" (top 21) ["part"] fc cd) (FL:At K mg "length_first" (top 1) ["word"] fl ld)
    (GC:FnOk P w K mg base (CXE P w) 15 fc cd ["part"] (spPc C)):FnOk P w K mg base (CXE P w) 16 f fd ["counts"] (spPso C):=by
  have GT:FnOk P w K mg base CX0 1 ft td ["counts"] spPt:=ok_pt T FT
  have GL:FnOk P w K mg base CX0 1 fl ld ["word"] spLF:=ok_lf FL.fn T.len
  refine F.fn.okE scPso (fun vs H Q E h=>?_) (fun cdv A outer s H vs Q E hr h=>?_)
  · obtain ⟨d,x,rfl,_⟩:=h
    rfl
  obtain ⟨d,x,rfl,hd,ndx,nzx,okx,q1,q2⟩:=h
  have hr1:Room 1 _:=hr.mono (by omega)
  have hr3:Room 3 _:=hr.mono (by omega)
  have O:CompOk (cxOf (CXE P w) P w K mg base ["counts","found","part"] "plain_sum_of" (defScope (top 19)) f cdv A outer s H E) ["word","found"] cPso [(Str.ofString "found",s.heap.objs.size + 1)]:={
    clos:=rfl
    nocell:=by decide +kernel
    kind:=rfl
    names:=by decide +kernel
    sub:=fun x c e=>e
    has:=fun x h=>by
      have e:x=Str.ofString "found":=List.mem_singleton.mp (lk_has (l:=[(Str.ofString ".0",.local),(Str.ofString "word",.local),(Str.ofString "found",.cell)]) h (by decide +kernel))
      subst e
      exact ⟨_,rfl⟩ }
  refine ⟨_,@PSsW.out _ _ _ (w_cons ⟨ps_set (i:=1) scPso.nd rfl (Or.inr rfl) pe_dnewK⟩
    (w_cons ⟨ps_for PassesOwn.leaving rfl (pi_list (pe_call GT hr1 rfl FT.m FT.k FT.b .nil pass0 (pa_cons (pv 0) pa_nil))) (pg_name (i:=2) scPso.nd rfl (Or.inl rfl))
      (pss_one (ps_expr (pe_bm PySem.F.plainAttrs_dict PySem.F.slot_dict_update PySem.F.type_dict_update mt_update (pv 1) (pa_cons (pe_call GC hr rfl FC.m FC.k FC.b .nil passE (pa_cons (pv 2) pa_nil)) pa_nil))))⟩
    (w_one ⟨ps_ret (pe_compG (N':=["word","found"]) rfl O (pi_list (pe_sortOwn rfl rfl T.srt rfl FL.m GL FL.b hr3 (pa_cons (pv 1) pa_nil))) (fun C s₀ H₀ ex pn xe=>pg_name (i:=0) (by show List.Nodup [Str.ofString "word",Str.ofString "found"];decide +kernel) rfl (.inl rfl) (.inr rfl)) (fun _ _ _ _ _ _=>pifs_nil)
      (fun C s₀ H₀ ex pn xe=>pe_tup (pa_cons (pe_dget (hu_of hr) (pv 1) (pv 0) (fun _ _=>rfl)) (pa_cons (pv 0) pa_nil))))⟩))),?_⟩
  have hz:=sizeLine_eq
  intro q nq
  have s1:=new_same nq (.dK [])
  have dq:d≠q:=by
    rcases hd with h | ⟨o,h⟩
    · exact ne_of_none h nq
    · exact ne_of_none h nq
  have lenx:x.length≤9841:=okW_len ndx okx
  refine ⟨_,rfl,d,x,rfl,rd_same s1 hd,ndx,fun w hw=>by have:=(okx w hw).2;omega,by omega,fun l as H1 al an af fl sx1 rd1 el ea=>?_⟩
  have gi:=grp_ok ndx x.length (Nat.le_refl _)
  rw [List.take_length] at gi
  have sxH:SX d H H1:=fun b o nb e=>sx1 b o nb (s1 _ _ e)
  refine ⟨l,rfl,⟨_,.inl (.inl el)⟩,for_list (K:=K) (a:=l) (xs:=as.map V.ref) (fun i σ Hx=>∃ (y2:Option V) (g:D Str),σ=[some (.ref d),some (.ref q),y2]∧SX q H1 Hx∧Hx q=some (.dK (dk g))∧FI ((grp x x.length).take i) g) ?_ ?_ ?_ ?_⟩
  · exact ⟨none,[],rfl,fun b o _ e=>e,sx1 q _ dq.symm upd_same,by rw [List.take_zero];exact FI.nil⟩
  · rintro i σ Hx hi ⟨y2,g,rfl,sx,hg,fi⟩
    have lq:l≠q:=fun z=>by rw [z,upd_same] at fl;cases fl
    exact .inl (.inl (sx l _ lq el))
  · rintro i y σ Hx hy ⟨y2,g,rfl,sx,hg,fi⟩
    rw [List.getElem?_map] at hy
    cases ha:as[i]? with
    | none=>rw [ha] at hy;cases hy
    | some a =>
      rw [ha] at hy
      cases hy
      have il:i < (grp x x.length).length:=by rw [← al];exact (List.getElem?_eq_some_iff.mp ha).1
      obtain ⟨e,he⟩:∃ e,(grp x x.length)[i]? = some e:=⟨_,List.getElem?_eq_getElem il⟩
      have em:=List.mem_of_getElem? he
      obtain ⟨p,hp,ez⟩:=grp_key x.length e em
      have oz:=okx p.1 (List.mem_map.mpr ⟨p,hp,rfl⟩)
      have epart:=gi.part e em
      have aq:a≠q:=fun z=>by have:=af a (List.mem_of_getElem? ha);rw [z,upd_same] at this;cases this
      have hae:=sx a _ aq (ea i e a he ha)
      have oe:okW e.1:=okW_perm oz (by rw [ez];exact skS_perm p.1)
      have perE:∀ y∈keys e.2,(Ls y).Perm (Ls e.1):=fun y hy=>by
        rw [epart] at hy
        obtain ⟨r,hr',er⟩:=List.mem_map.mp hy
        have er:r.1=y:=er
        have:=of_decide_eq_true (List.mem_filter.mp hr').2
        rw [← this,er]
        exact (skS_perm y).symm
      have eold:∀ b o,b≠d→H b=some o→Hx b=some o:=fun b o nb e=>sx b o (fun z=>by rw [z,nq] at e;cases e) (sxH b o nb e)
      refine ⟨_,rfl,.inr (.inr (.inl ⟨rfl,.inl ⟨_,hg⟩⟩)),_,rfl,a,e.2,Ls e.1,rfl,.inl hae,by rw [epart];exact nd_filter ndx _,?_,perE,okW_abc oe,by rw [len_Ls];exact oe.2,fun r f H2 nr s2 er R=>?_,fun nL H2 s2=>?_⟩
      · intro p hp
        rw [epart] at hp
        exact nzx p (List.mem_filter.mp hp).1
      · have qr:q≠r:=fun z=>by rw [← z,hg] at nr;cases nr
        obtain ⟨fi',nd'⟩:=fi.step ⟨p.1,oz,ez⟩ (fun e' he' z=>by
          obtain ⟨j,hj,ej⟩:=List.getElem_of_mem he'
          rw [List.length_take] at hj
          rw [List.getElem_take] at ej
          have h1:((grp x x.length).map (·.1))[j]'(by rw [List.length_map];omega)=((grp x x.length).map (·.1))[i]'(by rw [List.length_map];exact il):=by
            rw [List.getElem_map,List.getElem_map,ej,(List.getElem?_eq_some_iff.mp he).2]
            exact z
          have:=(List.getElem_inj gi.nd).mp h1
          omega) R
        have lg:(g++f).length≤9841:=okW_len fi'.nd fun w hw=>(fi'.pl w hw).2.1
        rw [List.length_append] at lg
        refine ⟨q,r,dk g,dk f,rfl,rfl,qr,s2 _ _ hg,.inl er,by rw [dk_len,dk_len];omega,nd',?_⟩
        have edk:dk g++dk f=dk (g++f):=by unfold dk;rw [List.map_append]
        rw [edk]
        refine ⟨_,g++f,rfl,fun b o nb e=>?_,upd_same,?_⟩
        · rw [upd_ne nb];exact s2 _ _ (sx b o nb e)
        · rw [List.take_add_one,he];exact fi'
      · exact q2 (fun L=>nL (part_lie ndx ez epart L)) H2 fun b o nb e=>s2 _ _ (eold b o nb e)
  · rintro σ Hx ⟨y2,g,rfl,sx,hg,fi⟩
    rw [List.length_map,al,List.take_length] at fi
    have lg:g.length≤9841:=okW_len fi.nd fun w hw=>(fi.pl w hw).2.1
    have eold:∀ b o,b≠d→H b=some o→Hx b=some o:=fun b o nb e=>sx b o (fun z=>by rw [z,nq] at e;cases e) (sxH b o nb e)
    refine ⟨_,rfl,q,_,keys g,rfl,.inl hg,dk_keys _,fi.nd,fun y hy=>by have:=(fi.pl y hy).2.1.2;omega,fun a H2 ss' na s2 na2 pm pw=>?_⟩
    refine ⟨a,rfl,⟨_,.inl (.inl upd_same)⟩,[none,some (.ref q)],⟨rfl,?_⟩,fun D nD=>?_⟩
    · intro i x v e1 e2
      rcases i with _ | _ | i
      · cases e2
      · cases e1
        cases e2
        exact ⟨1,rfl,rfl,rfl,rfl⟩
      · cases e1
    have s3:Same H2 (upd H2 a (.lst (ss'.map V.str))):=new_same na2 _
    have s4:Same Hx (upd H2 a (.lst (ss'.map V.str))):=s2.trans s3
    have er2:(upd H2 a (.lst (ss'.map V.str))) q=some (.dK (dk g)):=s4 _ _ hg
    have daD:a≠D:=by
      rintro rfl;rw [upd_same] at nD;cases nD
    have drD:q≠D:=ne_of_none er2 nD
    have nDH:Hx D=none:=s4.free nD
    have slen:ss'.length≤9841:=by
      rw [pm.length_eq]
      show (keys g).length≤9841
      unfold keys
      rw [List.length_map]
      exact lg
    refine ⟨fun i m σy Hy=>m=ss'.length - i∧i≤ss'.length∧(∃ y0,σy=[y0,some (.ref q)])∧Same Hx Hy∧Hy a=some (.lst (ss'.map V.str))∧Hy q=some (.dK (dk g))∧∃ ws,Hy D=some (.lst ws)∧ws.length=i∧∀ (j:Nat) y,j < i→ss'[j]? = some y→∃ p,p≠D∧ws[j]? = some (.ref p)∧Hy p=some (.tup [.int (val g y),.str y]),⟨_,rfl,Nat.zero_le _,⟨none,rfl⟩,upd_same2 s4 nDH,?_,?_,[],upd_same,rfl,fun j y h _=>absurd h (Nat.not_lt_zero _)⟩,?_⟩
    · rw [upd_ne daD];exact upd_same
    · rw [upd_ne drD];exact er2
    rintro i m σy Hy ⟨rfl,hi,⟨y0,rfl⟩,sy,xa,xr,ws,xD,hl,hws⟩
    by_cases hlt:i < ss'.length
    · have hy:ss'[i]? = some ss'[i]:=List.getElem?_eq_getElem hlt
      have hyV:(ss'.map V.str)[i]? = some (.str ss'[i]):=by rw [List.getElem?_map,hy];rfl
      refine .inr ⟨⟨_,_,.inl (.inl xa),hyV⟩,fun x H' hyl=>?_⟩
      obtain ⟨rfl,hyl⟩:=hyl
      have e:=hyl _ (.inl (.inl xa))
      rw [hyV] at e
      cases e
      have mem:ss'[i]∈keys g:=pm.mem_iff.mp (List.getElem_mem hlt)
      obtain ⟨c,hc⟩:∃ c,look g ss'[i]=some c:=by
        cases e:look g ss'[i] with
        | none=>exact absurd mem (look_none.mp e)
        | some c=>exact ⟨c,rfl⟩
      have hv:val g ss'[i]=c:=by unfold val;rw [hc];rfl
      dsimp only [gName,tYes]
      rw [if_pos rfl]
      refine ⟨_,rfl,_,rfl,q,_,rfl,dget_frz (.inl xr) hc,_,rfl,(by show 2≤sizeLine;decide),fun p np=>?_⟩
      have sp:=new_same np (.tup [.int c,.str ss'[i]])
      have npD:p≠D:=fun z=>by rw [z,xD] at np;cases np
      refine ⟨ws,sp _ _ xD,by omega,ss'.length - (i + 1),by omega,rfl,by omega,⟨_,rfl⟩,upd_same2 (sy.trans sp) nDH,?_,?_,ws++[.ref p],upd_same,by simp [hl],fun j y hj hy2=>?_⟩
      · rw [upd_ne daD];exact sp _ _ xa
      · rw [upd_ne drD];exact sp _ _ xr
      · by_cases hji:j < i
        · obtain ⟨p',n',e1,e2⟩:=hws j y hji hy2
          exact ⟨p',n',by rw [List.getElem?_append_left (by omega)];exact e1,by rw [upd_ne n'];exact sp _ _ e2⟩
        · have e:j=i:=by omega
          subst e
          rw [hy] at hy2
          cases hy2
          refine ⟨p,npD,by rw [List.getElem?_append_right (by omega),hl,Nat.sub_self];rfl,?_⟩
          rw [upd_ne npD,upd_same,hv]
    · have e:i=ss'.length:=by omega
      subst e
      refine .inl ⟨⟨_,.inl (.inl xa),by rw [List.length_map];exact Nat.le_refl _⟩,?_⟩
      have hk:keys (ss'.map fun w=>(w,val g w))=ss':=by
        unfold keys
        rw [List.map_map]
        exact List.map_id _
      have pmL:(ss'.map fun w=>(w,val g w)).Perm g:=by
        have:=pm.map (fun w=>(w,val g w))
        rw [with_vals fi.nd] at this
        exact this
      have hD:H D=none:=by
        cases e:H D with
        | none=>rfl
        | some o =>
          by_cases z:D=d
          · subst z
            rcases rd1 with h | ⟨_,h⟩
            · rw [sx D _ dq h] at nDH;cases nDH
            · rw [sx D _ dq h] at nDH;cases nDH
          · rw [eold D o z e] at nDH;cases nDH
      refine q1 D Hy ws (ss'.map fun w=>(w,val g w)) hD (fun b o nb e=>sy _ _ (eold b o nb e)) ⟨xD,by rw [hl,List.length_map],fun i p ep=>?_⟩ ⟨by rw [hk];exact pm.nodup_iff.mpr fi.nd,fun p hp=>fi.nz p (pmL.mem_iff.mp hp),fun w hw=>?_,by rw [hk];exact pw⟩ fun z=>?_
      · rw [List.getElem?_map] at ep
        cases e:ss'[i]? with
        | none=>rw [e] at ep;cases ep
        | some y =>
          rw [e] at ep
          cases ep
          obtain ⟨p,_,e1,e2⟩:=hws i y (List.getElem?_eq_some_iff.mp e).1 e
          exact ⟨p,e1,e2⟩
      · rw [hk] at hw
        have:=fi.pl w (pm.mem_iff.mp hw)
        exact ⟨this.1,this.2.1⟩
      · rw [← gi.sum ndx z,← fi.sum z]
        unfold MD.made
        exact (isum_perm (pmL.map _)).symm
noncomputable def spPsu (K:PySem.W.Frag):Sp:=fun vs H Q _=>∃ (t:Addr) (ps:List V) (T:List (Int×Br Str)),vs=[.ref t]∧TotV K H t ps T∧T.length≤4000∧(∀ x∈T,x.2.wt≤8) ∧
  ∀ r H' ws L,H r=none→Same H H'→PSumV H' r ws L→PSum L→(∀ z,val (smP cat T) z=MD.made cat pbr L z)→Q (.ref r) H'
theorem scPsu:FnScope ["total"] ["total"] (defScope (top 18)):=⟨rfl,rfl,rfl,by decide +kernel,rfl,by decide +kernel,by decide +kernel⟩
theorem brv_abc {H:Hp}:∀ {b:Br Str} {v:V},BrV H b v→∀ x∈keys (cL cat b),Abc x∧x.length=b.wt
  | .leaf y,v,h,x,hx=>by
    have:x=y:=by simpa [keys,cL] using hx
    rw [this]
    exact ⟨h.2.2,h.2.1⟩
  | .node a b,v,⟨_,_,_,_,_,h1,h2⟩,x,hx=>by
    obtain ⟨y,hy,z,hz,e⟩:=tw_key hx
    obtain ⟨a1,l1⟩:=brv_abc h1 y hy
    obtain ⟨a2,l2⟩:=brv_abc h2 z hz
    have wt:(Br.node a b).wt=a.wt + b.wt:=rfl
    rcases e with e | e
    · rw [e]
      have:=len_cat y z
      exact ⟨abc_cat a1 a2,by rw [this];omega⟩
    · rw [e]
      have:=len_cat z y
      exact ⟨abc_cat a2 a1,by rw [this];omega⟩
theorem tot_okW {T:List (Int×Br Str)} {K:PySem.W.Frag} {H:Hp} {t:Addr} {ps:List V} (hT:TotV K H t ps T) (h8:∀ x∈T,x.2.wt≤8):∀ w∈keys (smP cat T),okW w:=fun w hw=>by
  have h1:val (smL cat T) w≠0:=(good_smL T).2.val (good_smL T).1 ((List.Perm.mem_iff (show (keys (smP cat T)).Perm (keys (smL cat T)) from List.Perm.map (fun p:Str×Int=>p.1) (sm_perm T))).mp hw)
  rw [MD.val_smL] at h1
  obtain ⟨p,hp,hv⟩:=isum_ne h1
  have hk:w∈keys (cL cat p.2):=MD.key_val fun z=>hv (by rw [z,Int.mul_zero])
  obtain ⟨i,hi⟩:=List.getElem?_of_mem hp
  obtain ⟨_,bv,_,_,hb⟩:=hT.2.2 i p hi
  obtain ⟨a1,l1⟩:=brv_abc hb w hk
  exact ⟨a1,by rw [l1];exact h8 p hp⟩
theorem tot_lie {T:List (Int×Br Str)} {K:PySem.W.Frag} {H:Hp} {t:Addr} {ps:List V} (hT:TotV K H t ps T):ML.Lie (MD.fn mk (smP cat T)) :=
  (MD.lie_smL iso fun p hp=>by
    obtain ⟨i,hi⟩:=List.getElem?_of_mem hp
    obtain ⟨_,bv,_,_,hb⟩:=hT.2.2 i p hi
    exact brv_lt hb).congr fun x=>(MD.perm_val (nd_smP T) (sm_perm T) (mk x)).symm
theorem nz_smP (T:List (Int×Br Str)):NZ (smP cat T):=NZ_nz (nd_smP0 T)
theorem ok_psu {C:Addr} (F:At K mg "plain_sum" (top 18) ["total"] f fd) (FS:At K mg "sum_counts" (top 2) ["total"] fs sd) (FO:At K mg "plain_sum_of" (top 19) ["counts"] fp pd)
    (GS:FnOk P w K mg base CX0 15 fs sd ["total"] (spSum K (smP cat))) (GO:FnOk P w K mg base (CXE P w) 16 fp pd ["counts"] (spPso C)):FnOk P w K mg base CX0 17 f fd ["total"] (spPsu K):=by
  refine F.fn.ok scPsu (fun vs H Q E h=>?_) (fun cdv A outer s H vs Q E hr h=>?_)
  · obtain ⟨t,ps,T,rfl,_⟩:=h
    rfl
  obtain ⟨t,ps,T,rfl,hT,h64,h8,q⟩:=h
  have hr15:Room 15 _:=hr.mono (by omega)
  refine ⟨_,pss_one (ps_ret (pe_call GO hr rfl FO.m FO.k FO.b .nil passF (pa_cons (pe_call GS hr15 rfl FS.m FS.k FS.b .nil pass0 (pa_cons (pv 0) pa_nil)) pa_nil))),?_⟩
  refine ⟨_,rfl,t,ps,T,rfl,hT,h64,fun x hx=>by have:=h8 x hx;omega,fun r H1 nr s1 er=>?_⟩
  refine ⟨r,smP cat T,rfl,.inl er,nd_smP T,nz_smP T,tot_okW hT h8,fun r2 H2 ws L n2 sx pv ps' hv=>?_,fun nL=>absurd (tot_lie hT) nL⟩
  exact q r2 H2 ws L (s1.free n2) (fun b o e=>sx b o (ne_of_none e nr) (s1 _ _ e)) pv ps' hv
end
end K01
end
section
namespace K01
open PySem PySem.Spec PyProof.Rows Tim L2 Wm
theorem op_eqS {X:Cx} (hu:X.A.units + 1 < cLine):OpR X (compareOp .Eq) (fun x y H Q=>∃ (a b:Addr) (ss:List Str),x = .ref a∧y = .ref b∧H a=some (.lst (ss.map V.str))∧H b=some (.lst (ss.map V.str))∧Q (.bl true) H):=by
  intro pins s σ H x y v u Q I rx ry h
  obtain ⟨a,b,ss,e1,e2,ha,hb,q⟩:=h
  refine op_eqLs pins s σ H x y v u Q I rx ry ⟨a,b,_,_,0,fun _=>true,e1,e2,.inl (.inl ha),.inl (.inl hb),fun _=>items_self fun z hz=>?_,hu,?_⟩
  · obtain ⟨t,_,rfl⟩:=List.mem_map.mp hz
    simp [Sc]
  · have:lstEq (ss.map V.str) (ss.map V.str) (fun _=>true)=true:=by simp [lstEq]
    rw [this]
    exact q
theorem PSum.few {L:D Str} (h:PSum L):L.length≤1318:=by
  have h1:((keys L).map Ls).Nodup:=List.Pairwise.map _ (fun a b n e=>n (str_ext e)) h.nd
  have h2:=nodup_le h1 (m:=((List.range 9).flatMap MD.words).filter MP.plf) fun y hy=>by
    obtain ⟨z,hz,rfl⟩:=List.mem_map.mp hy
    obtain ⟨p,o⟩:=h.pl z hz
    exact List.mem_filter.mpr ⟨List.mem_flatMap.mpr ⟨(Ls z).length,List.mem_range.mpr (by rw [len_Ls];have:=o.2;omega),MD.mem_words _ (okW_abc o)⟩,MP.plf_of p⟩
  rw [MP.few,List.length_map] at h2
  have h3:(keys L).length=L.length:=List.length_map _
  omega
theorem dsame_perm {x y:D Str} (h:x.Perm y):DSame (dk x) (dk y):=⟨by rw [dk_len,dk_len,h.length_eq],fun k v m=>by
  obtain ⟨p,hp,e⟩:=List.mem_map.mp m
  cases e
  exact ⟨p.2,rfl,List.mem_map.mpr ⟨p,h.mem_iff.mp hp,rfl⟩⟩⟩
theorem bt_set:bootBuiltins "set" = some (.type "set"):=by decide +kernel
section
variable {P:Program} {w:World} {K:PySem.W.Frag} {mg:Str→Option Value} {base:Heap} {f fo fw fi fp fs:Addr} {fd od wd id' pd sd:FuncData}
noncomputable def spIp:Sp:=fun vs H Q _=>∃ (r:Addr) (ws:List V) (L:D Str),vs=[.ref r]∧PSumV H r ws L∧PSum L∧∀ H',Same H H'→Q (.bl true) H'
theorem scIp:FnScope ["found","words","one"] ["found"] (defScope (top 39)):=⟨rfl,rfl,rfl,by decide +kernel,rfl,by decide +kernel,by decide +kernel⟩
theorem ok_ip (T:Blt mg) (F:At K mg "_law_is_plain_sum" (top 39) ["found"] f fd) (FO:At K mg "_law_order" (top 36) ["words"] fo od) (FW:At K mg "_law_whole" (top 25) ["found"] fw wd) (FI:At K mg "_law_is_plain" (top 37) ["word"] fi id'):FnOk P w K mg base CX0 2 f fd ["found"] spIp:=by
  have GO:FnOk P w K mg base CX0 1 fo od ["words"] (spOrd K):=ok_or T FO
  have GW:FnOk P w K mg base CX0 1 fw wd ["found"] spWh:=ok_wh T FW
  have GL:FnOk P w K mg base CX0 1 fi id' ["word"] spPl:=ok_lp T FI
  refine F.fn.ok scIp (fun vs H Q E h=>?_) (fun cdv A outer s H vs Q E hr h=>?_)
  · obtain ⟨r,ws,L,rfl,_⟩:=h
    rfl
  obtain ⟨r,ws,L,rfl,⟨hr0,hwl,hws⟩,ps,q⟩:=h
  refine ⟨_,@PSsW.out _ _ _ (w_cons ⟨ps_if (pt_not (pt_val (pe_callB call_isi rfl T.isi boot_isi (pa_cons (pv 0) (pa_cons (pe_ty rfl T.lst bt_list) pa_nil))))) (pss_one (ps_ret pe_bl)) pss_nil⟩
    (w_cons ⟨ps_set (i:=1) scIp.nd rfl (Or.inl rfl) (pe_lst pa_nil)⟩
    (w_cons ⟨ps_for PassesOwn.never rfl (pi_list (pv 0)) (pg_name (i:=2) scIp.nd rfl (Or.inl rfl))
      (pss_cons (ps_if (PW.pt (pw_or (pt_not (pt_val (pe_callB call_isi rfl T.isi boot_isi (pa_cons (pv 2) (pa_cons (pe_ty rfl T.tup boot_tup) pa_nil)))))
          (pw_or (pt_cmpR op_ne (pe_callB call_len_seq rfl T.len PySem.boot_len (pa_cons (pv 2) pa_nil)) pe_int (nomark _))
          (pw_or (pt_not (pt_val (pe_call GW hr rfl FW.m FW.k FW.b .nil pass0 (pa_cons (pe_ix ix_tup (pv 2) pe_int (fun _ _=>rfl)) pa_nil))))
          (pw_or1 (pt_cmpR op_eq (pe_ix ix_tup (pv 2) pe_int (fun _ _=>rfl)) pe_int (nomark _))))))) (pss_one (ps_ret pe_bl)) pss_nil)
      (pss_cons (ps_if (PW.pt (pw_or (pt_not (pt_val (pe_callB call_isi rfl T.isi boot_isi (pa_cons (pe_ix ix_tup (pv 2) pe_int (fun _ _=>rfl)) (pa_cons (pe_ty rfl T.str bt_str) pa_nil)))))
          (pw_or1 (pt_not (pt_val (pe_call GL hr rfl FI.m FI.k FI.b .nil pass0 (pa_cons (pe_ix ix_tup (pv 2) pe_int (fun _ _=>rfl)) pa_nil))))))) (pss_one (ps_ret pe_bl)) pss_nil)
      (pss_one (ps_expr (pe_bm PySem.F.plainAttrs_list PySem.F.slot_list_append PySem.F.type_list_append mt_append (pv 1) (pa_cons (pe_ix ix_tup (pv 2) pe_int (fun _ _=>rfl)) pa_nil))))))⟩
    (w_one ⟨ps_ret (pe_and (pe_cmpR (op_eqS (hu_of hr)) (pv 1) (pe_call GO hr rfl FO.m FO.k FO.b .nil pass0 (pa_cons (pv 1) pa_nil)) (nomark _))
      (pe_one (pe_cmpR op_eq (pe_lenSet rfl rfl T.len PySem.boot_len rfl T.set bt_set (pv 1)) (pe_callB call_len_seq rfl T.len PySem.boot_len (pa_cons (pv 1) pa_nil)) (nomark _))))⟩)))),?_⟩
  have hz:=sizeLine_eq
  have few:=ps.few
  refine ⟨_,rfl,_,_,_,rfl,.ll hr0,_,rfl,iteF ?_⟩
  refine ⟨(by show 0≤sizeLine;decide),fun l nl=>?_⟩
  have s1:=new_same nl (.lst [])
  have rl:r≠l:=ne_of_none hr0 nl
  refine ⟨_,rfl,r,rfl,⟨ws,.inl (.inl (s1 _ _ hr0))⟩,for_list (K:=K) (a:=r) (xs:=ws) (fun i σ Hx=>∃ y2,σ=[some (.ref r),some (.ref l),y2]∧Same H Hx∧Hx l=some (.lst (((keys L).take i).map V.str))) ?_ ?_ ?_ ?_⟩
  · exact ⟨none,rfl,s1,upd_same⟩
  · rintro i σ Hx _ ⟨y2,rfl,sx,xl⟩
    exact .inl (.inl (sx _ _ hr0))
  · rintro i u σ Hx hu ⟨y2,rfl,sx,xl⟩
    have hi:i < L.length:=by rw [← hwl];exact (List.getElem?_eq_some_iff.mp hu).1
    have hLi:L[i]? = some L[i]:=List.getElem?_eq_getElem hi
    obtain ⟨p,e1,e2⟩:=hws i L[i] hLi
    rw [hu] at e1
    cases e1
    have hp:=sx _ _ e2
    have mk':L[i].1∈keys L:=List.mem_map.mpr ⟨_,List.getElem_mem hi,rfl⟩
    obtain ⟨pl,ok⟩:=ps.pl _ mk'
    have nz':L[i].2≠0:=ps.nz _ (List.getElem_mem hi)
    have hkl:((keys L).take i).length≤1318:=by
      rw [List.length_take]
      have:(keys L).length=L.length:=List.length_map _
      omega
    refine ⟨_,rfl,_,_,_,rfl,.tt hp,_,rfl,iteF ?_⟩
    refine ⟨_,rfl,p,_,rfl,.inr (.inl (.inl hp)),rfl,_,rfl,?_⟩
    refine iteNS rfl ?_
    refine ⟨_,rfl,p,_,_,_,rfl,rfl,.inl (.inl hp),rfl,_,rfl,_,rfl,iteF ?_⟩
    refine ⟨_,rfl,p,_,_,_,rfl,rfl,.inl (.inl hp),rfl,rfl,_,rfl,?_⟩
    rw [decide_eq_false (show ¬ V.int L[i].2=V.int 0 from fun z=>nz' (V.int.inj z))]
    refine iteF ?_
    refine ⟨_,rfl,p,_,_,_,rfl,rfl,.inl (.inl hp),rfl,_,_,_,rfl,.ss _,_,rfl,iteF ?_⟩
    refine ⟨_,rfl,p,_,_,_,rfl,rfl,.inl (.inl hp),rfl,L[i].1,rfl,by have:=ok.2;omega,fun H1 s2=>⟨_,rfl,?_⟩⟩
    rw [MW.pl_true.mpr pl]
    refine iteF ?_
    refine ⟨_,rfl,.inl ⟨rfl,_,.inl (.inl (s2 _ _ xl))⟩,_,rfl,p,_,_,_,rfl,rfl,.inl (.inl (s2 _ _ hp)),rfl,l,_,_,rfl,rfl,s2 _ _ xl,by rw [List.length_map];omega,?_⟩
    refine ⟨_,rfl,upd_same2 (sx.trans s2) nl,?_⟩
    rw [upd_same,List.take_add_one]
    have:(keys L)[i]? = some L[i].1:=by unfold keys;rw [List.getElem?_map,hLi];rfl
    rw [this,List.map_append]
    rfl
  · rintro σ Hx ⟨y2,rfl,sx,xl⟩
    have hkl:(keys L).length=L.length:=List.length_map _
    rw [hwl,← hkl,List.take_length] at xl
    refine ⟨_,rfl,_,rfl,l,keys L,rfl,.inl (.inl xl),ps.nd,fun y hy=>by have:=(ps.pl y hy).2.2;omega,fun a H' ss' na s2 p1 w1 ea=>?_⟩
    have es:ss'=keys L:=wlt_eq p1 w1 ps.ord
    subst es
    refine ⟨l,a,keys L,rfl,rfl,s2 _ _ xl,ea,_,rfl,iteT ?_⟩
    refine ⟨_,rfl,l,keys L,rfl,.inl (.inl (s2 _ _ xl)),ps.nd,by omega,?_⟩
    refine ⟨_,rfl,l,_,rfl,.inl (.inl (.inl (s2 _ _ xl))),rfl,?_⟩
    rw [List.length_map,decide_eq_true rfl]
    exact q _ (sx.trans s2)
theorem brv_lst {H:Hp} {D:Addr} {us us':List V} (hD:H D=some (.lst us)):∀ {b:Br Str} {v:V},BrV H b v→BrV (upd H D (.lst us')) b v
  | .leaf x,v,h=>h
  | .node a b,v,⟨p,u,w,e,h,h1,h2⟩=>⟨p,u,w,e,by rw [upd_ne (fun z=>by rw [z,hD] at h;cases h)];exact h,brv_lst hD h1,brv_lst hD h2⟩
noncomputable def spMk:Sp:=fun vs H Q _=>∃ (r d:Addr) (ws:List V) (L x:D Str),vs=[.ref r,.ref d]∧PSumV H r ws L∧PSum L∧Rd H d (.dK (dk x))∧(keys x).Nodup∧NZ x∧(∀ z,val x z=MD.made cat pbr L z)∧∀ H',Same H H'→Q (.bl true) H'
theorem scMk:FnScope ["found","counts"] ["found","counts"] (defScope (top 40)):=⟨rfl,rfl,rfl,by decide +kernel,rfl,by decide +kernel,by decide +kernel⟩
noncomputable def cMk:Scope:={ kind:=.function,names:=[(Str.ofString ".0",.local),(Str.ofString "count",.local),(Str.ofString "word",.local),(Str.ofString "_law_plain_bracket",.globalImplicit)],isGenerator:=false,isCoroutine:=false,more:=[] }
theorem made_smL (L:D Str) (z:Str):MD.made cat pbr L z=val (smL cat (L.map fun p=>(p.2,pbr p.1))) z:=by
  rw [MD.val_smL,List.map_map]
  rfl
theorem ok_mk (T:Blt mg) (F:At K mg "_law_makes" (top 40) ["found","counts"] f fd) (FI:At K mg "_law_is_plain_sum" (top 39) ["found"] fi id') (FS:At K mg "_law_of_sum" (top 35) ["total"] fs sd) (FP:At K mg "_law_plain_bracket" (top 38) ["word"] fp pd)
    (GI:FnOk P w K mg base CX0 2 fi id' ["found"] spIp) (GS:FnOk P w K mg base CX0 15 fs sd ["total"] (spSum K (smL cat))) (GP:FnOk P w K mg base CX0 9 fp pd ["word"] (spLb 8)):FnOk P w K mg base CX0 16 f fd ["found","counts"] spMk:=by
  refine F.fn.ok scMk (fun vs H Q E h=>?_) (fun cdv A outer s H vs Q E hr h=>?_)
  · obtain ⟨r,d,ws,L,x,rfl,_⟩:=h
    rfl
  obtain ⟨r,d,ws,L,x,rfl,pv',ps,hd,ndx,nzx,hval,q⟩:=h
  have hr2:Room 2 _:=hr.mono (by omega)
  have hr9:Room 9 _:=hr.mono (by omega)
  have O:CompOk (cxOf CX0 P w K mg base ["found","counts"] "_law_makes" (defScope (top 40)) f cdv A outer s H E).nox ["count","word"] cMk []:={
    clos:=rfl
    nocell:=by decide +kernel
    kind:=rfl
    names:=by decide +kernel
    sub:=fun x c e=>by cases e
    has:=fun x h=>by
      have e:=lk_has (l:=[(Str.ofString ".0",.local),(Str.ofString "count",.local),(Str.ofString "word",.local),(Str.ofString "_law_plain_bracket",.globalImplicit)]) (ys:=[]) h (by decide +kernel)
      cases e }
  have nd2:List.Nodup [Str.ofString "count",Str.ofString "word"]:=by decide +kernel
  refine ⟨_,pss_cons (ps_if (pt_not (pt_val (pe_call GI hr2 rfl FI.m FI.k FI.b .nil pass0 (pa_cons (pv 0) pa_nil)))) (pss_one (ps_ret pe_bl)) pss_nil)
    (pss_one (ps_ret (pe_cmpR (op_eqD (Nat.lt_of_succ_lt (hu_of hr))) (pe_call GS hr rfl FS.m FS.k FS.b .nil pass0 (pa_cons (pe_compG (N':=["count","word"]) (g:=gTup K 2 (gCons (gName 0) (gCons (gName 1) gNil))) rfl O (pi_list (pv 0)) (fun C s₀ H₀ ex pn xe=>pg_tup rfl (pgs_cons (pg_name (i:=0) nd2 rfl (.inl rfl) (.inr rfl)) (pgs_cons (pg_name (i:=1) nd2 rfl (.inl rfl) (.inr rfl)) pgs_nil)))
      (fun _ _ _ _ _ _=>pifs_nil) (fun C s₀ H₀ ex pn xe=>pe_tup (pa_cons (pv 0) (pa_cons (pe_call GP hr9 rfl FP.m FP.k FP.b .nil pass0 (pa_cons (pv 1) pa_nil)) pa_nil)))) pa_nil)) (pv 1) (nomark _)))),?_⟩
  have hz:=sizeLine_eq
  have few:=ps.few
  refine ⟨_,rfl,r,ws,L,rfl,pv',ps,fun H1 s1=>⟨_,rfl,iteF ?_⟩⟩
  obtain ⟨hr0,hwl,hws⟩:=pv'
  have hr1:=s1 _ _ hr0
  refine ⟨_,rfl,r,rfl,⟨ws,.inl (.inl hr1)⟩,[none,none],⟨rfl,?_⟩,fun D nD=>?_⟩
  · intro i x v e1 e2
    rcases i with _ | _ | i
    · cases e2
    · cases e2
    · cases e1
  refine ⟨fun i m σx Hx=>m=ws.length - i∧i≤ws.length∧(∃ y0 y1,σx=[y0,y1])∧Same H1 Hx∧∃ us,Hx D=some (.lst us)∧us.length=i∧∀ (j:Nat) p,j < i→L[j]? = some p→∃ a bv,us[j]? = some (.ref a)∧Hx a=some (.tup [.int p.2,bv])∧BrV Hx (pbr p.1) bv,⟨_,rfl,Nat.zero_le _,⟨none,none,rfl⟩,new_same nD _,[],upd_same,rfl,fun j p h _=>absurd h (Nat.not_lt_zero _)⟩,?_⟩
  rintro i m σx Hx ⟨rfl,hi,⟨y0,y1,rfl⟩,sx,us,xD,hl,hus⟩
  by_cases hlt:i < ws.length
  · have hi':i < L.length:=by omega
    have hLi:L[i]? = some L[i]:=List.getElem?_eq_getElem hi'
    obtain ⟨p,e1,e2⟩:=hws i L[i] hLi
    have hrx:=sx _ _ hr1
    refine .inr ⟨⟨_,_,.inl (.inl hrx),e1⟩,fun v H' hy=>?_⟩
    obtain ⟨rfl,hy⟩:=hy
    have e:=hy _ (.inl (.inl hrx))
    rw [e1] at e
    cases e
    have hp:=sx _ _ (s1 _ _ e2)
    have mk':L[i].1∈keys L:=List.mem_map.mpr ⟨_,List.getElem_mem hi',rfl⟩
    obtain ⟨pl,ok⟩:=ps.pl _ mk'
    refine ⟨p,_,rfl,.inl (.inl hp),rfl,_,_,rfl,_,_,rfl,rfl,?_⟩
    dsimp only [tYes]
    rw [if_pos rfl]
    refine ⟨_,rfl,_,rfl,L[i].1,rfl,ok.2,by have:=ok.2;omega,ok.1,pl,fun b bv H2 pb s2 hb=>?_⟩
    have eb:pbr L[i].1=b:=(pbr_pb pl).uni pb
    refine ⟨(by show 2≤sizeLine;decide),fun a na=>?_⟩
    have s3:=new_same na (.tup [.int L[i].2,bv])
    have xD3:=s3 _ _ (s2 _ _ xD)
    have aD:a≠D:=fun z=>by rw [z,s2 _ _ xD] at na;cases na
    have s4:Same H' (upd H2 a (.tup [.int L[i].2,bv])):=s2.trans s3
    refine ⟨us,xD3,by omega,ws.length - (i + 1),by omega,rfl,by omega,⟨_,_,rfl⟩,upd_same2 (sx.trans s4) nD,us++[.ref a],upd_same,by simp [hl],fun j p' hj hp'=>?_⟩
    by_cases hji:j < i
    · obtain ⟨a',bv',f1,f2,f3⟩:=hus j p' hji hp'
      have f2':=s4 _ _ f2
      exact ⟨a',bv',by rw [List.getElem?_append_left (by omega)];exact f1,by rw [upd_ne (fun z=>by rw [z,xD3] at f2';cases f2')];exact f2',brv_lst xD3 (f3.same s4)⟩
    · have e:j=i:=by omega
      subst e
      rw [hLi] at hp'
      cases hp'
      refine ⟨a,bv,by rw [List.getElem?_append_right (by omega),hl,Nat.sub_self];rfl,by rw [upd_ne aD];exact upd_same,?_⟩
      rw [eb]
      exact brv_lst xD3 (hb.same s3)
  · have e:i=ws.length:=by omega
    subst e
    refine .inl ⟨⟨_,.inl (.inl (sx _ _ hr1)),Nat.le_refl _⟩,?_⟩
    have tv:TotV K Hx D us (L.map fun p=>(p.2,pbr p.1)):=⟨.inl (.inl xD),by rw [List.length_map,hl,hwl],fun j x e=>by
      rw [List.getElem?_map] at e
      cases hj:L[j]? with
      | none=>rw [hj] at e;cases e
      | some p =>
        rw [hj] at e
        cases e
        exact hus j p (by rw [hwl];exact (List.getElem?_eq_some_iff.mp hj).1) hj⟩
    refine ⟨D,us,_,rfl,tv,by rw [List.length_map];omega,fun x hx=>?_,fun r2 H3 n2 s3 e3=>?_⟩
    · obtain ⟨p,hp,rfl⟩:=List.mem_map.mp hx
      obtain ⟨pl,ok⟩:=ps.pl p.1 (List.mem_map.mpr ⟨p,hp,rfl⟩)
      show (pbr p.1).wt≤12
      rw [(pbr_pb pl).len,len_Ls]
      have:=ok.2
      omega
    have pm:(smL cat (L.map fun p=>(p.2,pbr p.1))).Perm x:=perm_of_val (good_smL _).1 ndx (good_smL _).2 nzx fun z=>by rw [← made_smL,← hval]
    exact ⟨_,rfl,r2,d,_,_,rfl,rfl,.inl e3,rd_same (s1.trans (sx.trans s3)) hd,dsame_perm pm,q _ (s1.trans (sx.trans s3))⟩
end
end K01
end
section
namespace K01
open PySem PySem.Spec PyProof.Rows Tim L2 Wm
structure Defs (K:PySem.W.Frag) (mg:Str→Option Value):Prop where
  t:Blt mg
  d_length_first:∃ f fd,At K mg "length_first" (top 1) ["word"] f fd
  d_sum_counts:∃ f fd,At K mg "sum_counts" (top 2) ["total"] f fd
  d_bracket_counts:∃ f fd,At K mg "bracket_counts" (top 3) ["bracket"] f fd
  d_twisted:∃ f fd,At K mg "twisted" (top 4) ["first","second"] f fd
  d_add_counts:∃ f fd,At K mg "add_counts" (top 5) ["counts","times","added"] f fd
  d_add_count:∃ f fd,At K mg "add_count" (top 6) ["counts","word","count"] f fd
  d_without_noughts:∃ f fd,At K mg "without_noughts" (top 7) ["counts"] f fd
  d_is_plain:∃ f fd,At K mg "is_plain" (top 13) ["word"] f fd
  d_cut:∃ f fd,At K mg "cut" (top 14) ["word"] f fd
  d_plain_bracket:∃ f fd,At K mg "plain_bracket" (top 15) ["word"] f fd
  d_refuse_unless_plain:∃ f fd,At K mg "refuse_unless_plain" (top 16) ["word"] f fd
  d_plain_sum:∃ f fd,At K mg "plain_sum" (top 18) ["total"] f fd
  d_plain_sum_of:∃ f fd,At K mg "plain_sum_of" (top 19) ["counts"] f fd
  d_parts_by_letters:∃ f fd,At K mg "parts_by_letters" (top 20) ["counts"] f fd
  d_plain_counts_of:∃ f fd,At K mg "plain_counts_of" (top 21) ["part"] f fd
  d__law_stir:∃ f fd,At K mg "_law_stir" (top 23) ["cell"] f fd
  d__law_cell:∃ f fd,At K mg "_law_cell" (top 24) ["script","k"] f fd
  d__law_whole:∃ f fd,At K mg "_law_whole" (top 25) ["found"] f fd
  d__law_draw:∃ f fd,At K mg "_law_draw" (top 26) ["cell","k","bound"] f fd
  d__law_raw:∃ f fd,At K mg "_law_raw" (top 27) ["script","k"] f fd
  d__law_by_digits:∃ f fd,At K mg "_law_by_digits" (top 28) ["cell","many"] f fd
  d__law_mixed:∃ f fd,At K mg "_law_mixed" (top 29) ["cell","many","k"] f fd
  d__law_bracket:∃ f fd,At K mg "_law_bracket" (top 30) ["script","at","most"] f fd
  d__law_sum:∃ f fd,At K mg "_law_sum" (top 31) ["script","at","tuples","most"] f fd
  d__law_put:∃ f fd,At K mg "_law_put" (top 32) ["counts","word","count"] f fd
  d__law_twisted:∃ f fd,At K mg "_law_twisted" (top 33) ["one","other"] f fd
  d__law_counts:∃ f fd,At K mg "_law_counts" (top 34) ["bracket"] f fd
  d__law_of_sum:∃ f fd,At K mg "_law_of_sum" (top 35) ["total"] f fd
  d__law_order:∃ f fd,At K mg "_law_order" (top 36) ["words"] f fd
  d__law_is_plain:∃ f fd,At K mg "_law_is_plain" (top 37) ["word"] f fd
  d__law_plain_bracket:∃ f fd,At K mg "_law_plain_bracket" (top 38) ["word"] f fd
  d__law_is_plain_sum:∃ f fd,At K mg "_law_is_plain_sum" (top 39) ["found"] f fd
  d__law_makes:∃ f fd,At K mg "_law_makes" (top 40) ["found","counts"] f fd
  ex:∃ C_TwistError C_NoSum C_NoWord:Addr,ExcAt K mg "TwistError" C_TwistError∧ExcAt K mg "NoSum" C_NoSum∧ExcAt K mg "NoWord" C_NoWord∧PySem.W.mroIn K C_NoSum (.ref C_TwistError)=some true∧PySem.W.mroIn K C_NoWord (.ref C_TwistError)=some true
theorem at_mk {K:PySem.W.Frag} {mg:Str→Option Value} {h:Heap} {x:Str} {st:Stmt} {ps:List Str} {f:Addr} {oc:Value} {od an:Option Addr} {osl:Array (Option Value)} {kV doc pm cdv ct:Value} (X:K.In h) (G:h.Ns mainGlobals mg)
    (a:PySem.W.nsIn K mainGlobals x=some (some (.ref f))) (l:K.lookup f=some ⟨oc,od,.func (PySem.W.fnOf x x (defArgs st) (defBody st) (defScope st) .none kV doc pm an cdv ct),osl⟩) (c:PySem.W.codeIn K cdv x=true) (k:PySem.W.keepIn K (.ref f)=true)
    (hb:∀ (kV doc pm:Value) (an:Option Addr) (cdv ct:Value) (us:List Value),us.length=ps.length→bindArgs (PySem.W.fnOf x x (defArgs st) (defBody st) (defScope st) .none kV doc pm an cdv ct) ⟨us,[]⟩=pure (ps.zip us)) :
    At K mg x st ps f (PySem.W.fnOf x x (defArgs st) (defBody st) (defScope st) .none kV doc pm an cdv ct):=⟨fun_mk l c k,(fun_mk l c k).binds hb,PySem.W.mg_of X G a⟩
end K01
end
section
namespace K01
open PySem PySem.Spec PyProof.Rows Tim L2 Wm
noncomputable def spLaw (K:PySem.W.Frag):Sp:=fun vs H Q _=>∃ (a:Addr) (ns:List Int),vs=[.ref a]∧SqL K H a (ns.map V.int)∧ns.length≤63∧∀ H',Q (.bl true) H'
theorem scLaw:FnScope ["script","total","handed","counts","turn","found"] ["script"] (defScope (top 41)):=⟨rfl,rfl,rfl,by decide +kernel,rfl,by decide +kernel,by decide +kernel⟩
section
variable {P:Program} {w:World} {K:PySem.W.Frag} {mg:Str→Option Value} {base:Heap} {f:Addr} {fd:FuncData}
theorem ok_law (Z:Defs K mg) (F:At K mg "law" (top 41) ["script"] f fd):FnOk P w K mg base CX0 20 f fd ["script"] (spLaw K):=by
  have T:=Z.t
  obtain ⟨f_length_first,fd_length_first,F_length_first⟩:=Z.d_length_first
  obtain ⟨f_sum_counts,fd_sum_counts,F_sum_counts⟩:=Z.d_sum_counts
  obtain ⟨f_bracket_counts,fd_bracket_counts,F_bracket_counts⟩:=Z.d_bracket_counts
  obtain ⟨f_twisted,fd_twisted,F_twisted⟩:=Z.d_twisted
  obtain ⟨f_add_counts,fd_add_counts,F_add_counts⟩:=Z.d_add_counts
  obtain ⟨f_add_count,fd_add_count,F_add_count⟩:=Z.d_add_count
  obtain ⟨f_without_noughts,fd_without_noughts,F_without_noughts⟩:=Z.d_without_noughts
  obtain ⟨f_is_plain,fd_is_plain,F_is_plain⟩:=Z.d_is_plain
  obtain ⟨f_cut,fd_cut,F_cut⟩:=Z.d_cut
  obtain ⟨f_plain_bracket,fd_plain_bracket,F_plain_bracket⟩:=Z.d_plain_bracket
  obtain ⟨f_refuse_unless_plain,fd_refuse_unless_plain,F_refuse_unless_plain⟩:=Z.d_refuse_unless_plain
  obtain ⟨f_plain_sum,fd_plain_sum,F_plain_sum⟩:=Z.d_plain_sum
  obtain ⟨f_plain_sum_of,fd_plain_sum_of,F_plain_sum_of⟩:=Z.d_plain_sum_of
  obtain ⟨f_parts_by_letters,fd_parts_by_letters,F_parts_by_letters⟩:=Z.d_parts_by_letters
  obtain ⟨f_plain_counts_of,fd_plain_counts_of,F_plain_counts_of⟩:=Z.d_plain_counts_of
  obtain ⟨f__law_stir,fd__law_stir,F__law_stir⟩:=Z.d__law_stir
  obtain ⟨f__law_cell,fd__law_cell,F__law_cell⟩:=Z.d__law_cell
  obtain ⟨f__law_whole,fd__law_whole,F__law_whole⟩:=Z.d__law_whole
  obtain ⟨f__law_draw,fd__law_draw,F__law_draw⟩:=Z.d__law_draw
  obtain ⟨f__law_raw,fd__law_raw,F__law_raw⟩:=Z.d__law_raw
  obtain ⟨f__law_by_digits,fd__law_by_digits,F__law_by_digits⟩:=Z.d__law_by_digits
  obtain ⟨f__law_mixed,fd__law_mixed,F__law_mixed⟩:=Z.d__law_mixed
  obtain ⟨f__law_bracket,fd__law_bracket,F__law_bracket⟩:=Z.d__law_bracket
  obtain ⟨f__law_sum,fd__law_sum,F__law_sum⟩:=Z.d__law_sum
  obtain ⟨f__law_put,fd__law_put,F__law_put⟩:=Z.d__law_put
  obtain ⟨f__law_twisted,fd__law_twisted,F__law_twisted⟩:=Z.d__law_twisted
  obtain ⟨f__law_counts,fd__law_counts,F__law_counts⟩:=Z.d__law_counts
  obtain ⟨f__law_of_sum,fd__law_of_sum,F__law_of_sum⟩:=Z.d__law_of_sum
  obtain ⟨f__law_order,fd__law_order,F__law_order⟩:=Z.d__law_order
  obtain ⟨f__law_is_plain,fd__law_is_plain,F__law_is_plain⟩:=Z.d__law_is_plain
  obtain ⟨f__law_plain_bracket,fd__law_plain_bracket,F__law_plain_bracket⟩:=Z.d__law_plain_bracket
  obtain ⟨f__law_is_plain_sum,fd__law_is_plain_sum,F__law_is_plain_sum⟩:=Z.d__law_is_plain_sum
  obtain ⟨f__law_makes,fd__law_makes,F__law_makes⟩:=Z.d__law_makes
  obtain ⟨C_TwistError,C_NoSum,C_NoWord,X_TwistError,X_NoSum,X_NoWord,M_NoSum,M_NoWord⟩:=Z.ex
  have G5:FnOk P w K mg base CX0 14 f_bracket_counts fd_bracket_counts ["bracket"] (spBc (cP cat) 12):=ok_bc T F_bracket_counts F_twisted F_add_count F_without_noughts 12
  have G4:FnOk P w K mg base CX0 15 f_sum_counts fd_sum_counts ["total"] (spSum K (smP cat)):=ok_sc F_sum_counts F_bracket_counts F_add_counts F_add_count F_without_noughts G5
  have GB:FnOk P w K mg base (CXE P w) 13 f_plain_bracket fd_plain_bracket ["word"] (spPb C_NoWord 8):=ok_pb T F_plain_bracket F_cut F_is_plain F_refuse_unless_plain X_NoWord 8
  have GPc:FnOk P w K mg base (CXE P w) 15 f_plain_counts_of fd_plain_counts_of ["part"] (spPc C_NoSum):=ok_pc T F_plain_counts_of F_is_plain F_plain_bracket F_bracket_counts F_add_counts F_add_count F_without_noughts X_NoSum GB G5
  have GPo:FnOk P w K mg base (CXE P w) 16 f_plain_sum_of fd_plain_sum_of ["counts"] (spPso C_NoSum):=ok_pso T F_plain_sum_of F_parts_by_letters F_plain_counts_of F_length_first GPc
  have GPs:FnOk P w K mg base CX0 17 f_plain_sum fd_plain_sum ["total"] (spPsu K):=ok_psu F_plain_sum F_sum_counts F_plain_sum_of G4 GPo
  have G20:FnOk P w K mg base CX0 14 f__law_counts fd__law_counts ["bracket"] (spBc (cL cat) 12):=ok_lc T F__law_counts F__law_put F__law_twisted 12
  have G21:FnOk P w K mg base CX0 15 f__law_of_sum fd__law_of_sum ["total"] (spSum K (smL cat)):=ok_ls F__law_of_sum F__law_counts F__law_put G20
  have G16:FnOk P w K mg base CX0 14 f__law_bracket fd__law_bracket ["script","at","most"] (spBk K):=ok_bk T F__law_bracket F__law_raw F__law_stir F__law_by_digits F__law_mixed F__law_draw
  have G17:FnOk P w K mg base CX0 15 f__law_sum fd__law_sum ["script","at","tuples","most"] (spSm K):=ok_sm T F__law_sum F__law_cell F__law_stir F__law_bracket G16
  have GX:FnOk P w K mg base CX0 9 f__law_plain_bracket fd__law_plain_bracket ["word"] (spLb 8):=ok_lb T F__law_plain_bracket F__law_is_plain 8
  have GI:FnOk P w K mg base CX0 2 f__law_is_plain_sum fd__law_is_plain_sum ["found"] spIp:=ok_ip T F__law_is_plain_sum F__law_order F__law_whole F__law_is_plain
  have GM:FnOk P w K mg base CX0 16 f__law_makes fd__law_makes ["found","counts"] spMk:=ok_mk T F__law_makes F__law_is_plain_sum F__law_of_sum F__law_plain_bracket GI G21 GX
  refine F.fn.ok scLaw (fun vs H Q E h=>?_) (fun cdv A outer s H vs Q E hr h=>?_)
  · obtain ⟨a,ns,rfl,_⟩:=h
    rfl
  obtain ⟨a,ns,rfl,hS,h63,q⟩:=h
  have hr17:Room 17 _:=hr.mono (by omega)
  have hr16:Room 16 _:=hr.mono (by omega)
  have hr15:Room 15 _:=hr.mono (by omega)
  have hu:(A.deeper (envOfC "law" (defScope (top 41)) s.heap.objs.size f cdv)).units < cLine:=by have:=hu_of hr;omega
  refine ⟨_,@PSsW.out _ _ _ (w_cons ⟨ps_set (i:=1) scLaw.nd rfl (Or.inl rfl) (pe_call G17 hr15 rfl F__law_sum.m F__law_sum.k F__law_sum.b .nil pass0 (pa_cons (pv 0) (pa_cons pe_int (pa_cons pe_int (pa_cons pe_int pa_nil)))))⟩
    (w_cons ⟨ps_set (i:=2) scLaw.nd rfl (Or.inl rfl) (pe_callTy call_list_of rfl T.lst bt_list (pa_cons (pv 1) pa_nil))⟩
    (w_cons ⟨ps_set (i:=3) scLaw.nd rfl (Or.inl rfl) (pe_call G21 hr15 rfl F__law_of_sum.m F__law_of_sum.k F__law_of_sum.b .nil pass0 (pa_cons (pv 1) pa_nil))⟩
    (w_cons ⟨ps_for PassesOwn.never rfl (pi_range1 rfl T.rng (pa_cons pe_int pa_nil)) (pg_name (i:=4) scLaw.nd rfl (Or.inl rfl))
      (pss_cons (ps_set (i:=5) scLaw.nd rfl (Or.inl rfl) (pe_call GPs hr17 rfl F_plain_sum.m F_plain_sum.k F_plain_sum.b .nil pass0 (pa_cons (pv 2) pa_nil)))
      (pss_cons (ps_if (PW.pt (pw_or (pt_not (pt_val (pe_call GM hr16 rfl F__law_makes.m F__law_makes.k F__law_makes.b .nil pass0 (pa_cons (pv 5) (pa_cons (pv 3) pa_nil))))) (pw_or1 (pt_cmpR (op_neL hu) (pv 2) (pv 1) (nomark _))))) (pss_one (ps_ret pe_bl)) pss_nil)
      (pss_one (ps_expr (pe_bm PySem.F.plainAttrs_list PySem.F.slot_list_append PySem.F.type_list_append mt_append (pv 5) (pa_cons (pe_tup (pa_cons pe_int (pa_cons pe_str pa_nil))) pa_nil))))))⟩
    (w_one ⟨ps_ret pe_bl⟩))))),?_⟩
  have hz:=sizeLine_eq
  have h62:=p62
  refine ⟨_,rfl,a,ns,0,6,6,rfl,hS,by decide,by decide,by decide,by decide,by decide,fun t ps TT H1 nt s1 e1 hT hl hw=>?_⟩
  refine ⟨_,rfl,t,ps,rfl,.inl hT.1,fun l nl=>?_⟩
  have s2:=new_same nl (.lst ps)
  have hT2:=hT.same s2
  have h12:∀ x∈TT,x.2.wt≤12:=fun x hx=>by have:=(hw x hx).1;omega
  have h8:∀ x∈TT,x.2.wt≤8:=fun x hx=>by have:=(hw x hx).1;omega
  refine ⟨_,rfl,t,ps,TT,rfl,hT2,by omega,h12,fun d H3 nd s3 ed=>?_⟩
  have hT3:=hT2.same s3
  have el:H3 l=some (.lst ps):=s3 _ _ upd_same
  have hTl:TotV K H3 l ps TT:=⟨.inl (.inl el),hT3.2⟩
  have good:=good_smL (op:=cat) TT
  have items:∀ v∈ps,(∃ i,v = .int i)∨(∃ x,v = .str x)∨∃ a,v = .ref a:=fun v hv=>by
    obtain ⟨i,hi⟩:=List.getElem?_of_mem hv
    obtain ⟨x,p,bv,_,e,_⟩:=hT3.at hi
    exact .inr (.inr ⟨p,e⟩)
  refine ⟨2,rfl,by omega,by omega,?_⟩
  refine for_range (lo:=0) (n:=2) (fun i σ Hx=>∃ x4 x5,σ=[some (.ref a),some (.ref t),some (.ref l),some (.ref d),x4,x5]∧Same H3 Hx) ⟨none,none,rfl,fun _ _ h=>h⟩ ?_ ?_
  · rintro i σ Hx hi ⟨x4,x5,rfl,sx⟩
    refine ⟨_,rfl,l,ps,TT,rfl,hTl.same sx,by omega,h8,fun r H4 ws L nr s4 pv' ps' hv=>?_⟩
    refine ⟨_,rfl,_,rfl,r,d,ws,L,smL cat TT,rfl,pv',ps',.inl (s4 _ _ (sx _ _ ed)),good.1,good.2,fun z=>by rw [← hv z];exact (MD.perm_val (nd_smP TT) (sm_perm TT) z).symm,fun H5 s5=>?_⟩
    have s35:Same H3 H5:=sx.trans (s4.trans s5)
    refine ⟨_,rfl,iteF ?_⟩
    refine ⟨_,rfl,_,rfl,l,t,ps,rfl,rfl,(hTl.same s35).1,(hT3.same s35).1,items,_,rfl,iteF ?_⟩
    refine ⟨_,rfl,.inl ⟨rfl,_,.inl (.inl (s5 _ _ pv'.1))⟩,(by show 2≤sizeLine;decide),fun p np=>?_⟩
    have s6:=new_same np (.tup [.int 0,.str (Str.ofString "")])
    have few:=ps'.few
    refine ⟨r,ws,_,rfl,rfl,s6 _ _ (s5 _ _ pv'.1),by rw [pv'.2.1];omega,?_⟩
    exact ⟨_,_,rfl,upd_same2 (s35.trans s6) (sx.free nr)⟩
  · rintro σ Hx ⟨x4,x5,rfl,sx⟩
    exact q _
end
end K01
end
namespace K01
open PySem PySem.Spec PyProof.Rows Tim L2 Wm
noncomputable def DefIn (K:PySem.W.Frag) (x:Str) (st:Stmt):Prop:=∃ (f:Addr) (oc:Value) (od an:Option Addr) (osl:Array (Option Value)) (kV doc pm cdv ct:Value),PySem.W.nsIn K mainGlobals x=some (some (.ref f))∧K.lookup f=some ⟨oc,od,.func (PySem.W.fnOf x x (defArgs st) (defBody st) (defScope st) .none kV doc pm an cdv ct),osl⟩∧PySem.W.codeIn K cdv x=true∧PySem.W.keepIn K (.ref f)=true
theorem dn {K:PySem.W.Frag} {x:Str} {st:Stmt} {f:Addr} {oc:Value} {od an:Option Addr} {osl:Array (Option Value)} {kV doc pm cdv ct:Value} (a:PySem.W.nsIn K mainGlobals x=some (some (.ref f))) (l:K.lookup f=some ⟨oc,od,.func (PySem.W.fnOf x x (defArgs st) (defBody st) (defScope st) .none kV doc pm an cdv ct),osl⟩) (c:PySem.W.codeIn K cdv x=true) (k:PySem.W.keepIn K (.ref f)=true):DefIn K x st:=⟨f,oc,od,an,osl,kV,doc,pm,cdv,ct,a,l,c,k⟩
theorem at_of {K:PySem.W.Frag} {mg:Str→Option Value} {h:Heap} {x:Str} {st:Stmt} {ps:List Str} (X:K.In h) (G:h.Ns mainGlobals mg) (d:DefIn K x st) (hb:∀ (kV doc pm:Value) (an:Option Addr) (cdv ct:Value) (us:List Value),us.length=ps.length→bindArgs (PySem.W.fnOf x x (defArgs st) (defBody st) (defScope st) .none kV doc pm an cdv ct) ⟨us,[]⟩=pure (ps.zip us)):∃ f fd,At K mg x st ps f fd:=by
  obtain ⟨f,oc,od,an,osl,kV,doc,pm,cdv,ct,a,l,c,k⟩:=d
  exact ⟨_,_,at_mk X G a l c k hb⟩
theorem sh {us:List Value} {n:Nat} (h:us.length=n + 1):∃ a t,us=a :: t∧t.length=n:=by
  cases us with
  | nil=>cases h
  | cons a t=>exact ⟨a,t,rfl,Nat.succ.inj h⟩
theorem ar1 {f:FuncData} {ps:List Str} (q:∀ a:Value,bindArgs f ⟨[a],[]⟩=pure (ps.zip [a])) {us:List Value} (h:us.length=1):bindArgs f ⟨us,[]⟩=pure (ps.zip us):=by
  obtain ⟨a,us0,rfl,h0⟩:=sh h
  cases List.length_eq_zero_iff.mp h0
  exact q a
theorem ar2 {f:FuncData} {ps:List Str} (q:∀ a b:Value,bindArgs f ⟨[a,b],[]⟩=pure (ps.zip [a,b])) {us:List Value} (h:us.length=2):bindArgs f ⟨us,[]⟩=pure (ps.zip us):=by
  obtain ⟨a,us0,rfl,h0⟩:=sh h
  obtain ⟨b,us1,rfl,h1⟩:=sh h0
  cases List.length_eq_zero_iff.mp h1
  exact q a b
theorem ar3 {f:FuncData} {ps:List Str} (q:∀ a b c:Value,bindArgs f ⟨[a,b,c],[]⟩=pure (ps.zip [a,b,c])) {us:List Value} (h:us.length=3):bindArgs f ⟨us,[]⟩=pure (ps.zip us):=by
  obtain ⟨a,us0,rfl,h0⟩:=sh h
  obtain ⟨b,us1,rfl,h1⟩:=sh h0
  obtain ⟨c,us2,rfl,h2⟩:=sh h1
  cases List.length_eq_zero_iff.mp h2
  exact q a b c
theorem ar4 {f:FuncData} {ps:List Str} (q:∀ a b c d:Value,bindArgs f ⟨[a,b,c,d],[]⟩=pure (ps.zip [a,b,c,d])) {us:List Value} (h:us.length=4):bindArgs f ⟨us,[]⟩=pure (ps.zip us):=by
  obtain ⟨a,us0,rfl,h0⟩:=sh h
  obtain ⟨b,us1,rfl,h1⟩:=sh h0
  obtain ⟨c,us2,rfl,h2⟩:=sh h1
  obtain ⟨d,us3,rfl,h3⟩:=sh h2
  cases List.length_eq_zero_iff.mp h3
  exact q a b c d
set_option maxHeartbeats 8000000 in
theorem all_mk {l:PySem.W.OpenLaw} {w:World} {K:PySem.W.Frag} {h:Heap} {mg:Str→Option Value} {fa:Addr} (X:K.In h) (G:h.Ns mainGlobals mg) (hfa:mg "law" = some (.ref fa))
    {C_TwistError C_NoSum C_NoWord:Addr}
    (d1:DefIn K "length_first" (top 1))
    (d2:DefIn K "sum_counts" (top 2))
    (d3:DefIn K "bracket_counts" (top 3))
    (d4:DefIn K "twisted" (top 4))
    (d5:DefIn K "add_counts" (top 5))
    (d6:DefIn K "add_count" (top 6))
    (d7:DefIn K "without_noughts" (top 7))
    (d13:DefIn K "is_plain" (top 13))
    (d14:DefIn K "cut" (top 14))
    (d15:DefIn K "plain_bracket" (top 15))
    (d16:DefIn K "refuse_unless_plain" (top 16))
    (d18:DefIn K "plain_sum" (top 18))
    (d19:DefIn K "plain_sum_of" (top 19))
    (d20:DefIn K "parts_by_letters" (top 20))
    (d21:DefIn K "plain_counts_of" (top 21))
    (d23:DefIn K "_law_stir" (top 23))
    (d24:DefIn K "_law_cell" (top 24))
    (d25:DefIn K "_law_whole" (top 25))
    (d26:DefIn K "_law_draw" (top 26))
    (d27:DefIn K "_law_raw" (top 27))
    (d28:DefIn K "_law_by_digits" (top 28))
    (d29:DefIn K "_law_mixed" (top 29))
    (d30:DefIn K "_law_bracket" (top 30))
    (d31:DefIn K "_law_sum" (top 31))
    (d32:DefIn K "_law_put" (top 32))
    (d33:DefIn K "_law_twisted" (top 33))
    (d34:DefIn K "_law_counts" (top 34))
    (d35:DefIn K "_law_of_sum" (top 35))
    (d36:DefIn K "_law_order" (top 36))
    (d37:DefIn K "_law_is_plain" (top 37))
    (d38:DefIn K "_law_plain_bracket" (top 38))
    (d39:DefIn K "_law_is_plain_sum" (top 39))
    (d40:DefIn K "_law_makes" (top 40))
    (d41:DefIn K "law" (top 41))
    (xa_TwistError:PySem.W.nsIn K mainGlobals "TwistError" = some (some (.ref C_TwistError))) (xb_TwistError:excKit K C_TwistError=true)
    (xa_NoSum:PySem.W.nsIn K mainGlobals "NoSum" = some (some (.ref C_NoSum))) (xb_NoSum:excKit K C_NoSum=true)
    (xa_NoWord:PySem.W.nsIn K mainGlobals "NoWord" = some (some (.ref C_NoWord))) (xb_NoWord:excKit K C_NoWord=true)
    (xm_NoSum:PySem.W.mroIn K C_NoSum (.ref C_TwistError)=some true)
    (xm_NoWord:PySem.W.mroIn K C_NoWord (.ref C_TwistError)=some true)
    (z_isi:PySem.W.nsIn K mainGlobals "isinstance" = some none)
    (z_str:PySem.W.nsIn K mainGlobals "str" = some none)
    (z_len:PySem.W.nsIn K mainGlobals "len" = some none)
    (z_lst:PySem.W.nsIn K mainGlobals "list" = some none)
    (z_tup:PySem.W.nsIn K mainGlobals "tuple" = some none)
    (z_int:PySem.W.nsIn K mainGlobals "int" = some none)
    (z_bool:PySem.W.nsIn K mainGlobals "bool" = some none)
    (z_srt:PySem.W.nsIn K mainGlobals "sorted" = some none)
    (z_rng:PySem.W.nsIn K mainGlobals "range" = some none)
    (z_zip:PySem.W.nsIn K mainGlobals "zip" = some none)
    (z_all:PySem.W.nsIn K mainGlobals "all" = some none)
    (z_min:PySem.W.nsIn K mainGlobals "min" = some none)
    (z_max:PySem.W.nsIn K mainGlobals "max" = some none)
    (z_dict:PySem.W.nsIn K mainGlobals "dict" = some none)
    (z_abs:PySem.W.nsIn K mainGlobals "abs" = some none)
    (z_sum:PySem.W.nsIn K mainGlobals "sum" = some none)
    (z_set:PySem.W.nsIn K mainGlobals "set" = some none)
    (z_enm:PySem.W.nsIn K mainGlobals "enumerate" = some none)
    (z_rev:PySem.W.nsIn K mainGlobals "reversed" = some none)
    (z_ve:PySem.W.nsIn K mainGlobals "ValueError" = some none)
    : ∃ fd:FuncData,(∀ (s:Shared) (v:Value),BindsTo s fd ⟨[v],[]⟩ [("script",v)])∧∀ base:Heap,K.In base→base.Ns mainGlobals mg→FnOk l.prog w K mg base CX0 20 fa fd ["script"] (spLaw K):=by
  obtain ⟨f,oc,od,an,osl,kV,doc,pm,cdv,ct,a,l,c,k⟩:=d41
  have e:=hfa.symm.trans (PySem.W.mg_of X G a)
  cases e
  have B:Blt mg:=⟨PySem.W.mg_none_of X G z_isi,PySem.W.mg_none_of X G z_str,PySem.W.mg_none_of X G z_len,PySem.W.mg_none_of X G z_lst,PySem.W.mg_none_of X G z_tup,PySem.W.mg_none_of X G z_int,PySem.W.mg_none_of X G z_bool,PySem.W.mg_none_of X G z_srt,PySem.W.mg_none_of X G z_rng,PySem.W.mg_none_of X G z_zip,PySem.W.mg_none_of X G z_all,PySem.W.mg_none_of X G z_min,PySem.W.mg_none_of X G z_max,PySem.W.mg_none_of X G z_dict,PySem.W.mg_none_of X G z_abs,PySem.W.mg_none_of X G z_sum,PySem.W.mg_none_of X G z_set,PySem.W.mg_none_of X G z_enm,PySem.W.mg_none_of X G z_rev,PySem.W.mg_none_of X G z_ve⟩
  have Z:Defs K mg:=⟨B,at_of X G d1 (fun _ _ _ _ _ _ _ hl=>ar1 (fun _=>rfl) hl),at_of X G d2 (fun _ _ _ _ _ _ _ hl=>ar1 (fun _=>rfl) hl),at_of X G d3 (fun _ _ _ _ _ _ _ hl=>ar1 (fun _=>rfl) hl),at_of X G d4 (fun _ _ _ _ _ _ _ hl=>ar2 (fun _ _=>rfl) hl),at_of X G d5 (fun _ _ _ _ _ _ _ hl=>ar3 (fun _ _ _=>rfl) hl),at_of X G d6 (fun _ _ _ _ _ _ _ hl=>ar3 (fun _ _ _=>rfl) hl),at_of X G d7 (fun _ _ _ _ _ _ _ hl=>ar1 (fun _=>rfl) hl),at_of X G d13 (fun _ _ _ _ _ _ _ hl=>ar1 (fun _=>rfl) hl),at_of X G d14 (fun _ _ _ _ _ _ _ hl=>ar1 (fun _=>rfl) hl),at_of X G d15 (fun _ _ _ _ _ _ _ hl=>ar1 (fun _=>rfl) hl),at_of X G d16 (fun _ _ _ _ _ _ _ hl=>ar1 (fun _=>rfl) hl),at_of X G d18 (fun _ _ _ _ _ _ _ hl=>ar1 (fun _=>rfl) hl),at_of X G d19 (fun _ _ _ _ _ _ _ hl=>ar1 (fun _=>rfl) hl),at_of X G d20 (fun _ _ _ _ _ _ _ hl=>ar1 (fun _=>rfl) hl),at_of X G d21 (fun _ _ _ _ _ _ _ hl=>ar1 (fun _=>rfl) hl),at_of X G d23 (fun _ _ _ _ _ _ _ hl=>ar1 (fun _=>rfl) hl),at_of X G d24 (fun _ _ _ _ _ _ _ hl=>ar2 (fun _ _=>rfl) hl),at_of X G d25 (fun _ _ _ _ _ _ _ hl=>ar1 (fun _=>rfl) hl),at_of X G d26 (fun _ _ _ _ _ _ _ hl=>ar3 (fun _ _ _=>rfl) hl),at_of X G d27 (fun _ _ _ _ _ _ _ hl=>ar2 (fun _ _=>rfl) hl),at_of X G d28 (fun _ _ _ _ _ _ _ hl=>ar2 (fun _ _=>rfl) hl),at_of X G d29 (fun _ _ _ _ _ _ _ hl=>ar3 (fun _ _ _=>rfl) hl),at_of X G d30 (fun _ _ _ _ _ _ _ hl=>ar3 (fun _ _ _=>rfl) hl),at_of X G d31 (fun _ _ _ _ _ _ _ hl=>ar4 (fun _ _ _ _=>rfl) hl),at_of X G d32 (fun _ _ _ _ _ _ _ hl=>ar3 (fun _ _ _=>rfl) hl),at_of X G d33 (fun _ _ _ _ _ _ _ hl=>ar2 (fun _ _=>rfl) hl),at_of X G d34 (fun _ _ _ _ _ _ _ hl=>ar1 (fun _=>rfl) hl),at_of X G d35 (fun _ _ _ _ _ _ _ hl=>ar1 (fun _=>rfl) hl),at_of X G d36 (fun _ _ _ _ _ _ _ hl=>ar1 (fun _=>rfl) hl),at_of X G d37 (fun _ _ _ _ _ _ _ hl=>ar1 (fun _=>rfl) hl),at_of X G d38 (fun _ _ _ _ _ _ _ hl=>ar1 (fun _=>rfl) hl),at_of X G d39 (fun _ _ _ _ _ _ _ hl=>ar1 (fun _=>rfl) hl),at_of X G d40 (fun _ _ _ _ _ _ _ hl=>ar2 (fun _ _=>rfl) hl),⟨C_TwistError,C_NoSum,C_NoWord,excAt_mk X G xa_TwistError xb_TwistError,excAt_mk X G xa_NoSum xb_NoSum,excAt_mk X G xa_NoWord xb_NoWord,xm_NoSum,xm_NoWord⟩⟩
  have hb:∀ (kV doc pm:Value) (an:Option Addr) (cdv ct:Value) (us:List Value),us.length=(["script"]:List Str).length→bindArgs (PySem.W.fnOf "law" "law" (defArgs (top 41)) (defBody (top 41)) (defScope (top 41)) .none kV doc pm an cdv ct) ⟨us,[]⟩=pure ((["script"]:List Str).zip us):=fun _ _ _ _ _ _ _ hl=>ar1 (fun _=>rfl) hl
  exact ⟨_,fun s v=>.of_eq (hb _ _ _ _ _ _ [v] rfl),fun base _ _=>ok_law Z (at_mk X G a l c k hb)⟩
theorem walk {l:PySem.W.OpenLaw} {q:Program} {loose:List Str} {XP:(Str→Option Value)→Heap→Prop} {YP:World→Heap→Prop} {d:DefRec} {K:Params→PySem.W.Frag} (hn:l.most=some 63) (hdf:d.params.defaults=[])
    (hY:∀ (w:World) (h:Heap),YP w h→(K w.params).In h)
    (F:∀ (w:World) (mg:Str→Option Value) (fa:Addr) (h:Heap),(K w.params).In h→h.Ns mainGlobals mg→mg d.name=some (.ref fa) →
      ∃ fd:FuncData,(∀ (s:Shared) (u:Value),BindsTo s fd ⟨[u],[]⟩ [("script",u)])∧∀ base:Heap,(K w.params).In base→base.Ns mainGlobals mg→FnOk l.prog w (K w.params) mg base CX0 20 fa fd ["script"] (spLaw (K w.params))) :
    PySem.W.WalkO q loose XP YP l.row.toRowW d [] (fun f vs=>PySem.call f vs) :=
  L2.walk_of (n:=63) (k:=20) (x:="script") (CX:=fun _=>CX0) (sp:=fun w=>spLaw (K w.params)) hn (by decide) hdf ⟨rfl,by decide,by decide⟩ hY F (fun _ _ a ns hl _ hS=>⟨a,ns,rfl,hS,hl,fun _=>rfl⟩) fun _ _ _ _ _ z=>z
end K01
theorem PySem.W.Fast.tw5899172403605687110 : True := trivial
theorem PySem.W.Fast.tw15306087784716640472 : True := trivial
theorem PySem.W.Fast.tw12291365769962884196 : True := trivial
theorem PySem.W.Fast.tw14909348529720795365 : True := trivial
theorem PySem.W.Fast.tw10404340995140788821 : True := trivial
theorem PySem.W.Fast.tw9028809408822987645 : True := trivial
theorem PySem.W.Fast.tw8230548038264259462 : True := trivial
theorem PySem.W.Fast.tw10896284613530168655 : True := trivial
theorem PySem.W.Fast.tw6548909397437019980 : True := trivial
theorem PySem.W.Fast.tw12952035094746486042 : True := trivial
theorem PySem.W.Fast.tw7627921829401084154 : True := trivial
theorem PySem.W.Fast.tw1626818618868510657 : True := trivial
theorem PySem.W.Fast.tw11414114272288335419 : True := trivial
theorem PySem.W.Fast.tw5914361402052196212 : True := trivial
theorem PySem.W.Fast.tw4091443571143198183 : True := trivial
theorem PySem.W.Fast.tw1406114055738245217 : True := trivial
theorem PySem.W.Fast.tw13131070203532797829 : True := trivial
theorem PySem.W.Fast.tw5522833444924510692 : True := trivial
theorem PySem.W.Fast.tw11511168140353922855 : True := trivial
theorem PySem.W.Fast.tw6558555947856832517 : True := trivial
theorem PySem.W.Fast.tw13626357011116160003 : True := trivial
theorem PySem.W.Fast.tw17961570275710595213 : True := trivial
theorem PySem.W.Fast.tw15193138873771576609 : True := trivial
theorem PySem.W.Fast.tw15774940274648205421 : True := trivial
theorem PySem.W.Fast.tw12637844080482074291 : True := trivial
theorem PySem.W.Fast.tw16166416465151662844 : True := trivial
theorem PySem.W.Fast.tw11609747296851609403 : True := trivial
theorem PySem.W.Fast.tw6009851209466464020 : True := trivial
theorem PySem.W.Fast.tw6674685269038000923 : True := trivial
theorem PySem.W.Fast.tw2518052043241711985 : True := trivial
theorem PySem.W.Fast.tw6019869319292481880 : True := trivial
theorem PySem.W.Fast.tw15458113682296548206 : True := trivial
theorem PySem.W.Fast.tw12806263736066888817 : True := trivial
theorem PySem.W.Fast.tw1442456370925993820 : True := trivial
theorem PySem.W.Fast.tw42390427866784834 : True := trivial
theorem PySem.W.Fast.tw16579538912605742860 : True := trivial
theorem PySem.W.Fast.tw4847087400553438612 : True := trivial
theorem PySem.W.Fast.tw5485117513353195970 : True := trivial
theorem PySem.W.Fast.tw15304804516211784980 : True := trivial
theorem PySem.W.Fast.tw12364172147347077446 : True := trivial
theorem PySem.W.Fast.tw18059492596849238828 : True := trivial
theorem PySem.W.Fast.tw13913640739046950424 : True := trivial
theorem PySem.W.Fast.tw13644375544263344607 : True := trivial
theorem PySem.W.Fast.tw1342539728362863954 : True := trivial
theorem PySem.W.Fast.tw11886223226145096049 : True := trivial
theorem PySem.W.Fast.tw11159828438953467887 : True := trivial
theorem PySem.W.Fast.tw17063570147869431184 : True := trivial
theorem PySem.W.Fast.tw16505274689066973407 : True := trivial
theorem PySem.W.Fast.tw5783400838756483007 : True := trivial
theorem PySem.W.Fast.tw18329422513891842023 : True := trivial
theorem PySem.W.Fast.tw17618672459776447195 : True := trivial
theorem PySem.W.Fast.tw14367712004330261951 : True := trivial
theorem PySem.W.Fast.tw11037112481119883133 : True := trivial
theorem PySem.W.Fast.tw2631651582769975162 : True := trivial
theorem PySem.W.Fast.tw9061196604888868006 : True := trivial
theorem PySem.W.Fast.tw245703469709607208 : True := trivial
theorem PySem.W.Fast.tw10456821258898009590 : True := trivial
theorem PySem.W.Fast.tw38760182502186512 : True := trivial
theorem PySem.W.Fast.tw1661437084945106529 : True := trivial
theorem PySem.W.Fast.tw6227595340725609128 : True := trivial
theorem PySem.W.Fast.tw1665718054620155014 : True := trivial
theorem PySem.W.Fast.tw7266848782576880877 : True := trivial
theorem PySem.W.Fast.tw1533830146034480481 : True := trivial
theorem PySem.W.Fast.tw12601567574106512904 : True := trivial
theorem PySem.W.Fast.tw3799668407525352530 : True := trivial
theorem PySem.W.Fast.tw6630814548968530285 : True := trivial
theorem PySem.W.Fast.tw2547459951649451186 : True := trivial
theorem PySem.W.Fast.tw13713650326286148917 : True := trivial
theorem PySem.W.Fast.tw13419744343390781020 : True := trivial
theorem PySem.W.Fast.tw2886008868555801410 : True := trivial
theorem PySem.W.Fast.tw14601287232782488323 : True := trivial
theorem PySem.W.Fast.tw9352749926513489438 : True := trivial
theorem PySem.W.Fast.tw13866344622706450322 : True := trivial
theorem PySem.W.Fast.tw7713117895433381819 : True := trivial
theorem PySem.W.Fast.tw6731989242840145206 : True := trivial
theorem PySem.W.Fast.tw5629515555523098868 : True := trivial
theorem PySem.W.Fast.tw10552972863000084534 : True := trivial
theorem PySem.W.Fast.tw12798372172341725975 : True := trivial
theorem PySem.W.Fast.tw1991771977542573579 : True := trivial
theorem PySem.W.Fast.tw5633925790921418500 : True := trivial
theorem PySem.W.Fast.tw11007205609795666450 : True := trivial
theorem PySem.W.Fast.tw7490902979710867304 : True := trivial
theorem PySem.W.Fast.tw12644502768482617232 : True := trivial
theorem PySem.W.Fast.tw3019729517070630805 : True := trivial
theorem PySem.W.Fast.tw14339978474164241540 : True := trivial
theorem PySem.W.Fast.tw16899381146728140666 : True := trivial
theorem PySem.W.Fast.tw18410412645905131655 : True := trivial
theorem PySem.W.Fast.tw8746010651635284319 : True := trivial
open PySem PySem.W PyProof.Rows
set_option maxRecDepth 100000 in
set_option maxHeartbeats 0 in
theorem PySem.Challenge.cw_twistbrackets_k06_whole_plain_sums_holds : PySem.Challenge.rw_twistbrackets_k06_whole_plain_sums.Holds := by
  w_on;o_law;k_head;(case hw=>w_witness2)
  k_fill
  refine K01.walk (l:=PySem.Challenge.rw_twistbrackets_k06_whole_plain_sums) rfl rfl (fun w h Y=>PySem.W.kIn_of Y) ?F
  case F =>
    intro w mg fa h KX G hmg
    refine' K01.all_mk KX G hmg ?_ ?_ ?_ ?_ ?_ ?_ ?_ ?_ ?_ ?_ ?_ ?_ ?_ ?_ ?_ ?_ ?_ ?_ ?_ ?_ ?_ ?_ ?_ ?_ ?_ ?_ ?_ ?_ ?_ ?_ ?_ ?_ ?_ ?_ ?xa_TwistError ?xb_TwistError ?xa_NoSum ?xb_NoSum ?xa_NoWord ?xb_NoWord ?xm_NoSum ?xm_NoWord ?z_isi ?z_str ?z_len ?z_lst ?z_tup ?z_int ?z_bool ?z_srt ?z_rng ?z_zip ?z_all ?z_min ?z_max ?z_dict ?z_abs ?z_sum ?z_set ?z_enm ?z_rev ?z_ve
    all_goals try (refine' K01.dn ?a ?l ?c ?k;(case a=>k_is);(case l=>k_is);(case c=>k_is);(case k=>k_is))
    (case xa_TwistError=>k_is)
    (case xb_TwistError=>kernel_rfl)
    (case xa_NoSum=>k_is)
    (case xb_NoSum=>kernel_rfl)
    (case xa_NoWord=>k_is)
    (case xb_NoWord=>kernel_rfl)
    (case xm_NoSum=>k_is)
    (case xm_NoWord=>k_is)
    (case z_isi=>k_is)
    (case z_str=>k_is)
    (case z_len=>k_is)
    (case z_lst=>k_is)
    (case z_tup=>k_is)
    (case z_int=>k_is)
    (case z_bool=>k_is)
    (case z_srt=>k_is)
    (case z_rng=>k_is)
    (case z_zip=>k_is)
    (case z_all=>k_is)
    (case z_min=>k_is)
    (case z_max=>k_is)
    (case z_dict=>k_is)
    (case z_abs=>k_is)
    (case z_sum=>k_is)
    (case z_set=>k_is)
    (case z_enm=>k_is)
    (case z_rev=>k_is)
    (case z_ve=>k_is)
