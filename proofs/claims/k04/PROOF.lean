import PyProof.Rows.All
import Wide.All
import OpenK.AllK
import Wide.FinOn
import PyProof.Rows.SortRuns
import PyProof.Rows.SortKey
import PyProof.Rows.SortStr
import PyProof.Rows.SortShellK
import KE.KSortKey
import Lean
import PyProof.EqAt
import PyProof.EqKinds
import PyProof.TupleCall
import KE.KPairComp
import KE.KDictSum
import PyProof.ConsumeWalk
import PyProof.NeKinds
import KE.KIsAll
import PyProof.IsiPairs
import PyProof.IsiHeapPairs
import PyProof.CompUse
import OpenK.KOwn
import PyProof.ExcArgsOwn
import PyProof.ExcBaseAll.ValueError
import PyProof.StationsW
import PyProof.RulesAs
import PyProof.FString
import PyProof.FString4
import PyProof.StrLawsRepr
import PyProof.NsDelKeeps
import PyProof.StrWalks
import KE.RegKIsAll
import PySem.Challenge.RW_twistbrackets_k04_how_many
set_option linter.all false
set_option Elab.async false
set_option maxRecDepth 100000
section
namespace Tim
open PySem PyProof.Rows
abbrev dflt : Keyed := (Value.none, Value.none)
def G (xs : Array Keyed) (i : Nat) : Keyed := xs[i]?.getD dflt
theorem G_congr {xs ys : Array Keyed} {i j : Nat} (h : xs[i]? = ys[j]?) : G xs i = G ys j := by unfold G; rw [h]
theorem G_at {xs : Array Keyed} {i : Nat} (h : i < xs.size) : xs[i]? = some (G xs i) := by
  unfold G; rw [getElem?_pos xs i h]; rfl
theorem G_mirror {xs : Array Keyed} {i j : Nat} (hj : j ≤ xs.size) (k : Nat) :
    G (mirror xs i j ((j - i) / 2)) k = if i ≤ k ∧ k < j then G xs (i + j - 1 - k) else G xs k := by
  have e := getElem?_mirror_all (i := i) hj k
  by_cases h1 : i ≤ k ∧ k < j
  · rw [if_pos h1] at e ⊢; exact G_congr e
  · rw [if_neg h1] at e ⊢; exact G_congr e
structure Od where
  O : KeyOrd
  key : Keyed → O.α
  rk : Keyed → Nat
variable (o : Od)
def Od.b (x y : Keyed) : Bool := o.O.blt (o.key x) (o.key y)
def Od.lt (x y : Keyed) : Prop := o.b x y = true ∨ (o.b y x = false ∧ o.rk x < o.rk y)
variable {o : Od}
theorem Od.of_b {x y : Keyed} (h : o.b x y = true) : o.lt x y := .inl h
theorem Od.of_nb {x y : Keyed} (h : o.b y x = false) (r : o.rk x < o.rk y) : o.lt x y := .inr ⟨h, r⟩
theorem Od.le_of {x y : Keyed} (h : o.lt x y) : o.b y x = false := by
  rcases h with h | h
  · exact KeyOrd.klt_asymm (O := o.O) h
  · exact h.1
theorem Od.lt_trans {x y z : Keyed} (h1 : o.lt x y) (h2 : o.lt y z) : o.lt x z := by
  rcases h1 with h1 | ⟨h1, r1⟩
  · exact .inl (KeyOrd.klt_of_klt_of_kle (O := o.O) h1 (Od.le_of h2))
  · rcases h2 with h2 | ⟨h2, r2⟩
    · exact .inl (KeyOrd.klt_of_kle_of_klt (O := o.O) h1 h2)
    · exact .inr ⟨KeyOrd.kle_trans (O := o.O) h1 h2, Nat.lt_trans r1 r2⟩
theorem Od.b_irr {x y : Keyed} (h : o.key x = o.key y) : o.b x y = false := by unfold Od.b; rw [h]; exact o.O.irrefl _
variable (o)
def Srt (xs : Array Keyed) (lo hi : Nat) : Prop := ∀ i j, lo ≤ i → i < j → j < hi → o.lt (G xs i) (G xs j)
def Dsc (xs : Array Keyed) (lo hi : Nat) : Prop := ∀ i j, lo ≤ i → i < j → j < hi → o.lt (G xs j) (G xs i)
def Rng (xs : Array Keyed) (lo hi : Nat) : Prop := ∀ i, lo ≤ i → i < hi → lo ≤ o.rk (G xs i) ∧ o.rk (G xs i) < hi
def Rest (xs : Array Keyed) (lo : Nat) : Prop := ∀ i, lo ≤ i → i < xs.size → o.rk (G xs i) = i
variable {o}
theorem Rest.mono {xs : Array Keyed} {a b : Nat} (h : Rest o xs a) (hab : a ≤ b) : Rest o xs b := fun i h1 h2 => h i (by omega) h2
theorem Srt.mono {xs : Array Keyed} {a b c d : Nat} (h : Srt o xs a b) (h1 : a ≤ c) (h2 : d ≤ b) : Srt o xs c d := fun i j a b c => h i j (by omega) b (by omega)
theorem Rest.rng {xs : Array Keyed} {a b : Nat} (h : Rest o xs a) (hb : b ≤ xs.size) : Rng o xs a b := fun i h1 h2 => by
  rw [h i h1 (by omega)]; omega
structure SB (kd : SortKind) (a0 : Array Keyed) (st : SortSt) : Prop where
  perm : (arrOf st).Perm a0
  kind : kindOf st = kd
  failed : failedOf st = none
theorem SB.size {kd : SortKind} {a0 : Array Keyed} {st : SortSt} (h : SB kd a0 st) : (arrOf st).size = a0.size := h.perm.size_eq
theorem SB.arr {kd : SortKind} {a0 : Array Keyed} {st : SortSt} (h : SB kd a0 st) {xs : Array Keyed} (hp : xs.Perm (arrOf st)) : SB kd a0 (setArr st xs) :=
  ⟨hp.trans h.perm, h.kind, h.failed⟩
theorem SB.mem {kd : SortKind} {a0 : Array Keyed} {st : SortSt} (h : SB kd a0 st) {i : Nat} (hi : i < a0.size) : G (arrOf st) i ∈ a0.toList := by
  have hi' : i < (arrOf st).size := by rw [h.size]; exact hi
  have e := G_at hi'
  refine (Array.perm_iff_toList_perm.mp h.perm).mem_iff.mp ?_
  rw [getElem?_pos (arrOf st) i hi'] at e
  rw [← Option.some.inj e]
  simp
def LtOk (prog : Program) (w : World) (A : Around) (s : Shared) (kd : SortKind) (a0 : Array Keyed) (o : Od) : Prop :=
  ∀ (x y : Keyed) (E : Value → Shared → Prop) (Q : Bool → Shared → Prop), x ∈ a0.toList → y ∈ a0.toList → Q (o.b x y) s → wpAny (model prog w) A (keyLt' kd x.1 y.1) Q E s
section
variable {prog : Program} {w : World} {A : Around} {E : Value → Shared → Prop} {s : Shared} {a0 : Array Keyed} {kd : SortKind} {o : Od}
def asc (lo a nrem : Nat) : StateT SortSt Sem AscSt :=
  forIn [a:nrem] ((none, a) : AscSt) fun _ __s => do
    let __x ← ltAt' (lo + __s.snd) (lo + __s.snd - 1)
    match __x with
    | some smaller => if smaller = true then pure (ForInStep.done (none, __s.snd)) else pure (ForInStep.yield (none, __s.snd + 1))
    | _ => pure (ForInStep.done (some none, __s.snd))
def tl3 (lo n nrem : Nat) : StateT SortSt Sem (Option Nat) := do
  reverseSlice' lo (lo + n)
  let __s ← asc lo n nrem
  match __s.fst with
  | some r => pure r
  | none => pure (some __s.snd)
def dsc (lo n nrem : Nat) : StateT SortSt Sem DescSt :=
  forIn [n:nrem] ((none, n, 0) : DescSt) fun _ __s => do
    let __x ← ltAt' (lo + __s.snd.fst) (lo + __s.snd.fst - 1)
    match __x with
    | some smaller =>
      if smaller = true then
        if __s.snd.snd > 0 then do
          reverseSlice' (lo + __s.snd.fst - (__s.snd.snd + 1)) (lo + __s.snd.fst)
          pure (ForInStep.yield (none, __s.snd.fst + 1, 0))
        else pure (ForInStep.yield (none, __s.snd.fst + 1, 0))
      else do
        let __x ← ltAt' (lo + __s.snd.fst - 1) (lo + __s.snd.fst)
        match __x with
        | some larger =>
          if larger = true then pure (ForInStep.done (none, __s.snd.fst, __s.snd.snd))
          else pure (ForInStep.yield (none, __s.snd.fst + 1, __s.snd.snd + 1))
        | _ => pure (ForInStep.done (some none, __s.snd.fst, __s.snd.snd))
    | _ => pure (ForInStep.done (some none, __s.snd.fst, __s.snd.snd))
def dpart (lo n nrem : Nat) : StateT SortSt Sem (Option Nat) := do
  liftM (rule "list.sort.descending-run")
  let __s ← dsc lo (n + 1) nrem
  match __s.fst with
  | some r => pure r
  | none =>
    if __s.snd.snd > 0 then do
      reverseSlice' (lo + __s.snd.fst - (__s.snd.snd + 1)) (lo + __s.snd.fst)
      tl3 lo __s.snd.fst nrem
    else tl3 lo __s.snd.fst nrem
end
end Tim
end
section
namespace Tim
open PySem PyProof.Rows
section
variable {prog : Program} {w : World} {A : Around} {E : Value → Shared → Prop} {s : Shared} {a0 : Array Keyed} {kd : SortKind} {o : Od}
structure Ran (o : Od) (kd : SortKind) (a0 : Array Keyed) (st st' : SortSt) (lo m : Nat) : Prop where
  sb : SB kd a0 st'
  srt : Srt o (arrOf st') lo (lo + m)
  rng : Rng o (arrOf st') lo (lo + m)
  rest : Rest o (arrOf st') (lo + m)
  low : ∀ i, i < lo → G (arrOf st') i = G (arrOf st) i
  pend : pendingOf st' = pendingOf st
structure DI (o : Od) (xs : Array Keyed) (lo x neq : Nat) : Prop where
  le : neq + 1 ≤ x
  far : ∀ i j, lo ≤ i → i < j → j < lo + x → i < lo + x - (neq + 1) → o.lt (G xs j) (G xs i)
  sep : ∀ i j, lo ≤ i → i < lo + x - (neq + 1) → lo + x - (neq + 1) ≤ j → j < lo + x → o.b (G xs j) (G xs i) = true
  key : ∀ i, lo + x - (neq + 1) ≤ i → i < lo + x → o.key (G xs i) = o.key (G xs (lo + x - 1))
  rk : ∀ i j, lo + x - (neq + 1) ≤ i → i < j → j < lo + x → o.rk (G xs i) < o.rk (G xs j)
  rng : Rng o xs lo (lo + x)
  rest : Rest o xs (lo + x)
theorem DI.turn {xs : Array Keyed} {lo x neq : Nat} (d : DI o xs lo x neq) (hx : lo + x ≤ xs.size) :
    Dsc o (mirror xs (lo + x - (neq + 1)) (lo + x) ((lo + x - (lo + x - (neq + 1))) / 2)) lo (lo + x) ∧
    Rng o (mirror xs (lo + x - (neq + 1)) (lo + x) ((lo + x - (lo + x - (neq + 1))) / 2)) lo (lo + x) ∧
    Rest o (mirror xs (lo + x - (neq + 1)) (lo + x) ((lo + x - (lo + x - (neq + 1))) / 2)) (lo + x) ∧
    (∀ k, lo + x - (neq + 1) ≤ k → k < lo + x → o.key (G (mirror xs (lo + x - (neq + 1)) (lo + x) ((lo + x - (lo + x - (neq + 1))) / 2)) k) = o.key (G xs (lo + x - 1))) ∧
    (∀ k, (k < lo ∨ lo + x ≤ k) → G (mirror xs (lo + x - (neq + 1)) (lo + x) ((lo + x - (lo + x - (neq + 1))) / 2)) k = G xs k) := by
  have hG : ∀ k, G (mirror xs (lo + x - (neq + 1)) (lo + x) ((lo + x - (lo + x - (neq + 1))) / 2)) k = if lo + x - (neq + 1) ≤ k ∧ k < lo + x then G xs (lo + x - (neq + 1) + (lo + x) - 1 - k) else G xs k := fun k => G_mirror hx k
  have hle := d.le
  refine ⟨fun i j hi hij hj => ?_, fun i hi hij => ?_, fun i hi hij => ?_, fun k hk hk2 => ?_, fun k hk => ?_⟩
  · rw [hG, hG]
    by_cases q : lo + x - (neq + 1) ≤ i
    · rw [if_pos (by omega), if_pos (by omega)]
      refine Od.of_nb ?_ (d.rk _ _ (by omega) (by omega) (by omega))
      exact Od.b_irr ((d.key _ (by omega) (by omega)).trans (d.key _ (by omega) (by omega)).symm)
    · rw [if_neg (c := lo + x - (neq + 1) ≤ i ∧ i < lo + x) (by omega)]
      split
      · exact d.far _ _ (by omega) (by omega) (by omega) (by omega)
      · exact d.far _ _ (by omega) (by omega) (by omega) (by omega)
  · rw [hG]
    split
    · exact d.rng _ (by omega) (by omega)
    · exact d.rng _ (by omega) (by omega)
  · rw [mirror_size] at hij
    rw [hG, if_neg (by omega)]
    exact d.rest _ hi hij
  · rw [hG, if_pos ⟨hk, hk2⟩]
    exact d.key _ (by omega) (by omega)
  · rw [hG, if_neg (by omega)]
theorem Dsc.next {xs : Array Keyed} {lo x : Nat} (hd : Dsc o xs lo (lo + x)) (h1 : 1 ≤ x) (hg : Rng o xs lo (lo + x)) (hr : Rest o xs (lo + x)) (hx : lo + x < xs.size) (hb : o.b (G xs (lo + x)) (G xs (lo + x - 1)) = true) : DI o xs lo (x + 1) 0 where
  le := by omega
  far := fun i j hi hij hj hb' => by
    by_cases q : j < lo + x
    · exact hd i j hi hij q
    · have e : j = lo + x := by omega
      subst e
      by_cases q2 : i = lo + x - 1
      · subst q2; exact Od.of_b hb
      · exact Od.lt_trans (Od.of_b hb) (hd i (lo + x - 1) hi (by omega) (by omega))
  sep := fun i j hi h1' h2 h3 => by
    have e : j = lo + x := by omega
    subst e
    by_cases q2 : i = lo + x - 1
    · subst q2; exact hb
    · exact KeyOrd.klt_of_klt_of_kle (O := o.O) hb (Od.le_of (hd i (lo + x - 1) hi (by omega) (by omega)))
  key := fun i h1 h2 => by congr 2; omega
  rk := fun i j h1 h2 h3 => by omega
  rng := fun i hi hij => by
    by_cases q : i < lo + x
    · have := hg i hi q; omega
    · have := hr i (by omega) (by omega); omega
  rest := hr.mono (by omega)
end
end Tim
end
section
namespace Tim
open PySem PyProof.Rows
def gallop' : Bool → Keyed → Array Keyed → Nat → Nat → Nat → StateT SortSt Sem (Option Nat) := sortPriv% PySem.Builtin.gallop
def gp (o : Od) (left : Bool) (key : Keyed) (arr : Array Keyed) (base i : Nat) : Bool := if left then o.b (G arr (base + i)) key else !(o.b key (G arr (base + i)))
def byd (left : Bool) (key : Keyed) (arr : Array Keyed) (base i : Nat) : StateT SortSt Sem (Option Bool) := do
  let x ← elem' arr (base + i)
  if left = true then lt' x key
  else do
    let __do_lift ← lt' key x
    pure (Option.map (fun x => !x) __do_lift)
def bsl (left : Bool) (key : Keyed) (arr : Array Keyed) (base n lo hi : Nat) : StateT SortSt Sem (Option Nat) := do
  let __s ←
    forIn [:n] ((none, lo, hi) : DescSt) fun x __s =>
      if __s.snd.fst ≥ __s.snd.snd then pure (ForInStep.done (none, __s.snd.fst, __s.snd.snd))
      else do
        let __x ← byd left key arr base (__s.snd.fst + (__s.snd.snd - __s.snd.fst) / 2)
        match __x with
          | some more =>
            if more = true then
              pure (ForInStep.yield (none, __s.snd.fst + (__s.snd.snd - __s.snd.fst) / 2 + 1, __s.snd.snd))
            else
              pure (ForInStep.yield (none, __s.snd.fst, __s.snd.fst + (__s.snd.snd - __s.snd.fst) / 2))
          | x => pure (ForInStep.done (some none, __s.snd.fst, __s.snd.snd))
  match __s.fst with
    | some r => pure r
    | none => pure (some __s.snd.snd)
section
variable {prog : Program} {w : World} {A : Around} {E : Value → Shared → Prop} {s : Shared} {a0 : Array Keyed} {kd : SortKind} {o : Od}
end
end Tim
end
section
namespace Tim
open PySem PyProof.Rows
variable {o : Od}
abbrev setGal (st : SortSt) (g : Nat) : SortSt := SortSt.mk' (kindOf st) (arrOf st) (pendingOf st) g (failedOf st)
def mergeLo' : Array Keyed → Array Keyed → StateT SortSt Sem (Array Keyed) := sortPriv% PySem.Builtin.mergeLo
def mergeHi' : Array Keyed → Array Keyed → StateT SortSt Sem (Array Keyed) := sortPriv% PySem.Builtin.mergeHi
def setMinGallop' : Nat → StateT SortSt Sem Unit := sortPriv% PySem.Builtin.setMinGallop
structure MG (o : Od) (a0 a b : Array Keyed) : Prop where
  sA : a.toList.Pairwise o.lt
  sB : b.toList.Pairwise o.lt
  rk : ∀ x ∈ a.toList, ∀ y ∈ b.toList, o.rk x < o.rk y
  mA : ∀ x ∈ a.toList, x ∈ a0.toList
  mB : ∀ x ∈ b.toList, x ∈ a0.toList
  nA : 1 ≤ a.size
  nB : 1 ≤ b.size
  first : ∀ x ∈ a.toList, o.lt (G b 0) x
  last : ∀ y ∈ b.toList, o.lt y (G a (a.size - 1))
def MR (o : Od) (a b r : Array Keyed) : Prop := r.toList.Perm (a.toList ++ b.toList) ∧ r.toList.Pairwise o.lt
structure ML (o : Od) (a b out : Array Keyed) (ia ib : Nat) : Prop where
  perm : (out.toList ++ (a.toList.drop ia ++ b.toList.drop ib)).Perm (a.toList ++ b.toList)
  srt : out.toList.Pairwise o.lt
  lt : ∀ x ∈ out.toList, ∀ y ∈ a.toList.drop ia ++ b.toList.drop ib, o.lt x y
theorem drop_cons {xs : Array Keyed} {i : Nat} (h : i < xs.size) : xs.toList.drop i = G xs i :: xs.toList.drop (i + 1) := by
  have h' : i < xs.toList.length := by simpa using h
  have e := G_at h
  rw [List.drop_eq_getElem_cons h']
  congr 1
  have : xs[i]? = some xs.toList[i] := by rw [getElem?_pos xs i h]; simp
  rw [this] at e
  exact Option.some.inj e
theorem mem_drop_G {xs : Array Keyed} {j : Nat} {x : Keyed} (h : x ∈ xs.toList.drop j) : ∃ i, j ≤ i ∧ i < xs.size ∧ x = G xs i := by
  obtain ⟨n, hn, e⟩ := List.mem_iff_getElem.mp h
  rw [List.length_drop] at hn
  have hl : xs.toList.length = xs.size := by simp
  refine ⟨j + n, by omega, by omega, ?_⟩
  rw [List.getElem_drop] at e
  have q := G_at (xs := xs) (i := j + n) (by omega)
  rw [getElem?_pos xs (j + n) (by omega)] at q
  rw [← Option.some.inj q, ← e]; simp
theorem pw_G {xs : Array Keyed} (h : xs.toList.Pairwise o.lt) {i j : Nat} (hij : i < j) (hj : j < xs.size) : o.lt (G xs i) (G xs j) := by
  have q := List.pairwise_iff_getElem.mp h i j (by simp; omega) (by simpa using hj) hij
  have e1 := G_at (xs := xs) (i := i) (by omega)
  have e2 := G_at (xs := xs) (i := j) hj
  rw [getElem?_pos xs i (by omega)] at e1
  rw [getElem?_pos xs j hj] at e2
  rw [← Option.some.inj e1, ← Option.some.inj e2]
  simpa using q
theorem ML.pushA {a0 a b out : Array Keyed} {ia ib : Nat} (g : MG o a0 a b) (m : ML o a b out ia ib) (h : ia < a.size) (hb : ∀ y ∈ b.toList.drop ib, o.lt (G a ia) y) : ML o a b (out.push (G a ia)) (ia + 1) ib := by
  have e := drop_cons h
  refine ⟨?_, ?_, ?_⟩
  · refine List.Perm.trans ?_ m.perm
    rw [e, Array.toList_push, List.append_assoc]; exact List.Perm.refl _
  · rw [Array.toList_push]
    refine List.pairwise_append.mpr ⟨m.srt, by simp, fun x hx y hy => ?_⟩
    rw [List.mem_singleton] at hy; subst hy
    exact m.lt x hx _ (by rw [e]; simp)
  · intro x hx y hy
    rw [Array.toList_push] at hx
    rcases List.mem_append.mp hx with hx | hx
    · refine m.lt x hx y ?_
      rw [e]
      rcases List.mem_append.mp hy with hy | hy
      · exact List.mem_append_left _ (List.mem_cons_of_mem _ hy)
      · exact List.mem_append_right _ hy
    · rw [List.mem_singleton] at hx; subst hx
      rcases List.mem_append.mp hy with hy | hy
      · obtain ⟨i, h1, h2, rfl⟩ := mem_drop_G hy
        exact pw_G g.sA (by omega) h2
      · exact hb y hy
theorem ML.pushB {a0 a b out : Array Keyed} {ia ib : Nat} (g : MG o a0 a b) (m : ML o a b out ia ib) (h : ib < b.size) (hb : ∀ y ∈ a.toList.drop ia, o.lt (G b ib) y) : ML o a b (out.push (G b ib)) ia (ib + 1) := by
  have e := drop_cons h
  refine ⟨?_, ?_, ?_⟩
  · refine List.Perm.trans ?_ m.perm
    rw [e, Array.toList_push, List.append_assoc]
    refine List.Perm.append_left _ ?_
    show (G b ib :: (List.drop ia a.toList ++ List.drop (ib + 1) b.toList)).Perm _
    exact List.perm_middle.symm
  · rw [Array.toList_push]
    refine List.pairwise_append.mpr ⟨m.srt, by simp, fun x hx y hy => ?_⟩
    rw [List.mem_singleton] at hy; subst hy
    exact m.lt x hx _ (by rw [e]; simp)
  · intro x hx y hy
    rw [Array.toList_push] at hx
    rcases List.mem_append.mp hx with hx | hx
    · refine m.lt x hx y ?_
      rw [e]
      rcases List.mem_append.mp hy with hy | hy
      · exact List.mem_append_left _ hy
      · exact List.mem_append_right _ (List.mem_cons_of_mem _ hy)
    · rw [List.mem_singleton] at hx; subst hx
      rcases List.mem_append.mp hy with hy | hy
      · exact hb y hy
      · obtain ⟨i, h1, h2, rfl⟩ := mem_drop_G hy
        exact pw_G g.sB (by omega) h2
theorem ext_drop (xs : Array Keyed) (i : Nat) : (xs.extract i xs.size).toList = xs.toList.drop i := by
  rw [Array.toList_extract, List.extract_eq_take_drop]
  exact List.take_of_length_le (by simp)
theorem ML.done {a0 a b out : Array Keyed} {ia ib : Nat} (g : MG o a0 a b) (m : ML o a b out ia ib) (h : ia = a.size ∨ ib = b.size) : MR o a b (out ++ a.extract ia a.size ++ b.extract ib b.size) := by
  have e : (out ++ a.extract ia a.size ++ b.extract ib b.size).toList = out.toList ++ (a.toList.drop ia ++ b.toList.drop ib) := by
    rw [Array.toList_append, Array.toList_append, ext_drop, ext_drop, List.append_assoc]
  refine ⟨by rw [e]; exact m.perm, ?_⟩
  rw [e]
  refine List.pairwise_append.mpr ⟨m.srt, ?_, m.lt⟩
  rcases h with h | h
  · have e2 : a.toList.drop ia = [] := List.drop_eq_nil_of_le (by simp; omega)
    rw [e2, List.nil_append]; exact g.sB.drop
  · have e2 : b.toList.drop ib = [] := List.drop_eq_nil_of_le (by simp; omega)
    rw [e2, List.append_nil]; exact g.sA.drop
theorem ML.start {a0 a b : Array Keyed} (g : MG o a0 a b) : ML o a b #[G b 0] 0 1 := by
  have m : ML o a b #[] 0 0 := ⟨by simp, by simp, fun x hx => by simp at hx⟩
  exact m.pushB g g.nB fun y hy => g.first y (List.mem_of_mem_drop hy)
end Tim
end
section
namespace Tim
open PySem PyProof.Rows
section
variable {prog : Program} {w : World} {A : Around} {E : Value → Shared → Prop} {s : Shared} {a0 : Array Keyed} {kd : SortKind} {o : Od}
structure Al (st0 st : SortSt) : Prop where
  kind : kindOf st = kindOf st0
  arr : arrOf st = arrOf st0
  pend : pendingOf st = pendingOf st0
  failed : failedOf st = failedOf st0
theorem Al.refl (st : SortSt) : Al st st := ⟨rfl, rfl, rfl, rfl⟩
end
end Tim
end
section
namespace Tim
open PySem PyProof.Rows
variable {o : Od}
structure MH (o : Od) (a b out : Array Keyed) (na nb : Nat) : Prop where
  perm : ((a.toList.take na ++ b.toList.take nb) ++ out.toList.reverse).Perm (a.toList ++ b.toList)
  srt : out.toList.reverse.Pairwise o.lt
  lt : ∀ x ∈ a.toList.take na ++ b.toList.take nb, ∀ y ∈ out.toList, o.lt x y
theorem take_snoc {xs : Array Keyed} {i : Nat} (h : i < xs.size) : xs.toList.take (i + 1) = xs.toList.take i ++ [G xs i] := by
  have e := drop_cons h
  rw [List.take_succ]
  congr 1
  have q2 : xs.toList[i]? = some (G xs i) := by
    rw [← List.head?_drop, e]; rfl
  rw [q2]; rfl
theorem mem_take_G {xs : Array Keyed} {j : Nat} {x : Keyed} (h : x ∈ xs.toList.take j) : ∃ i, i < j ∧ i < xs.size ∧ x = G xs i := by
  obtain ⟨n, hn, e⟩ := List.mem_iff_getElem.mp h
  rw [List.length_take] at hn
  have hl : xs.toList.length = xs.size := by simp
  refine ⟨n, by omega, by omega, ?_⟩
  rw [List.getElem_take] at e
  have q := G_at (xs := xs) (i := n) (by omega)
  rw [getElem?_pos xs n (by omega)] at q
  rw [← Option.some.inj q, ← e]; simp
theorem MH.pushA {a0 a b out : Array Keyed} {na nb : Nat} (g : MG o a0 a b) (m : MH o a b out (na + 1) nb) (h : na < a.size) (hb : ∀ x ∈ b.toList.take nb, o.lt x (G a na)) : MH o a b (out.push (G a na)) na nb := by
  have e := take_snoc h
  refine ⟨?_, ?_, ?_⟩
  · refine List.Perm.trans ?_ m.perm
    rw [e, Array.toList_push, List.reverse_append]
    show ((List.take na a.toList ++ List.take nb b.toList) ++ (G a na :: out.toList.reverse)).Perm ((List.take na a.toList ++ [G a na]) ++ List.take nb b.toList ++ out.toList.reverse)
    refine List.perm_middle.trans ?_
    rw [← List.cons_append]
    refine List.Perm.append_right _ ?_
    rw [List.append_assoc]
    exact List.perm_middle.symm
  · rw [Array.toList_push, List.reverse_append]
    show (G a na :: out.toList.reverse).Pairwise o.lt
    refine List.pairwise_cons.mpr ⟨fun y hy => ?_, m.srt⟩
    exact m.lt _ (by rw [e]; simp) y (List.mem_reverse.mp hy)
  · intro x hx y hy
    rw [Array.toList_push] at hy
    rcases List.mem_append.mp hy with hy | hy
    · refine m.lt x ?_ y hy
      rw [e]
      rcases List.mem_append.mp hx with hx | hx
      · exact List.mem_append_left _ (List.mem_append_left _ hx)
      · exact List.mem_append_right _ hx
    · rw [List.mem_singleton] at hy; subst hy
      rcases List.mem_append.mp hx with hx | hx
      · obtain ⟨i, h1, h2, rfl⟩ := mem_take_G hx
        exact pw_G g.sA (by omega) h
      · exact hb x hx
theorem MH.pushB {a0 a b out : Array Keyed} {na nb : Nat} (g : MG o a0 a b) (m : MH o a b out na (nb + 1)) (h : nb < b.size) (hb : ∀ x ∈ a.toList.take na, o.lt x (G b nb)) : MH o a b (out.push (G b nb)) na nb := by
  have e := take_snoc h
  refine ⟨?_, ?_, ?_⟩
  · refine List.Perm.trans ?_ m.perm
    rw [e, Array.toList_push, List.reverse_append]
    show ((List.take na a.toList ++ List.take nb b.toList) ++ (G b nb :: out.toList.reverse)).Perm (List.take na a.toList ++ (List.take nb b.toList ++ [G b nb]) ++ out.toList.reverse)
    rw [← List.append_assoc, List.append_assoc _ [G b nb]]
    exact List.Perm.refl _
  · rw [Array.toList_push, List.reverse_append]
    show (G b nb :: out.toList.reverse).Pairwise o.lt
    refine List.pairwise_cons.mpr ⟨fun y hy => ?_, m.srt⟩
    exact m.lt _ (by rw [e]; simp) y (List.mem_reverse.mp hy)
  · intro x hx y hy
    rw [Array.toList_push] at hy
    rcases List.mem_append.mp hy with hy | hy
    · refine m.lt x ?_ y hy
      rw [e]
      rcases List.mem_append.mp hx with hx | hx
      · exact List.mem_append_left _ hx
      · exact List.mem_append_right _ (List.mem_append_left _ hx)
    · rw [List.mem_singleton] at hy; subst hy
      rcases List.mem_append.mp hx with hx | hx
      · exact hb x hx
      · obtain ⟨i, h1, h2, rfl⟩ := mem_take_G hx
        exact pw_G g.sB (by omega) h
theorem ext_take (xs : Array Keyed) (i : Nat) : (xs.extract 0 i).toList = xs.toList.take i := by
  rw [Array.toList_extract, List.extract_eq_take_drop]; simp
theorem MH.done {a0 a b out : Array Keyed} {na nb : Nat} (g : MG o a0 a b) (m : MH o a b out na nb) (h : na = 0 ∨ nb = 0) : MR o a b (a.extract 0 na ++ b.extract 0 nb ++ out.reverse) := by
  have e : (a.extract 0 na ++ b.extract 0 nb ++ out.reverse).toList = (a.toList.take na ++ b.toList.take nb) ++ out.toList.reverse := by
    rw [Array.toList_append, Array.toList_append, ext_take, ext_take, Array.toList_reverse]
  refine ⟨by rw [e]; exact m.perm, ?_⟩
  rw [e]
  refine List.pairwise_append.mpr ⟨?_, m.srt, fun x hx y hy => m.lt x hx y (List.mem_reverse.mp hy)⟩
  rcases h with h | h
  · rw [h, List.take_zero, List.nil_append]; exact g.sB.take
  · rw [h, List.take_zero, List.append_nil]; exact g.sA.take
theorem MH.start {a0 a b : Array Keyed} (g : MG o a0 a b) : MH o a b #[G a (a.size - 1)] (a.size - 1) b.size := by
  have m : MH o a b #[] (a.size - 1 + 1) b.size := by
    have nA := g.nA
    refine ⟨?_, by simp, fun x hx y hy => by simp at hy⟩
    rw [show a.size - 1 + 1 = a.size by omega, List.take_of_length_le (by simp), List.take_of_length_le (by simp)]
    simp
  have nA := g.nA
  exact m.pushA g (by omega) fun y hy => g.last y (List.mem_of_mem_take hy)
section
variable {prog : Program} {w : World} {A : Around} {E : Value → Shared → Prop} {s : Shared} {a0 : Array Keyed} {kd : SortKind}
abbrev Hr := Option (Array Keyed) × Nat × Nat × Array Keyed × Nat × Nat × Nat
def HI (o : Od) (a b : Array Keyed) (st0 : SortSt) (lim : Nat) (c : Hr) (st : SortSt) : Prop :=
  Al st0 st ∧ ∃ out na nb mg ac bc, c = (none, na, nb, out, mg, ac, bc) ∧ MH o a b out na nb ∧ 1 ≤ na ∧ 2 ≤ nb ∧ na ≤ a.size ∧ nb ≤ b.size ∧ na + nb ≤ lim
def HD (o : Od) (a b : Array Keyed) (st0 : SortSt) (lim : Nat) (c : Hr) (st : SortSt) : Prop :=
  (Al st0 st ∧ ∃ r, c.1 = some r ∧ MR o a b r) ∨ HI o a b st0 lim c st
def HS (o : Od) (a b : Array Keyed) (st0 : SortSt) (lim : Nat) (r : ForInStep Hr) (st : SortSt) : Prop := match r with
  | .done c => HD o a b st0 lim c st
  | .yield c => HI o a b st0 lim c st
end
end Tim
end
section
namespace Tim
open PySem PyProof.Rows
variable {o : Od}
def wback (c : Nat) (r xs : Array Keyed) : Array Keyed := r.toList.zipIdx.foldl (fun a (p : Keyed × Nat) => a.setIfInBounds (c + p.2) p.1) xs
section
variable {prog : Program} {w : World} {A : Around} {E : Value → Shared → Prop} {s : Shared} {a0 : Array Keyed} {kd : SortKind}
structure Two (o : Od) (xs : Array Keyed) (sa na nb : Nat) : Prop where
  nA : 1 ≤ na
  nB : 1 ≤ nb
  sz : sa + na + nb ≤ xs.size
  sA : Srt o xs sa (sa + na)
  sB : Srt o xs (sa + na) (sa + na + nb)
  rA : Rng o xs sa (sa + na)
  rB : Rng o xs (sa + na) (sa + na + nb)
theorem Two.rk {xs : Array Keyed} {sa na nb i j : Nat} (t : Two o xs sa na nb) (h1 : sa ≤ i) (h2 : i < sa + na) (h3 : sa + na ≤ j) (h4 : j < sa + na + nb) : o.rk (G xs i) < o.rk (G xs j) := by
  have := (t.rA i h1 h2).2
  have := (t.rB j h3 h4).1
  omega
theorem Two.rng {xs : Array Keyed} {sa na nb : Nat} (t : Two o xs sa na nb) : Rng o xs sa (sa + na + nb) := fun i h1 h2 => by
  by_cases q : i < sa + na
  · have := t.rA i h1 q; omega
  · have := t.rB i (by omega) h2; omega
end
end Tim
end
section
namespace Tim
open PySem PyProof.Rows
variable {o : Od}
abbrev Pn := Nat × Nat × Nat
def Runs (o : Od) (xs : Array Keyed) : List Pn → Nat → Nat → Prop
  | [], a, z => a = z
  | (s, n, _) :: r, a, z => s = a ∧ 1 ≤ n ∧ Srt o xs a (a + n) ∧ Rng o xs a (a + n) ∧ Runs o xs r (a + n) z
theorem Runs.le {xs : Array Keyed} : ∀ {ps : List Pn} {a z : Nat}, Runs o xs ps a z → a + ps.length ≤ z
  | [], a, z, h => by have h : a = z := h; simp; omega
  | (s, n, p) :: r, a, z, h => by
    obtain ⟨_, h1, _, _, h2⟩ := h
    have := h2.le
    rw [List.length_cons]; omega
theorem Runs.congr {xs ys : Array Keyed} : ∀ {ps : List Pn} {a z : Nat}, Runs o xs ps a z → (∀ j, a ≤ j → j < z → G ys j = G xs j) → Runs o ys ps a z
  | [], a, z, h, _ => h
  | (s, n, p) :: r, a, z, h, e => by
    obtain ⟨h1, h2, h3, h4, h5⟩ := h
    have hz := h5.le
    refine ⟨h1, h2, fun i j a1 a2 a3 => ?_, fun i a1 a2 => ?_, h5.congr fun j a1 a2 => e j (by omega) a2⟩
    · rw [e i a1 (by omega), e j (by omega) (by omega)]; exact h3 i j a1 a2 a3
    · rw [e i a1 (by omega)]; exact h4 i a1 a2
theorem Runs.snoc {xs : Array Keyed} : ∀ {ps : List Pn} {a z n p : Nat}, Runs o xs ps a z → 1 ≤ n → Srt o xs z (z + n) → Rng o xs z (z + n) → Runs o xs (ps ++ [(z, n, p)]) a (z + n)
  | [], a, z, n, p, h, h1, h2, h3 => by
    have h : a = z := h
    subst h
    exact ⟨rfl, h1, h2, h3, rfl⟩
  | (s, m, q) :: r, a, z, n, p, h, h1, h2, h3 => by
    obtain ⟨g1, g2, g3, g4, g5⟩ := h
    exact ⟨g1, g2, g3, g4, g5.snoc h1 h2 h3⟩
theorem Runs.same {xs : Array Keyed} : ∀ {ps qs : List Pn} {a z : Nat}, Runs o xs ps a z → qs.map (fun p => (p.1, p.2.1)) = ps.map (fun p => (p.1, p.2.1)) → Runs o xs qs a z
  | [], [], a, z, h, _ => h
  | [], _ :: _, _, _, _, e => by simp at e
  | _ :: _, [], _, _, _, e => by simp at e
  | (s, n, p) :: r, (s', n', p') :: r', a, z, h, e => by
    simp only [List.map_cons, List.cons.injEq, Prod.mk.injEq] at e
    obtain ⟨⟨e1, e2⟩, e3⟩ := e
    obtain ⟨g1, g2, g3, g4, g5⟩ := h
    subst e1 e2
    exact ⟨g1, g2, g3, g4, g5.same e3⟩
section
variable {prog : Program} {w : World} {A : Around} {E : Value → Shared → Prop} {s : Shared} {a0 : Array Keyed} {kd : SortKind}
structure Bt (o : Od) (kd : SortKind) (a0 : Array Keyed) (lo : Nat) (st : SortSt) : Prop where
  sb : SB kd a0 st
  le : lo ≤ a0.size
  runs : Runs o (arrOf st) (pendingOf st).toList 0 lo
  rest : Rest o (arrOf st) lo
structure Nw (o : Od) (kd : SortKind) (a0 : Array Keyed) (lo n : Nat) (st : SortSt) : Prop where
  sb : SB kd a0 st
  runs : Runs o (arrOf st) (pendingOf st).toList 0 lo
  srt : Srt o (arrOf st) lo (lo + n)
  rng : Rng o (arrOf st) lo (lo + n)
  rest : Rest o (arrOf st) (lo + n)
theorem Nw.put {lo n : Nat} {st : SortSt} (h : Nw o kd a0 lo n st) (n1 : 1 ≤ n) (n2 : lo + n ≤ a0.size) : Bt o kd a0 (lo + n) (setPending st ((pendingOf st).push (lo, n, 0))) := by
  refine ⟨⟨h.sb.perm, h.sb.kind, h.sb.failed⟩, n2, ?_, h.rest⟩
  show Runs o (arrOf st) ((pendingOf st).push (lo, n, 0)).toList 0 (lo + n)
  rw [Array.toList_push]
  exact h.runs.snoc n1 h.srt h.rng
end
end Tim
end
section
namespace Tim
open PySem PyProof.Rows
open Classical in
noncomputable def rkOf (a0 : Array Keyed) (p : Keyed) : Nat := if h : ∃ i, i < a0.size ∧ G a0 i = p then h.choose else 0
noncomputable abbrev odOf (O : KeyOrd) (key : Keyed → O.α) (a0 : Array Keyed) : Od := ⟨O, key, rkOf a0⟩
section
variable {prog : Program} {w : World} {A : Around} {E : Value → Shared → Prop} {s : Shared}
def intOrd : KeyOrd where
  α := Int
  blt a b := decide (a < b)
  irrefl a := by simp
  trans a b c h1 h2 := by simp only [decide_eq_true_eq] at *; omega
  negTrans a b c h := by simp only [decide_eq_true_eq] at *; omega
  total a b h1 h2 := by simp only [decide_eq_false_iff_not] at *; omega
end
def pairOrd : KeyOrd where
  α := Int × List Nat
  blt a b := decide (a.1 < b.1) || (decide (a.1 = b.1) && decide (a.2 < b.2))
  irrefl a := by simp [List.lt_irrefl]
  trans a b c h1 h2 := by
    simp only [Bool.or_eq_true, Bool.and_eq_true, decide_eq_true_eq] at *
    rcases h1 with h1 | ⟨h1, g1⟩
    · rcases h2 with h2 | ⟨h2, g2⟩
      · exact .inl (by omega)
      · exact .inl (by omega)
    · rcases h2 with h2 | ⟨h2, g2⟩
      · exact .inl (by omega)
      · exact .inr ⟨by omega, List.lt_trans g1 g2⟩
  negTrans a b c h := by
    simp only [Bool.or_eq_true, Bool.and_eq_true, decide_eq_true_eq] at *
    by_cases h1 : a.1 < b.1
    · exact .inl (.inl h1)
    by_cases h2 : b.1 < c.1
    · exact .inr (.inl h2)
    rcases h with h | ⟨h, g⟩
    · omega
    · have e1 : a.1 = b.1 := by omega
      have e2 : b.1 = c.1 := by omega
      by_cases hab : a.2 < b.2
      · exact .inl (.inr ⟨e1, hab⟩)
      · exact .inr (.inr ⟨e2, List.lt_of_le_of_lt (List.not_lt.mp hab) g⟩)
  total a b h1 h2 := by
    simp only [Bool.or_eq_false_iff, Bool.and_eq_false_iff, decide_eq_false_iff_not] at *
    have e : a.1 = b.1 := by omega
    have h3 := h1.2.resolve_left (fun z => z e)
    have h4 := h2.2.resolve_left (fun z => z e.symm)
    exact Prod.ext e (List.le_antisymm (List.not_lt.mp h4) (List.not_lt.mp h3))
end Tim
end
section
namespace Tim
open PySem PyProof.Rows
def PairAt (h : Heap) (v : Value) (n : Int) (x : Str) : Prop := ∃ a o t u e, v = .ref a ∧ h.get? a = some o ∧ o.cls = .type "tuple" ∧ o.data = .seq #[.int n t, .str x u] e
open Classical in
noncomputable def pairKey (h : Heap) (p : Keyed) : Int × List Nat := if q : ∃ nx : Int × Str, PairAt h p.1 nx.1 nx.2 then (q.choose.1, q.choose.2.cps.toList) else (0, [])
theorem PairAt.inj {h : Heap} {v : Value} {n m : Int} {x y : Str} (a : PairAt h v n x) (b : PairAt h v m y) : n = m ∧ x = y := by
  obtain ⟨a1, o1, t1, u1, e1, rfl, g1, _, d1⟩ := a
  obtain ⟨a2, o2, t2, u2, e2, q, g2, _, d2⟩ := b
  cases q
  rw [g1] at g2
  cases g2
  rw [d1] at d2
  injection d2 with d3 _
  have d4 := congrArg Array.toList d3
  injection d4 with d5 d6
  injection d5 with d7 _
  injection d6 with d8 _
  injection d8 with d9 _
  exact ⟨d7, d9⟩
section
variable {prog : Program} {w : World} {A : Around} {E : Value → Shared → Prop} {s : Shared}
end
end Tim
end
section
namespace Tim
open PySem PyProof.Rows
def Slt (x y : Str) : Prop := x.cps.toList < y.cps.toList
def Wlt (x y : Str) : Prop := x.length < y.length ∨ (x.length = y.length ∧ Slt x y)
section
variable {prog : Program} {w : World} {A : Around} {E : Value → Shared → Prop} {s : Shared}
end
end Tim
end
section
namespace Wm
variable {α : Type} [DecidableEq α]
abbrev D (α : Type) := List (α × Int)
def look (d : D α) (w : α) : Option Int := (d.find? fun p => decide (p.1 = w)).map (·.2)
def val (d : D α) (w : α) : Int := (look d w).getD 0
def put (d : D α) (w : α) (c : Int) : D α := if (d.any fun p => decide (p.1 = w)) = true then d.map (fun p => if p.1 = w then (p.1, c) else p) else d ++ [(w, c)]
def drp (d : D α) (w : α) : D α := d.filter fun p => decide (p.1 ≠ w)
def keys (d : D α) : List α := d.map (·.1)
theorem look_pos {p : α × Int} {r : D α} {w : α} (e : p.1 = w) : look (p :: r) w = some p.2 := by simp [look, List.find?_cons, e]
theorem look_neg {p : α × Int} {r : D α} {w : α} (e : ¬ p.1 = w) : look (p :: r) w = look r w := by simp [look, List.find?_cons, e]
theorem look_of_mem : ∀ {d : D α} {w : α} {c : Int}, (keys d).Nodup → (w, c) ∈ d → look d w = some c
  | [], _, _, _, h => by simp at h
  | p :: r, w, c, hn, h => by
    have hn : (p.1 :: keys r).Nodup := hn
    obtain ⟨h1, h2⟩ := List.nodup_cons.mp hn
    rcases List.mem_cons.mp h with e | h
    · subst e; exact look_pos rfl
    · have hw : ¬ p.1 = w := fun e => h1 (by rw [e]; exact List.mem_map.mpr ⟨(w, c), h, rfl⟩)
      rw [look_neg hw]; exact look_of_mem h2 h
def NZ (d : D α) : Prop := ∀ p ∈ d, p.2 ≠ 0
def isum : List Int → Int
  | [] => 0
  | x :: r => x + isum r
def add (d : D α) (w : α) (c : Int) : D α := put d w (val d w + c)
def lput (d : D α) (w : α) (c : Int) : D α := if val (put d w (val d w + c)) w = 0 then drp (put d w (val d w + c)) w else put d w (val d w + c)
theorem NZ.val {d : D α} (hn : (keys d).Nodup) (h : NZ d) {w : α} (hw : w ∈ keys d) : val d w ≠ 0 := by
  obtain ⟨p, hp, e⟩ := List.mem_map.mp hw
  have l := look_of_mem hn (w := p.1) (c := p.2) hp
  unfold Wm.val; rw [← e, l]; exact h p hp
def nz (d : D α) : D α := d.foldl (fun k p => if p.2 ≠ 0 then put k p.1 p.2 else k) []
variable (op : α → α → α)
def gv (p q : α × Int) (x : α) : Int := (if x = op p.1 q.1 then p.2 * q.2 else 0) + if x = op q.1 p.1 then -(p.2 * q.2) else 0
def stepP (p : α × Int) (d : D α) (q : α × Int) : D α := add (add d (op p.1 q.1) (p.2 * q.2)) (op q.1 p.1) (-(p.2 * q.2))
def stepL (p : α × Int) (d : D α) (q : α × Int) : D α := lput (lput d (op p.1 q.1) (p.2 * q.2)) (op q.1 p.1) (0 - p.2 * q.2)
def foldP (a b : D α) : D α := a.foldl (fun d p => b.foldl (stepP op p) d) []
def foldL (a b : D α) : D α := a.foldl (fun d p => b.foldl (stepL op p) d) []
def twP (a b : D α) : D α := nz (foldP op a b)
variable {op}
inductive Br (α : Type) where
  | leaf (x : α)
  | node (l r : Br α)
def Br.wt : Br α → Nat
  | .leaf _ => 1
  | .node l r => l.wt + r.wt
variable (op)
def cP : Br α → D α
  | .leaf x => [(x, 1)]
  | .node l r => twP op (cP l) (cP r)
def cL : Br α → D α
  | .leaf x => [(x, 1)]
  | .node l r => foldL op (cL l) (cL r)
def smP (t : List (Int × Br α)) : D α := nz (t.foldl (fun d p => (cP op p.2).foldl (fun d q => add d q.1 (p.1 * q.2)) d) [])
def smL (t : List (Int × Br α)) : D α := t.foldl (fun d p => (cL op p.2).foldl (fun d q => lput d q.1 (p.1 * q.2)) d) []
variable {op}
def l1 (d : D α) : Nat := (d.map fun p => p.2.natAbs).sum
end Wm
end
section
namespace L2
open PySem PySem.Spec PyProof.Rows
abbrev Key := Sum Int Str
def keyIs : Key → Value → Bool
  | .inl k, v => Value.isInt k v
  | .inr x, v => Value.isStrOf x v
def keyH (w : World) : Key → Int
  | .inl k => hashInt k
  | .inr x => hashStr w x
theorem keyIs_shape : ∀ {k : Key} {v : Value}, keyIs k v = true → (∃ i t, k = Sum.inl i ∧ v = Value.int i t) ∨ (∃ x t, k = Sum.inr x ∧ v = Value.str x t)
  | .inl i, v, h => by
    obtain ⟨t, e⟩ := Value.isInt_shape (k := i) (v := v) h
    exact .inl ⟨i, t, rfl, e⟩
  | .inr x, v, h => by
    obtain ⟨t, e⟩ := Value.isStrOf_shape (x := x) (v := v) h
    exact .inr ⟨x, t, rfl, e⟩
theorem key_ll (a b : Int) : decide ((Sum.inl a : Key) = Sum.inl b) = (a == b) := by
  by_cases e : a = b
  · subst e; simp
  · have h : ¬ (Sum.inl a : Key) = Sum.inl b := fun q => e (Sum.inl.inj q)
    rw [decide_eq_false h]
    exact (beq_eq_false_iff_ne.mpr e).symm
theorem key_rr (a b : Str) : decide ((Sum.inr a : Key) = Sum.inr b) = decide (a = b) := by
  by_cases e : a = b
  · subst e; simp
  · have h : ¬ (Sum.inr a : Key) = Sum.inr b := fun q => e (Sum.inr.inj q)
    rw [decide_eq_false h, decide_eq_false e]
theorem key_lr (a : Int) (b : Str) : decide ((Sum.inl a : Key) = Sum.inr b) = false := decide_eq_false (fun q => nomatch q)
theorem key_rl (a : Str) (b : Int) : decide ((Sum.inr a : Key) = Sum.inl b) = false := decide_eq_false (fun q => nomatch q)
def mixKind (prog : Program) (w : World) : PySem.KeyKind prog w Key where
  is := keyIs
  hash := keyH w
  inj := fun v a b ha hb => by
    rcases keyIs_shape ha with ⟨i, t, rfl, rfl⟩ | ⟨x, t, rfl, rfl⟩
    · rcases keyIs_shape hb with ⟨j, u, rfl, e⟩ | ⟨y, u, rfl, e⟩
      · injection e with e1 _; rw [e1]
      · exact nomatch e
    · rcases keyIs_shape hb with ⟨j, u, rfl, e⟩ | ⟨y, u, rfl, e⟩
      · exact nomatch e
      · injection e with e1 _; rw [e1]
  byValue := fun k v h => by
    rcases keyIs_shape h with ⟨i, t, rfl, rfl⟩ | ⟨x, t, rfl, rfl⟩ <;> rfl
  pyHash := fun hv h => by
    rcases keyIs_shape hv with ⟨i, t, rfl, rfl⟩ | ⟨x, t, rfl, rfl⟩
    · exact wpAny_pyHash_int h
    · exact wpAny_pyHash_str h
  eqBool := fun hu hv h => by
    rcases keyIs_shape hu with ⟨i, t, rfl, rfl⟩ | ⟨x, t, rfl, rfl⟩
    · rcases keyIs_shape hv with ⟨j, u, rfl, rfl⟩ | ⟨y, u, rfl, rfl⟩
      · rw [key_ll] at h; exact wpAny_eqBool_int h
      · rw [key_lr] at h; exact SeqAt.EqAt.int_str i t y u _ _ _ _ h
    · rcases keyIs_shape hv with ⟨j, u, rfl, rfl⟩ | ⟨y, u, rfl, rfl⟩
      · rw [key_rl] at h; exact SeqAt.EqAt.str_int x t j u _ _ _ _ h
      · rw [key_rr] at h; exact wpAny_eqBool_str h
  «strs» := fun k x t v h => by
    rcases keyIs_shape h with ⟨i, u, rfl, e⟩ | ⟨y, u, rfl, e⟩
    · exact nomatch e
    · injection e with e1 _
      subst e1
      cases v <;> rfl
end L2
namespace L2
open PySem PySem.Spec PyProof.Rows
inductive V where
  | non | bl (b : Bool) | int (i : Int) | str (x : Str) | byt (b : Array UInt8) | flt (b : UInt64) | ref (a : Addr) | ty (n : String)
  deriving DecidableEq
def RelV : V → Value → Prop
  | .non, u => u = Value.none
  | .bl b, u => u = Value.bool b
  | .int i, u => ∃ t, u = Value.int i t
  | .str x, u => ∃ t, u = Value.str x t
  | .byt b, u => ∃ t, u = Value.bytes b t
  | .flt b, u => ∃ t, u = Value.float b t
  | .ref a, u => u = Value.ref a
  | .ty n, u => u = Value.type n
abbrev Vals : List V → List Value → Prop := Paired RelV
theorem Vals.length {xs : List V} {us : List Value} (r : Vals xs us) : xs.length = us.length := Paired.length r
theorem Vals.get : ∀ {xs : List V} {us : List Value} {i : Nat} {x : V}, Vals xs us → xs[i]? = some x → ∃ u, us[i]? = some u ∧ RelV x u
  | _, _, _, _, .nil, e => by simp at e
  | _, _, 0, _, .cons r _, e => by simp at e; subst e; exact ⟨_, rfl, r⟩
  | _, _, i + 1, x, .cons _ t, e => by
    obtain ⟨u, h1, h2⟩ := Vals.get (i := i) (x := x) t (by simpa using e)
    exact ⟨u, by simpa using h1, h2⟩
theorem Vals.set {x : V} {u : Value} (r : RelV x u) : ∀ {xs : List V} {us : List Value} (i : Nat), Vals xs us → Vals (xs.set i x) (us.set i u)
  | _, _, _, .nil => .nil
  | _, _, 0, .cons _ t => .cons r t
  | _, _, i + 1, .cons q t => .cons q (Vals.set r i t)
theorem Vals.append : ∀ {xs ys : List V} {us ws : List Value}, Vals xs us → Vals ys ws → Vals (xs ++ ys) (us ++ ws)
  | _, _, _, _, .nil, s => s
  | _, _, _, _, .cons r t, s => .cons r (Vals.append t s)
theorem Vals.take : ∀ {xs : List V} {us : List Value} (n : Nat), Vals xs us → Vals (xs.take n) (us.take n)
  | _, _, 0, _ => .nil
  | _, _, _ + 1, .nil => .nil
  | _, _, n + 1, .cons r t => .cons r (Vals.take n t)
theorem Vals.drop : ∀ {xs : List V} {us : List Value} (n : Nat), Vals xs us → Vals (xs.drop n) (us.drop n)
  | _, _, 0, r => r
  | _, _, _ + 1, .nil => .nil
  | _, _, n + 1, .cons _ t => Vals.drop n t
def RelO : Option V → Option Value → Prop
  | some v, some u => RelV v u
  | none, none => True
  | _, _ => False
def KV {κ : Type} : List (κ × V) → List (κ × Value) → Prop := Paired fun (p : κ × V) (q : κ × Value) => p.1 = q.1 ∧ RelV p.2 q.2
def kV : Key → V
  | .inl i => .int i
  | .inr x => .str x
inductive HO where
  | lst (xs : List V)
  | tup (xs : List V)
  | dK (kvs : List (Key × V)) | dT (kvs : List (List Key × V))
  | set (S : Int → Bool) (n : Nat)
  | ins (C dx : Addr) (fs : List (Str × V))
  | own (x : Addr)
  | xd (fs : List (Str × V))
  | met (f x : Addr)
  | rng (lo hi : Int)
  | frz (o : Obj) (u : HO)
  | tbl (ps : Array Value)
  | ext (φ : Heap → Prop)
abbrev Hp := Addr → Option HO
def upd (H : Hp) (a : Addr) (o : HO) : Hp := fun b => if b = a then some o else H b
theorem upd_same {H : Hp} {a : Addr} {o : HO} : upd H a o a = some o := by unfold upd; rw [if_pos rfl]
theorem upd_ne {H : Hp} {a b : Addr} {o : HO} (h : b ≠ a) : upd H a o b = H b := by unfold upd; rw [if_neg h]
theorem ne_of_none {H : Hp} {a b : Addr} {o : HO} (h : H a = some o) (h' : H b = none) : a ≠ b := by
  intro e; subst e; rw [h] at h'; cases h'
section
variable (P : Program) (w : World)
def ObjOk (H : Hp) (h : Heap) (a : Addr) : HO → Prop
  | .lst xs => xs.length ≤ sizeLine ∧ ∃ (its : List Value) (n : Nat), Vals xs its ∧ h.get? a = some { cls := .type "list", data := .seq its.toArray n }
  | .tup xs => xs.length ≤ sizeLine ∧ ∃ its : List Value, Vals xs its ∧ IsTup h a its.toArray
  | .dK kvs => kvs.length ≤ sizeLine ∧ (a == sysModules) = false ∧ ∃ vs, KV kvs vs ∧ h.DictOf (mixKind P w) a vs
  | .dT kvs => kvs.length ≤ sizeLine ∧ (a == sysModules) = false ∧ ∃ xs : List (List Key × Addr × Value),
      Paired (fun (p : List Key × V) (q : List Key × Addr × Value) => p.1 = q.1 ∧ H q.2.1 = some (.tup (p.1.map kV)) ∧ RelV p.2 q.2.2) kvs xs ∧
      ∃ o es ep, h.get? a = some o ∧ o.ExactDict ∧ o.data = .dict es ep ∧ es.toList = xs.map (entryOfKey (tupleKind (mixKind P w))) ∧ (xs.map (·.1)).Nodup
  | .set S n => h.SetOf (intKind P w) a S n
  | .ins C dx fs => H dx = some (.own a) ∧ fs.length ≤ 1000 ∧ dx ≠ a ∧ h.get? a = some (PySem.W.instObj C dx) ∧
      ∃ mA, h.Ns1 dx mA ∧ (∀ f, RelO (fs.lookup f) (mA f)) ∧ PySem.Within mA (fs.map (·.1))
  | .own _ => ∃ o, h.get? a = some o
  | .xd fs => ∃ mA, h.Ns1 a mA ∧ ∀ f, RelO (fs.lookup f) (mA f)
  | .rng lo hi => ∃ t u v, h.get? a = some { cls := .type "range", data := .fields #[.int lo t, .int hi u, .int 1 v] }
  | .frz o u => h.get? a = some o ∧ ObjOk H h a u
  | .tbl ps => h.get? a = some { cls := .none, data := .fields ps }
  | .met f x => h.get? a = some (PySem.W.methodObj (.ref f) (.ref x))
  | .ext φ => φ h ∧ (∃ o, h.get? a = some o) ∧ ∀ h1 h2 : Heap, φ h1 → (∀ o, h1.get? a = some o → h2.get? a = some o) → φ h2
def HOk (H : Hp) (h : Heap) : Prop := ∀ a o, H a = some o → ObjOk P w H h a o
end
section
variable {P : Program} {w : World} {H H' : Hp} {h h' : Heap} {a : Addr} {o : HO}
theorem ObjOk.lt (x : ObjOk P w H h a o) : a < h.objs.size := by
  cases o with
  | lst xs => obtain ⟨_, _, _, _, e⟩ := x; exact Heap.lt_size e
  | tup xs => obtain ⟨_, _, _, p⟩ := x; exact p.lt
  | dK kvs => obtain ⟨_, _, _, _, o, _, _, e, _⟩ := x; exact Heap.lt_size e
  | dT kvs => obtain ⟨_, _, _, _, o, _, _, e, _⟩ := x; exact Heap.lt_size e
  | set S n => obtain ⟨o, _, _, _, e, _⟩ := x; exact Heap.lt_size e
  | ins C dx fs => obtain ⟨_, _, _, e, _⟩ := x; exact Heap.lt_size e
  | own y => obtain ⟨_, e⟩ := x; exact Heap.lt_size e
  | xd fs => obtain ⟨_, ⟨_, _, _, e, _⟩, _⟩ := x; exact Heap.lt_size e
  | rng lo hi => obtain ⟨_, _, _, e⟩ := x; exact Heap.lt_size e
  | frz ob u => obtain ⟨e, _⟩ := x; exact Heap.lt_size e
  | tbl ps => exact Heap.lt_size (show h.get? a = some _ from x)
  | met f y => exact Heap.lt_size (show h.get? a = some _ from x)
  | ext φ => obtain ⟨_, ⟨_, e⟩, _⟩ := x; exact Heap.lt_size e
theorem Paired.mapP {α β : Type} {F G : α → β → Prop} : ∀ {l₁ : List α} {l₂ : List β}, Paired F l₁ l₂ → (∀ a b, F a b → G a b) → Paired G l₁ l₂
  | _, _, .nil, _ => .nil
  | _, _, .cons r t, f => .cons (f _ _ r) (Paired.mapP t f)
theorem ObjOk.stay (x : ObjOk P w H h a o) (k : ∀ b u, (b = a ∨ H b = some (.own a)) → h.get? b = some u → h'.get? b = some u)
    (ho : ∀ b, H b = some (.own a) → H' b = some (.own a)) (ht : ∀ b xs, H b = some (.tup xs) → H' b = some (.tup xs)) : ObjOk P w H' h' a o := by
  induction o with
  | lst xs => obtain ⟨z, its, n, r, e⟩ := x; exact ⟨z, its, n, r, k _ _ (.inl rfl) e⟩
  | tup xs => obtain ⟨z, its, r, ob, e, c⟩ := x; exact ⟨z, its, r, ob, k _ _ (.inl rfl) e, c⟩
  | dK kvs => obtain ⟨z, y, vs, r, ob, es, ep, e, c⟩ := x; exact ⟨z, y, vs, r, ob, es, ep, k _ _ (.inl rfl) e, c⟩
  | dT kvs =>
    obtain ⟨z, y, xs, r, ob, es, ep, e, c⟩ := x
    exact ⟨z, y, xs, Paired.mapP r fun p q z => ⟨z.1, ht _ _ z.2.1, z.2.2⟩, ob, es, ep, k _ _ (.inl rfl) e, c⟩
  | set S n => obtain ⟨ob, es, ep, t, e, c⟩ := x; exact ⟨ob, es, ep, t, k _ _ (.inl rfl) e, c⟩
  | ins C dx fs =>
    obtain ⟨d, z, ne, e, mA, ⟨od, es, ep, e2, c⟩, r⟩ := x
    exact ⟨ho _ d, z, ne, k _ _ (.inl rfl) e, mA, ⟨od, es, ep, k _ _ (.inr d) e2, c⟩, r⟩
  | own y => obtain ⟨ob, e⟩ := x; exact ⟨ob, k _ _ (.inl rfl) e⟩
  | xd fs => obtain ⟨mA, ⟨od, es, ep, e, c⟩, r⟩ := x; exact ⟨mA, ⟨od, es, ep, k _ _ (.inl rfl) e, c⟩, r⟩
  | rng lo hi => obtain ⟨t, u, v, e⟩ := x; exact ⟨t, u, v, k _ _ (.inl rfl) e⟩
  | frz ob u ih => obtain ⟨e, q⟩ := x; exact ⟨k _ _ (.inl rfl) e, ih q⟩
  | tbl ps =>
    have e : h.get? a = some { cls := .none, data := .fields ps } := x
    show h'.get? a = some { cls := .none, data := .fields ps }
    exact k a _ (.inl rfl) e
  | met f y =>
    have e : h.get? a = some (PySem.W.methodObj (.ref f) (.ref y)) := x
    show h'.get? a = some (PySem.W.methodObj (.ref f) (.ref y))
    exact k a _ (.inl rfl) e
  | ext φ => obtain ⟨p, ⟨o, e⟩, st⟩ := x; exact ⟨st _ _ p fun o q => k _ _ (.inl rfl) q, ⟨o, k _ _ (.inl rfl) e⟩, st⟩
theorem HOk.lt (x : HOk P w H h) (e : H a = some o) : a < h.objs.size := (x a o e).lt
theorem HOk.fresh (x : HOk P w H h) (e : h.objs.size ≤ a) : H a = none := by
  cases q : H a with
  | none => rfl
  | some u => exact absurd (Nat.lt_of_lt_of_le (x.lt q) e) (Nat.lt_irrefl _)
theorem HOk.kept (x : HOk P w H h) (k : ∀ b u, h.get? b = some u → h'.get? b = some u) : HOk P w H h' := fun a o e =>
  (x a o e).stay (fun b u _ q => k b u q) (fun _ q => q) fun _ _ q => q
theorem HOk.laid (x : HOk P w H h) (k : ∀ b u, h.get? b = some u → h'.get? b = some u) (hp : h.objs.size ≤ a) (new : ObjOk P w (upd H a o) h' a o) : HOk P w (upd H a o) h' := fun b u e => by
  have hn := x.fresh hp
  by_cases hb : b = a
  · subst hb; rw [upd_same] at e; cases e; exact new
  · rw [upd_ne hb] at e
    exact (x b u e).stay (fun c v _ q => k c v q) (fun c q => by rw [upd_ne (ne_of_none q hn)]; exact q) fun c xs q => by rw [upd_ne (ne_of_none q hn)]; exact q
end
def Rd (H : Hp) (a : Addr) (u : HO) : Prop := H a = some u ∨ ∃ o, H a = some (.frz o u)
theorem Rd.ok {P : Program} {w : World} {H : Hp} {h : Heap} {a : Addr} {u : HO} (r : Rd H a u) (x : HOk P w H h) : ObjOk P w H h a u := by
  rcases r with r | ⟨o, r⟩
  · exact x a u r
  · obtain ⟨_, q⟩ := x a _ r
    exact q
def Mut : Option HO → Prop
  | some (.lst _) => True
  | some (.dK _) => True
  | some (.dT _) => True
  | some (.set _ _) => True
  | some (.ins _ _ _) => True
  | some (.ext _) => True
  | _ => False
section
variable {P : Program} {w : World} {H : Hp} {h h' : Heap} {x e : Addr} {o' : HO}
theorem HOk.write (ok : HOk P w H h) (mu : Mut (H x)) (he : e = x ∨ H e = some (.own x)) (k : ∀ b u, b ≠ e → h.get? b = some u → h'.get? b = some u) (heo : ∃ u, h'.get? e = some u)
    (new : ObjOk P w (upd H x o') h' x o') : HOk P w (upd H x o') h' := fun b u q => by
  have nown : ∀ c y, H c = some (.own y) → c ≠ x := fun c y r z => by subst z; rw [r] at mu; exact mu
  have ntup : ∀ c xs, H c = some (.tup xs) → c ≠ x := fun c xs r z => by subst z; rw [r] at mu; exact mu
  by_cases hb : b = x
  · subst hb; rw [upd_same] at q; cases q; exact new
  · rw [upd_ne hb] at q
    by_cases hbe : b = e
    · have q' : H b = some (.own x) := by
        rcases he with z | z
        · exact absurd (hbe.trans z) hb
        · rw [hbe]; exact z
      rw [q] at q'; cases q'
      obtain ⟨v, hv⟩ := heo
      exact ⟨v, by rw [hbe]; exact hv⟩
    · refine (ok b u q).stay (fun c v hc r => k c v ?_ r) (fun c r => by rw [upd_ne (nown c b r)]; exact r) fun c xs r => by rw [upd_ne (ntup c xs r)]; exact r
      rcases hc with rfl | hc
      · exact hbe
      · rintro rfl
        rcases he with z | z
        · exact nown c b hc z
        · rw [hc] at z; cases z; exact hb rfl
end
structure Un (fs ex : List Addr) (H H' : Hp) (h h' : Heap) : Prop where
  keep : ∀ b o, h.get? b = some o → H b = none → b ∉ fs → b ∉ ex → h'.get? b = some o
  slot : ∀ b o, h.get? b = some o → H b = none → b ∈ fs → b ∉ ex → ∃ sl, h'.get? b = some { o with slots := sl }
  free : ∀ b o, h.get? b = some o → H b = none → b ∉ ex → H' b = none
  there : ∀ b o, h.get? b = some o → b ∉ ex → ∃ o', h'.get? b = some o'
  tups : ∀ b xs, H b = some (.tup xs) → H' b = some (.tup xs)
  frzs : ∀ b o u, H b = some (.frz o u) → H' b = some (.frz o u)
  tbls : ∀ b ps, H b = some (.tbl ps) → ∃ more, H' b = some (.tbl (ps ++ more))
section
variable {fs fs' ex ex' : List Addr} {H H1 H2 : Hp} {h h1 h2 h' : Heap} {a x e : Addr} {o : HO}
theorem Un.any (u : Un fs ex H H1 h h1) {b : Addr} {ob : Obj} (q : h.get? b = some ob) (n : H b = none) (hx : b ∉ ex) : ∃ sl, h1.get? b = some { ob with slots := sl } := by
  by_cases hb : b ∈ fs
  · exact u.slot b ob q n hb hx
  · exact ⟨ob.slots, u.keep b ob q n hb hx⟩
theorem Un.trans (a : Un fs ex H H1 h h1) (b : Un fs ex H1 H2 h1 h2) : Un fs ex H H2 h h2 where
  keep := fun c ob q n hc hx => b.keep c ob (a.keep c ob q n hc hx) (a.free c ob q n hx) hc hx
  slot := fun c ob q n hc hx => by
    obtain ⟨sl, e1⟩ := a.slot c ob q n hc hx
    obtain ⟨sl', e2⟩ := b.slot c _ e1 (a.free c ob q n hx) hc hx
    exact ⟨sl', e2⟩
  free := fun c ob q n hx => by
    obtain ⟨o', e1⟩ := a.there c ob q hx
    exact b.free c o' e1 (a.free c ob q n hx) hx
  there := fun c ob q hx => by
    obtain ⟨o', e1⟩ := a.there c ob q hx
    exact b.there c o' e1 hx
  tups := fun c xs q => b.tups c xs (a.tups c xs q)
  frzs := fun c ob xs q => b.frzs c ob xs (a.frzs c ob xs q)
  tbls := fun c ps q => by
    obtain ⟨m1, e1⟩ := a.tbls c ps q
    obtain ⟨m2, e2⟩ := b.tbls c _ e1
    exact ⟨m1 ++ m2, by rw [e2, Array.append_assoc]⟩
theorem Un.kept (k : ∀ b u, h.get? b = some u → h'.get? b = some u) : Un fs ex H H h h' :=
  ⟨fun b ob q _ _ _ => k b ob q, fun b ob q _ _ _ => ⟨ob.slots, k b ob q⟩, fun _ _ _ n _ => n, fun b ob q _ => ⟨ob, k b ob q⟩, fun _ _ q => q, fun _ _ _ q => q, fun _ ps q => ⟨#[], by rw [q]; simp⟩⟩
theorem Un.refl : Un fs ex H H h h := Un.kept fun _ _ q => q
theorem Un.laid (k : ∀ b u, h.get? b = some u → h'.get? b = some u) (hp : h.objs.size ≤ a) (hn : H a = none) : Un fs ex H (upd H a o) h h' where
  keep := fun b u q _ _ _ => k b u q
  slot := fun b u q _ _ _ => ⟨u.slots, k b u q⟩
  free := fun b u q n _ => by rw [upd_ne (Nat.ne_of_lt (Nat.lt_of_lt_of_le (Heap.lt_size q) hp))]; exact n
  there := fun b u q _ => ⟨u, k b u q⟩
  tups := fun b xs q => by rw [upd_ne (ne_of_none q hn)]; exact q
  frzs := fun b u xs q => by rw [upd_ne (ne_of_none q hn)]; exact q
  tbls := fun b ps q => ⟨#[], by rw [upd_ne (ne_of_none q hn), q]; simp⟩
theorem Un.write (mu : Mut (H x)) (he : e = x ∨ H e = some (.own x)) (k : ∀ b u, b ≠ e → h.get? b = some u → h'.get? b = some u) (heo : ∃ u, h'.get? e = some u) : Un fs ex H (upd H x o) h h' := by
  have hx : ∀ b, H b = none → b ≠ x := fun b n z => by subst z; rw [n] at mu; exact mu
  have hb : ∀ b, H b = none → b ≠ e := fun b n z => by
    subst z
    rcases he with r | r
    · exact hx b n r
    · rw [n] at r; cases r
  have hm : ∀ b u, H b = some u → ¬ Mut (some u) → b ≠ x := fun b u q nm z => by subst z; rw [q] at mu; exact nm mu
  refine ⟨fun b u q n _ _ => k b u (hb b n) q, fun b u q n _ _ => ⟨u.slots, k b u (hb b n) q⟩, fun b u q n _ => by rw [upd_ne (hx b n)]; exact n, fun b u q _ => ?_,
    fun b xs q => by rw [upd_ne (hm b _ q fun z => z)]; exact q, fun b u xs q => by rw [upd_ne (hm b _ q fun z => z)]; exact q, fun b ps q => ⟨#[], by rw [upd_ne (hm b _ q fun z => z), q]; simp⟩⟩
  by_cases hbe : b = e
  · subst hbe; exact heo
  · exact ⟨u, k b u hbe q⟩
theorem Un.mono (u : Un fs ex H H1 h h1) (hs : ∀ b ∈ fs, b ∈ fs') (hx : ∀ b ∈ ex, b ∈ ex') : Un fs' ex' H H1 h h1 :=
  ⟨fun b ob q n hb he => u.keep b ob q n (fun z => hb (hs b z)) fun z => he (hx b z), fun _ _ q n _ he => u.any q n fun z => he (hx _ z), fun b ob q n he => u.free b ob q n fun z => he (hx b z), fun b ob q he => u.there b ob q fun z => he (hx b z), u.tups, u.frzs, u.tbls⟩
end
def trk (h : Heap) (H : Hp) : List Addr := (List.range h.objs.size).filter fun a => (H a).isSome
def hidT (h : Heap) (H : Hp) : Heap := PySem.W.hideAll h (trk h H)
theorem hidT_size (h : Heap) (H : Hp) : (hidT h H).objs.size = h.objs.size := PySem.W.hideAll_size _ _
theorem hidT_get {h : Heap} {H : Hp} {b : Addr} {o : Obj} (e : h.get? b = some o) (n : H b = none) : (hidT h H).get? b = some o :=
  PySem.W.hideAll_get _ e fun hm => by
    have q : (H b).isSome = true := (List.mem_filter.mp hm).2
    rw [n] at q; simp at q
theorem of_hidT {h : Heap} {H : Hp} {b : Addr} {o : Obj} (e : (hidT h H).get? b = some o) : h.get? b = some o ∧ H b = none := by
  have e' : h.get? b = some o := PySem.W.of_hideAll (trk h H) e
  refine ⟨e', ?_⟩
  cases q : H b with
  | none => rfl
  | some x =>
    have hm : b ∈ trk h H := List.mem_filter.mpr ⟨List.mem_range.mpr (Heap.lt_size e'), by simp [q]⟩
    have z : (hidT h H).get? b = none := PySem.W.hideAll_none (trk h H) hm
    rw [z] at e; cases e
def allNews (g h : Heap) (L : Addr) : List (Addr × Obj) := (List.range h.objs.size).filterMap fun a => if a = L ∨ (g.get? a).isSome = true then none else (h.get? a).map fun o => (a, o)
def rest (g h : Heap) (L d : Addr) : List (Addr × Obj) := (allNews g h L).filter fun p => decide (p.1 ≠ d)
end L2
namespace L2
open PySem PySem.Spec PyProof.Rows
structure Mod (K : PySem.W.Frag) (mg : Str → Option Value) (base : Heap) : Prop where
  kin : K.In base
  glob : base.Ns mainGlobals mg
  blt : ∃ mb, base.Ns builtinsNs mb ∧ ∀ x : Str, x ≠ "__name__" → mb x = bootBuiltins x
  nolimit : base.NoLimit
structure Cx where
  prog : Program
  w : World
  K : PySem.W.Frag
  mg : Str → Option Value
  base : Heap
  A : Around
  N : List Str
  s₀ : Shared
  H₀ : Hp
  env : Env
  outer : List Env
  stack : List Env
  ex : List Addr
  fn : Str → Bool
  calm : Bool
  pn : List (Addr × Obj)
  xe : Value → Shared → Prop
def frs (l : List Env) : List Addr := l.filterMap (·.frame)
abbrev Cx.fs (X : Cx) : List Addr := frs X.outer
def Vis (sc : Scope) (x : Str) : Prop := sc.names.lookup x = some .local ∨ sc.names.lookup x = some .cell ∨ sc.names.lookup x = some .free
def Loc (sc : Scope) (x : Str) : Prop := sc.names.lookup x = some .local ∨ sc.names.lookup x = some .cell
def Look (env : Env) (h : Heap) (m : Str → Option Value) (x : Str) (u : Value) : Prop :=
  (env.kindOf x = some .local ∧ m x = some u) ∨ ((env.kindOf x = some .cell ∨ env.kindOf x = some .free) ∧ ∃ c, env.cells.lookup x = some c ∧ h.IsCell c (some u))
structure Cx.Ok (X : Cx) : Prop where
  mod : Mod X.K X.mg X.base
  kind : X.env.scope.kind = .function
  glob : X.env.globals = mainGlobals
  blt : X.env.builtins = builtinsNs
  above : X.s₀.heap.objs.size ≤ X.env.locals
  inj : ∀ x y c, X.env.cells.lookup x = some c → X.env.cells.lookup y = some c → x = y
  has : ∀ x, (X.env.kindOf x = some .cell ∨ X.env.kindOf x = some .free) → ∃ c, X.env.cells.lookup x = some c
  cab : ∀ x c, X.fn x = true → X.env.cells.lookup x = some c → X.s₀.heap.objs.size ≤ c
  hd : X.calm = true → X.A.handled = none
  frames : X.A.frames = some X.stack
  stk : X.stack = X.outer ∨ (X.stack = X.env :: X.outer ∧ X.env.frame = some X.env.locals)
  exf : ∀ b ∈ X.ex, b ≠ X.env.locals ∧ ∀ x c, X.env.cells.lookup x = some c → c ≠ b
  bs : ∀ b o, X.base.get? b = some o → X.s₀.heap.get? b = some o ∧ X.H₀ b = none
  bsz : X.base.objs.size ≤ X.s₀.heap.objs.size
  noex : ∀ b o, X.base.get? b = some o → b ∉ X.ex
  exfs : ∀ b ∈ X.ex, b ∉ X.fs
  funs : X.s₀.heap.FunFrames X.base X.outer
  frf : ∀ b ∈ X.fs, X.H₀ b = none
structure Inv (X : Cx) (pins : List (Addr × Obj)) (σ : List (Option V)) (H : Hp) (s : Shared) : Prop where
  ok : X.Ok
  os : s.os = X.s₀.os
  bare : AllBare s.gens
  base : Un X.fs X.ex X.H₀ H X.s₀.heap s.heap
  loc : ∃ m, s.heap.Ns X.env.locals m ∧ ∀ (i : Nat) (x : Str) (v : V), X.N[i]? = some x → σ[i]? = some (some v) → Vis X.env.scope x → ∃ u, RelV v u ∧ Look X.env s.heap m x u
  cell : ∀ x c, X.env.cells.lookup x = some c → ∃ v, s.heap.IsCell c v
  free : H X.env.locals = none
  freeC : ∀ x c, X.env.cells.lookup x = some c → H c = none
  pin : ∀ p ∈ X.pn ++ pins, s.heap.get? p.1 = some p.2 ∧ H p.1 = none ∧ p.1 ≠ X.env.locals ∧ p.1 ∉ X.fs ∧ ∀ v, p.2.data ≠ .cell v
  hok : HOk X.prog X.w H s.heap
  len : σ.length = X.N.length
section
variable {X : Cx} {pins : List (Addr × Obj)} {σ : List (Option V)} {H H' : Hp} {s : Shared} {h' : Heap}
theorem Cx.Ok.nofr (ok : X.Ok) {b : Addr} {o : Obj} (e : X.base.get? b = some o) : b ∉ X.fs := fun hb => by
  have := (ok.funs.mem hb).1
  rw [e] at this; cases this
theorem Inv.bs (I : Inv X pins σ H s) : ∀ b o, X.base.get? b = some o → s.heap.get? b = some o ∧ H b = none := fun b o e =>
  ⟨I.base.keep b o (I.ok.bs b o e).1 (I.ok.bs b o e).2 (I.ok.nofr e) (I.ok.noex b o e), I.base.free b o (I.ok.bs b o e).1 (I.ok.bs b o e).2 (I.ok.noex b o e)⟩
theorem Inv.bk (I : Inv X pins σ H s) : ∀ b o, X.base.get? b = some o → s.heap.get? b = some o := fun b o e => (I.bs b o e).1
theorem Inv.mod (I : Inv X pins σ H s) : Mod X.K X.mg X.base := I.ok.mod
theorem Inv.kIn (I : Inv X pins σ H s) : X.K.In s.heap := I.ok.mod.kin.keeps I.bk
theorem Inv.nolimit (I : Inv X pins σ H s) : s.heap.NoLimit := I.ok.mod.nolimit.keeps I.bk
theorem Inv.fr (I : Inv X pins σ H s) : ∃ m, Fr X.base X.env.locals s.heap m :=
  let ⟨m, hn, _⟩ := I.loc
  ⟨m, hn, I.bk, Nat.le_trans I.ok.bsz I.ok.above⟩
theorem Inv.lt (I : Inv X pins σ H s) : X.env.locals < s.heap.objs.size := let ⟨_, hn, _⟩ := I.loc; hn.lt
theorem Inv.sz (I : Inv X pins σ H s) : X.s₀.heap.objs.size ≤ s.heap.objs.size := Nat.le_trans I.ok.above (Nat.le_of_lt I.lt)
theorem Inv.nofs (I : Inv X pins σ H s) {a : Addr} (h : s.heap.objs.size ≤ a) : a ∉ X.fs := fun hb => by
  obtain ⟨_, o, ho, _⟩ := I.ok.funs.mem hb
  exact absurd (Nat.lt_of_lt_of_le (Heap.lt_size ho) (Nat.le_trans I.sz h)) (Nat.lt_irrefl _)
theorem Inv.cne (I : Inv X pins σ H s) : ∀ x c, X.env.cells.lookup x = some c → c ≠ X.env.locals := fun x c e z => by
  obtain ⟨v, o, ho, hd⟩ := I.cell x c e
  obtain ⟨m, ⟨o', es, ep, ho', hd', _⟩, _⟩ := I.loc
  rw [z, ho'] at ho; cases ho; rw [hd'] at hd; cases hd
theorem Inv.funs (I : Inv X pins σ H s) : s.heap.FunFrames X.base X.outer := by
  have all : ∀ (l : List Env), (∀ b ∈ frs l, b ∈ X.fs) → X.s₀.heap.FunFrames X.base l → s.heap.FunFrames X.base l := by
    intro l
    induction l with
    | nil => intro _ _; trivial
    | cons env r ih =>
      intro hs hl
      obtain ⟨hk, ⟨L, o, hf, hn, ho, hd⟩, hr⟩ := hl
      have hL : L ∈ X.fs := hs L (by unfold frs; rw [List.filterMap_cons, hf]; exact List.mem_cons_self)
      obtain ⟨sl, e⟩ := I.base.slot L o ho (I.ok.frf L hL) hL fun z => I.ok.exfs L z hL
      exact ⟨hk, ⟨L, _, hf, hn, e, hd⟩, ih (fun b hb => hs b (by unfold frs; rw [List.filterMap_cons, hf]; exact List.mem_cons_of_mem _ hb)) hr⟩
  exact all X.outer (fun _ hb => hb) I.ok.funs
theorem Inv.stack (I : Inv X pins σ H s) : s.heap.FunFrames X.base X.stack := by
  rcases I.ok.stk with e | ⟨e, hf⟩
  · rw [e]; exact I.funs
  · rw [e]
    obtain ⟨m, hn, _⟩ := I.loc
    refine .cons (by rw [I.ok.kind]; decide) hf hn ?_ I.funs
    exact Heap.get?_none_of_le (Nat.le_trans I.ok.bsz I.ok.above)
theorem Inv.stkSub (I : Inv X pins σ H s) : ∀ b ∈ frs X.stack, b ∈ X.env.locals :: X.fs := fun b hb => by
  rcases I.ok.stk with e | ⟨e, hf⟩
  · rw [e] at hb; exact List.mem_cons_of_mem _ hb
  · rw [e] at hb
    unfold frs at hb
    rw [List.filterMap_cons, hf] at hb
    exact hb
theorem Inv.stkFree (I : Inv X pins σ H s) : ∀ b ∈ frs X.stack, H b = none := fun b hb => by
  rcases List.mem_cons.mp (I.stkSub b hb) with e | hb
  · rw [e]; exact I.free
  · obtain ⟨_, o, ho, _⟩ := I.ok.funs.mem hb
    exact I.base.free b o ho (I.ok.frf b hb) fun z => I.ok.exfs b z hb
theorem Inv.step {g' : Array GenState} {t' : Nat} {d' : Drawn} {ch : List Addr} (I : Inv X pins σ H s)
    (hch : ∀ b ∈ ch, (b ∈ X.ex ∨ X.s₀.heap.objs.size ≤ b) ∧ b ≠ X.env.locals ∧ (∀ x c, X.env.cells.lookup x = some c → c ≠ b) ∧ ∀ p ∈ X.pn ++ pins, p.1 ≠ b)
    (keep : ∀ b o, b ≠ X.env.locals → b ∉ X.fs → b ∉ ch → s.heap.get? b = some o → H b = none → h'.get? b = some o)
    (slot : ∀ b o, b ≠ X.env.locals → b ∈ X.fs → b ∉ ch → s.heap.get? b = some o → H b = none → ∃ sl, h'.get? b = some { o with slots := sl }) (free : ∀ b o, b ∉ ch → s.heap.get? b = some o → H b = none → H' b = none)
    (there : ∀ b o, b ∉ ch → s.heap.get? b = some o → ∃ o', h'.get? b = some o')
    (tups : ∀ b xs, H b = some (.tup xs) → H' b = some (.tup xs)) (frzs : ∀ b o u, H b = some (.frz o u) → H' b = some (.frz o u)) (tbls : ∀ b ps, H b = some (.tbl ps) → ∃ more, H' b = some (.tbl (ps ++ more)))
    (ns : ∀ m, s.heap.Ns X.env.locals m → h'.Ns X.env.locals m) (hok : HOk X.prog X.w H' h') (hg : AllBare g') :
    Inv X pins σ H' { s with heap := h', gens := g', drawn := d', toks := t' } := by
  have neL : ∀ b o, X.s₀.heap.get? b = some o → b ≠ X.env.locals := fun b o e => Nat.ne_of_lt (Nat.lt_of_lt_of_le (Heap.lt_size e) I.ok.above)
  have neC : ∀ b o, X.s₀.heap.get? b = some o → b ∉ X.ex → b ∉ ch := fun b o e hx hb => by
    rcases (hch b hb).1 with z | z
    · exact hx z
    · exact absurd (Nat.lt_of_lt_of_le (Heap.lt_size e) z) (Nat.lt_irrefl _)
  have cellK : ∀ x c, X.env.cells.lookup x = some c → ∀ v, s.heap.IsCell c v → h'.IsCell c v := fun x c e v ⟨o, ho, hd⟩ => by
    have nch : c ∉ ch := fun z => (hch c z).2.2.1 x c e rfl
    by_cases hc : c ∈ X.fs
    · obtain ⟨sl, q⟩ := slot c o (I.cne x c e) hc nch ho (I.freeC x c e)
      exact ⟨_, q, hd⟩
    · exact ⟨o, keep c o (I.cne x c e) hc nch ho (I.freeC x c e), hd⟩
  refine ⟨I.ok, I.os, hg, ⟨fun b o e n hb hx => ?_, fun b o e n hb hx => ?_, fun b o e n hx => ?_, fun b o e hx => ?_, fun b xs e => tups b xs (I.base.tups b xs e), fun b o xs e => frzs b o xs (I.base.frzs b o xs e), fun b ps e => ?_⟩, ?_, fun x c e => ?_, ?_, fun x c e => ?_, fun p hp => ?_, hok, I.len⟩
  · exact keep b o (neL b o e) hb (neC b o e hx) (I.base.keep b o e n hb hx) (I.base.free b o e n hx)
  · obtain ⟨sl, e1⟩ := I.base.slot b o e n hb hx
    obtain ⟨sl', e2⟩ := slot b _ (neL b o e) hb (neC b o e hx) e1 (I.base.free b o e n hx)
    exact ⟨sl', e2⟩
  · obtain ⟨o', e1⟩ := I.base.there b o e hx
    exact free b o' (neC b o e hx) e1 (I.base.free b o e n hx)
  · obtain ⟨o', e1⟩ := I.base.there b o e hx
    exact there b o' (neC b o e hx) e1
  · obtain ⟨m1, e1⟩ := I.base.tbls b ps e
    obtain ⟨m2, e2⟩ := tbls b _ e1
    exact ⟨m1 ++ m2, by rw [e2, Array.append_assoc]⟩
  · obtain ⟨m, hn, hl⟩ := I.loc
    refine ⟨m, ns m hn, fun i x v e1 e2 e3 => ?_⟩
    obtain ⟨u, r, l⟩ := hl i x v e1 e2 e3
    refine ⟨u, r, ?_⟩
    rcases l with l | ⟨k, c, e, z⟩
    · exact .inl l
    · exact .inr ⟨k, c, e, cellK x c e _ z⟩
  · obtain ⟨v, z⟩ := I.cell x c e
    exact ⟨v, cellK x c e v z⟩
  · obtain ⟨m, ⟨o, _, _, ho, _⟩, _⟩ := I.loc
    exact free _ o (fun z => (hch _ z).2.1 rfl) ho I.free
  · obtain ⟨v, o, ho, hd⟩ := I.cell x c e
    exact free c o (fun z => (hch c z).2.2.1 x c e rfl) ho (I.freeC x c e)
  · obtain ⟨e, n, ne, nf, d⟩ := I.pin p hp
    have nch : p.1 ∉ ch := fun z => (hch p.1 z).2.2.2 p hp rfl
    exact ⟨keep p.1 p.2 ne nf nch e n, free p.1 p.2 nch e n, ne, nf, d⟩
theorem Inv.un {t' : Nat} (I : Inv X pins σ H s) (u : Un X.fs [] H H' s.heap h') (hok : HOk X.prog X.w H' h') : Inv X pins σ H' { s with heap := h', toks := t' } := by
  obtain ⟨m, ⟨o, es, ep, ho, r⟩, _⟩ := id I.loc
  obtain ⟨sl, hL⟩ := u.any ho I.free (by simp)
  exact I.step (g' := s.gens) (d' := s.drawn) (ch := []) (fun _ z => nomatch z) (fun b o _ hb _ e n => u.keep b o e n hb (by simp)) (fun b o _ hb _ e n => u.slot b o e n hb (by simp)) (fun b o _ e n => u.free b o e n (by simp)) (fun b o _ e => u.there b o e (by simp)) u.tups u.frzs u.tbls (fun m' hm => by
    obtain ⟨o', es', ep', ho', r'⟩ := hm
    rw [ho] at ho'; cases ho'
    exact ⟨_, es', ep', hL, r'⟩) hok I.bare
theorem Inv.call {g' : Array GenState} {t' : Nat} {d' : Drawn} {ch : List Addr} (I : Inv X pins σ H s) (u : Un (frs X.stack) ch H H' s.heap h') (hok : HOk X.prog X.w H' h') (hg : AllBare g')
    (hch : ∀ b ∈ ch, (b ∈ X.ex ∨ X.s₀.heap.objs.size ≤ b) ∧ b ≠ X.env.locals ∧ (∀ x c, X.env.cells.lookup x = some c → c ≠ b) ∧ ∀ p ∈ X.pn ++ pins, p.1 ≠ b) :
    Inv X pins σ H' { s with heap := h', gens := g', drawn := d', toks := t' } := by
  obtain ⟨m, ⟨o, es, ep, ho, r⟩, _⟩ := id I.loc
  obtain ⟨sl, hL⟩ := u.any ho I.free fun z => (hch _ z).2.1 rfl
  exact I.step (ch := ch) hch (fun b o hL hb hc e n => u.keep b o e n (fun z => (List.mem_cons.mp (I.stkSub b z)).elim hL hb) hc) (fun b o _ _ hc e n => u.any e n hc) (fun b o hc e n => u.free b o e n hc) (fun b o hc e => u.there b o e hc) u.tups u.frzs u.tbls (fun m' hm => by
    obtain ⟨o', es', ep', ho', r'⟩ := hm
    rw [ho] at ho'; cases ho'
    exact ⟨_, es', ep', hL, r'⟩) hok hg
theorem Inv.turned {t' : Nat} {it : Addr} (I : Inv X pins σ H s) (k : ∀ b o, b ≠ it → s.heap.get? b = some o → h'.get? b = some o) (hn : H it = none) (hL : it ≠ X.env.locals)
    (h1 : it ∈ X.ex ∨ X.s₀.heap.objs.size ≤ it) (h2 : ∀ x c, X.env.cells.lookup x = some c → c ≠ it) (h3 : ∀ p ∈ X.pn ++ pins, p.1 ≠ it) : Inv X pins σ H { s with heap := h', toks := t' } := by
  have nit : ∀ b u, H b = some u → b ≠ it := fun b u e z => by rw [z, hn] at e; cases e
  refine I.step (g' := s.gens) (d' := s.drawn) (ch := [it]) (fun b hb => ?_) (fun b o _ _ hc e _ => k b o (fun z => hc (by simp [z])) e) (fun b o _ _ hc e _ => ⟨o.slots, k b o (fun z => hc (by simp [z])) e⟩) (fun _ _ _ _ n => n)
    (fun b o hc e => ⟨o, k b o (fun z => hc (by simp [z])) e⟩) (fun _ _ e => e) (fun _ _ _ e => e) (fun b ps e => ⟨#[], by rw [e]; simp⟩) (fun m hm => ?_) (fun b u e => ?_) I.bare
  · have e : b = it := by simpa using hb
    subst e
    exact ⟨h1, hL, h2, h3⟩
  · obtain ⟨o, es, ep, ho, r⟩ := hm
    exact ⟨o, es, ep, k _ o (Ne.symm hL) ho, r⟩
  · refine (I.hok b u e).stay (fun c v hc q => k c v ?_ q) (fun _ q => q) fun _ _ q => q
    rcases hc with z | z
    · rw [z]; exact nit b u e
    · exact nit c _ z
theorem Inv.tok (I : Inv X pins σ H s) (t : Nat) : Inv X pins σ H { s with toks := t } := I.un (h' := s.heap) (t' := t) Un.refl I.hok
theorem Inv.kept {t' : Nat} (I : Inv X pins σ H s) (k : ∀ b u, s.heap.get? b = some u → h'.get? b = some u) : Inv X pins σ H { s with heap := h', toks := t' } := I.un (Un.kept k) (I.hok.kept k)
theorem Inv.laid {a : Addr} {o : HO} {t' : Nat} (I : Inv X pins σ H s) (k : ∀ b u, s.heap.get? b = some u → h'.get? b = some u) (hp : s.heap.objs.size ≤ a) (new : ObjOk X.prog X.w (upd H a o) h' a o) :
    Inv X pins σ (upd H a o) { s with heap := h', toks := t' } := I.un (Un.laid k hp (I.hok.fresh hp)) (I.hok.laid k hp new)
theorem Inv.write {x e : Addr} {o : HO} {t' : Nat} (I : Inv X pins σ H s) (mu : Mut (H x)) (he : e = x ∨ H e = some (.own x)) (k : ∀ b u, b ≠ e → s.heap.get? b = some u → h'.get? b = some u) (heo : ∃ u, h'.get? e = some u)
    (new : ObjOk X.prog X.w (upd H x o) h' x o) : Inv X pins σ (upd H x o) { s with heap := h', toks := t' } := I.un (Un.write mu he k heo) (I.hok.write mu he k heo new)
theorem Inv.pins_of {pins' : List (Addr × Obj)} (I : Inv X pins σ H s) (h : ∀ p ∈ pins', s.heap.get? p.1 = some p.2 ∧ H p.1 = none ∧ p.1 ≠ X.env.locals ∧ p.1 ∉ X.fs ∧ ∀ v, p.2.data ≠ .cell v) : Inv X pins' σ H s :=
  ⟨I.ok, I.os, I.bare, I.base, I.loc, I.cell, I.free, I.freeC, fun p hp => (List.mem_append.mp hp).elim (fun z => I.pin p (List.mem_append_left _ z)) (h p), I.hok, I.len⟩
theorem nodup_ix {N : List Str} (hN : N.Nodup) {i j : Nat} {x : Str} (a : N[i]? = some x) (b : N[j]? = some x) : i = j := by
  obtain ⟨h1, e1⟩ := List.getElem?_eq_some_iff.mp a
  obtain ⟨h2, e2⟩ := List.getElem?_eq_some_iff.mp b
  exact (List.getElem_inj hN).mp (e1.trans e2.symm)
theorem store_ok2 {M : Model} {A : Around} {E : Value → Shared → Prop} {i : Nat} {x : Str} {v : V} {u : Value} {Q : Unit → Shared → Prop} (I : Inv X pins σ H s) (hN : X.N.Nodup) (hi : X.N[i]? = some x) (hx : Loc X.env.scope x) (r : RelV v u)
    (h : ∀ s', Inv X pins (σ.set i (some v)) H s' → (∃ a, Heap.SameBut a s.heap s'.heap ∧ (a = X.env.locals ∨ X.env.cells.lookup x = some a)) → Q () s') (hf : X.fn x = true ∨ X.env.scope.names.lookup x = some .local := by first | exact .inl rfl | exact .inr rfl | assumption) : wpAny M A (storeName X.env x u) Q E s := by
  obtain ⟨m, hn, hl⟩ := id I.loc
  have hcls : (X.env.scope.kind == .class || (X.env.scope.kind == .module && X.env.locals != X.env.globals)) = false := by rw [I.ok.kind]; rfl
  have hiσ : i < σ.length := by rw [I.len]; exact (List.getElem?_eq_some_iff.mp hi).1
  have cne := I.cne
  have tracked : ∀ {a : Addr} {h' : Heap}, (∃ o, s.heap.get? a = some o ∧ H a = none) → Heap.SameBut a s.heap h' → HOk X.prog X.w H h' := fun {a h'} ha hs b ob e => by
    obtain ⟨_, _, hfree⟩ := ha
    refine (I.hok b ob e).stay (fun c w' hc q => (hs.2 c ?_).trans q) (fun _ q => q) fun _ _ q => q
    rintro rfl
    rcases hc with rfl | hc
    · rw [hfree] at e; cases e
    · rw [hfree] at hc; cases hc
  rcases hx with hk | hk
  · refine wpAny_storeName_local hk hn (fun h' hn' hs => ?_) hcls
    obtain ⟨oL, _, _, hoL, _⟩ := id hn
    refine h _ ⟨I.ok, I.os, I.bare, ⟨fun b o e n hb hx => ?_, fun b o e n hb hx => ?_, I.base.free, fun b o e hx => ?_, I.base.tups, I.base.frzs, I.base.tbls⟩, ⟨_, hn', fun j y v' e1 e2 e3 => ?_⟩, fun y c e => ?_, I.free, I.freeC, fun p hp => ?_, tracked ⟨oL, hoL, I.free⟩ hs, by simpa using I.len⟩ ⟨_, hs, .inl rfl⟩
    · exact (hs.2 b (Nat.ne_of_lt (Nat.lt_of_lt_of_le (Heap.lt_size e) I.ok.above))).trans (I.base.keep b o e n hb hx)
    · obtain ⟨sl, e1⟩ := I.base.slot b o e n hb hx
      exact ⟨sl, (hs.2 b (Nat.ne_of_lt (Nat.lt_of_lt_of_le (Heap.lt_size e) I.ok.above))).trans e1⟩
    · obtain ⟨o', e1⟩ := I.base.there b o e hx
      exact ⟨o', (hs.2 b (Nat.ne_of_lt (Nat.lt_of_lt_of_le (Heap.lt_size e) I.ok.above))).trans e1⟩
    · by_cases hj : j = i
      · subst hj
        rw [hi] at e1; cases e1
        rw [List.getElem?_set_self hiσ] at e2
        cases e2
        exact ⟨u, r, .inl ⟨hk, by simp⟩⟩
      · rw [List.getElem?_set_ne (Ne.symm hj)] at e2
        obtain ⟨u', r', q⟩ := hl j y v' e1 e2 e3
        refine ⟨u', r', ?_⟩
        rcases q with ⟨k, e⟩ | ⟨k, c, e, z⟩
        · refine .inl ⟨k, ?_⟩
          have : y ≠ x := fun e => hj (nodup_ix hN e1 (e ▸ hi))
          simp [this, e]
        · exact .inr ⟨k, c, e, z.sameBut hs (cne y c e)⟩
    · obtain ⟨w', z⟩ := I.cell y c e
      exact ⟨w', z.sameBut hs (cne y c e)⟩
    · obtain ⟨e, n, ne, nf, d⟩ := I.pin p hp
      exact ⟨(hs.2 p.1 ne).trans e, n, ne, nf, d⟩
  · have hfn : X.fn x = true := by
      rcases hf with z | z
      · exact z
      · rw [z] at hk; cases hk
    obtain ⟨c, hc⟩ := I.ok.has x (.inl hk)
    obtain ⟨w', z⟩ := I.cell x c hc
    refine wpAny_storeName_cell I.ok.kind hk hc z (fun h' hc' hs => ?_)
    obtain ⟨oc, hoc, hocd⟩ := id z
    refine h { s with heap := h' } ⟨I.ok, I.os, I.bare, ⟨fun b o e n hb hx => ?_, fun b o e n hb hx => ?_, I.base.free, fun b o e hx => ?_, I.base.tups, I.base.frzs, I.base.tbls⟩, ⟨m, hn.sameBut hs (Ne.symm (cne x c hc)), fun j y v' e1 e2 e3 => ?_⟩, fun y c' e => ?_, I.free, I.freeC, fun p hp => ?_, tracked ⟨oc, hoc, I.freeC x c hc⟩ hs, by simpa using I.len⟩ ⟨c, hs, .inr hc⟩
    · exact (hs.2 b (Nat.ne_of_lt (Nat.lt_of_lt_of_le (Heap.lt_size e) (I.ok.cab x c hfn hc)))).trans (I.base.keep b o e n hb hx)
    · obtain ⟨sl, e1⟩ := I.base.slot b o e n hb hx
      exact ⟨sl, (hs.2 b (Nat.ne_of_lt (Nat.lt_of_lt_of_le (Heap.lt_size e) (I.ok.cab x c hfn hc)))).trans e1⟩
    · obtain ⟨o', e1⟩ := I.base.there b o e hx
      exact ⟨o', (hs.2 b (Nat.ne_of_lt (Nat.lt_of_lt_of_le (Heap.lt_size e) (I.ok.cab x c hfn hc)))).trans e1⟩
    · by_cases hj : j = i
      · subst hj
        rw [hi] at e1; cases e1
        rw [List.getElem?_set_self hiσ] at e2
        cases e2
        exact ⟨u, r, .inr ⟨.inl hk, c, hc, hc'⟩⟩
      · rw [List.getElem?_set_ne (Ne.symm hj)] at e2
        obtain ⟨u', r', q⟩ := hl j y v' e1 e2 e3
        refine ⟨u', r', ?_⟩
        rcases q with q | ⟨k, c', e, z'⟩
        · exact .inl q
        · refine .inr ⟨k, c', e, z'.sameBut hs ?_⟩
          rintro rfl
          exact hj (nodup_ix hN e1 (I.ok.inj _ _ _ e hc ▸ hi))
    · by_cases hcc : c' = c
      · subst hcc; exact ⟨_, hc'⟩
      · obtain ⟨w2, z2⟩ := I.cell y c' e
        exact ⟨w2, z2.sameBut hs hcc⟩
    · obtain ⟨e, n, ne, nf, d⟩ := I.pin p hp
      refine ⟨(hs.2 p.1 ?_).trans e, n, ne, nf, d⟩
      intro q
      rw [q, hoc] at e
      have q' : oc = p.2 := Option.some.inj e
      exact d w' (by rw [← q']; exact hocd)
theorem store_ok {M : Model} {A : Around} {E : Value → Shared → Prop} {i : Nat} {x : Str} {v : V} {u : Value} {Q : Unit → Shared → Prop} (I : Inv X pins σ H s) (hN : X.N.Nodup) (hi : X.N[i]? = some x) (hx : Loc X.env.scope x) (r : RelV v u)
    (h : ∀ s', Inv X pins (σ.set i (some v)) H s' → Q () s') (hf : X.fn x = true ∨ X.env.scope.names.lookup x = some .local := by first | exact .inl rfl | exact .inr rfl | assumption) : wpAny M A (storeName X.env x u) Q E s :=
  store_ok2 I hN hi hx r (fun s' I' _ => h s' I') hf
theorem Inv.call' {s' : Shared} {ch : List Addr} (I : Inv X pins σ H s) (ho : s'.os = s.os) (u : Un (frs X.stack) ch H H' s.heap s'.heap) (hok : HOk X.prog X.w H' s'.heap) (hg : AllBare s'.gens)
    (hch : ∀ b ∈ ch, (b ∈ X.ex ∨ X.s₀.heap.objs.size ≤ b) ∧ b ≠ X.env.locals ∧ (∀ x c, X.env.cells.lookup x = some c → c ≠ b) ∧ ∀ p ∈ X.pn ++ pins, p.1 ≠ b) : Inv X pins σ H' s' := by
  obtain ⟨h', g', d', t', o'⟩ := s'
  have e : o' = s.os := ho
  subst e
  exact I.call (g' := g') (t' := t') (d' := d') u hok hg hch
end
abbrev XK := Value → Option Addr → Hp → Prop
abbrev St := List (Option V)
abbrev VK := V → Hp → Prop
abbrev TE := St → Hp → VK → Prop
abbrev TT := St → Hp → (Bool → Hp → Prop) → Prop
abbrev TA := St → Hp → (List V → Hp → Prop) → Prop
structure Ends where
  nx : St → Hp → Prop
  rt : VK
  bk : St → Hp → Prop := fun _ _ => False
  ct : St → Hp → Prop := fun _ _ => False
abbrev TS := Ends → St → Hp → Prop
def EP (X : Cx) (pins : List (Addr × Obj)) (σ : St) (Q : VK) (u : Value) (s' : Shared) : Prop := ∃ v H', Inv X pins σ H' s' ∧ RelV v u ∧ Q v H'
def TP (X : Cx) (pins : List (Addr × Obj)) (σ : St) (Q : Bool → Hp → Prop) (b : Bool) (s' : Shared) : Prop := ∃ H', Inv X pins σ H' s' ∧ Q b H'
def AP (X : Cx) (pins : List (Addr × Obj)) (σ : St) (Q : List V → Hp → Prop) (us : List Value) (s' : Shared) : Prop := ∃ vs H', Inv X pins σ H' s' ∧ Vals vs us ∧ Q vs H'
def SP (X : Cx) (pins : List (Addr × Obj)) (D : Ends) (f : Flow) (s' : Shared) : Prop :=
  match f with
  | .next => ∃ σ' H', Inv X pins σ' H' s' ∧ D.nx σ' H'
  | .brk => ∃ σ' H', Inv X pins σ' H' s' ∧ D.bk σ' H'
  | .cont => ∃ σ' H', Inv X pins σ' H' s' ∧ D.ct σ' H'
  | .ret u => ∃ v σ' H', Inv X pins σ' H' s' ∧ RelV v u ∧ D.rt v H'
def PE (X : Cx) (e : Expr) (t : TE) : Prop :=
  ∀ (pins : List (Addr × Obj)) (s : Shared) (σ : St) (H : Hp) (Q : VK), Inv X pins σ H s → t σ H Q → wpAny (model X.prog X.w) X.A (eval e X.env) (EP X pins σ Q) X.xe s
def PT (X : Cx) (e : Expr) (t : TT) : Prop :=
  ∀ (pins : List (Addr × Obj)) (s : Shared) (σ : St) (H : Hp) (Q : Bool → Hp → Prop), Inv X pins σ H s → t σ H Q → wpAny (model X.prog X.w) X.A (isTrue e X.env (eval e X.env)) (TP X pins σ Q) X.xe s
def PW (X : Cx) (e : Expr) (t : TT) : Prop :=
  ∀ (whole : Sem Value) (pins : List (Addr × Obj)) (s : Shared) (σ : St) (H : Hp) (Q : Bool → Hp → Prop), Inv X pins σ H s → t σ H Q → wpAny (model X.prog X.w) X.A (isTrue e X.env whole) (TP X pins σ Q) X.xe s
theorem PW.pt {X : Cx} {e : Expr} {t : TT} (h : PW X e t) : PT X e t := h _
def PA (X : Cx) (es : List Expr) (t : TA) : Prop :=
  ∀ (pos : Pos) (pins : List (Addr × Obj)) (s : Shared) (σ : St) (H : Hp) (Q : List V → Hp → Prop), Inv X pins σ H s → t σ H Q → wpAny (model X.prog X.w) X.A (spliced (backTo pos (starEach es X.env))) (AP X pins σ Q) X.xe s
def PS (X : Cx) (st : Stmt) (t : TS) : Prop :=
  ∀ (pins : List (Addr × Obj)) (s : Shared) (σ : St) (H : Hp) (D : Ends), Inv X pins σ H s → t D σ H → wpAny (model X.prog X.w) X.A (exec st X.env) (SP X pins D) X.xe s
def PSs (X : Cx) (st : List Stmt) (t : TS) : Prop :=
  ∀ (pins : List (Addr × Obj)) (s : Shared) (σ : St) (H : Hp) (D : Ends), Inv X pins σ H s → t D σ H → wpAny (model X.prog X.w) X.A (execs st X.env) (SP X pins D) X.xe s
theorem thn {α : Type} {t : Sem α} {Q Q' : α → Shared → Prop} {M : Model} {A : Around} {E : Value → Shared → Prop} {s : Shared} (h : wpAny M A t Q E s) (hQ : ∀ a s, Q a s → Q' a s) : wpAny M A t Q' E s := wpAny_mono h hQ fun _ _ x => x
end L2
namespace L2
open PySem PySem.Spec PyProof.Rows
section
variable {X : Cx}
def tVar (i : Nat) : TE := fun σ H Q => ∃ v, σ[i]? = some (some v) ∧ Q v H
def tC (v : V) : TE := fun _ H Q => Q v H
theorem pe_var {i : Nat} {x : Str} {pos : Pos} (hN : X.N[i]? = some x) (hv : Vis X.env.scope x) (hd : (x == ("__debug__" : Str)) = false := by decide) (hcd : (x == ("__classdict__" : Str)) = false := by decide) : PE X (.Name x pos) (tVar i) := by
  intro pins s σ H Q I h
  obtain ⟨v, e, h⟩ := h
  obtain ⟨m, hn, hl⟩ := I.loc
  obtain ⟨u, r, l⟩ := hl i x v hN e hv
  have fin : EP X pins σ Q u s := ⟨v, H, I, r, h⟩
  rcases l with ⟨hk, hm⟩ | ⟨hk, c, hc, hcell⟩
  · exact wpAny_Name (wpAny_loadName_local I.ok.kind hk hn hm fin) hd
  · rcases hk with hk | hk
    · exact wpAny_Name (wpAny_loadName_cell I.ok.kind hk hc hcell fin) hd
    · exact wpAny_Name (wpAny_loadName_free I.ok.kind hk hc hcell fin hcd) hd
theorem pe_int {i j pos} : PE X (.Constant (.int i) j pos) (tC (.int i)) := fun _ _ _ H _ I h => wpAny_Constant_int ⟨.int i, H, I.tok _, ⟨_, rfl⟩, h⟩
theorem pe_bl {b j pos} : PE X (.Constant (.bool b) j pos) (tC (.bl b)) := fun _ _ _ H _ I h => Constant_bool ⟨.bl b, H, I, rfl, h⟩
theorem pe_str {x j pos} : PE X (.Constant (.str x) j pos) (tC (.str x)) := fun _ _ _ H _ I h => Calls.Constant_str ⟨.str x, H, I.tok _, ⟨_, rfl⟩, h⟩
def Gl (X : Cx) (x : Str) : Prop := X.env.kindOf x = some .globalImplicit
theorem ld_glob {E : Value → Shared → Prop} {pins : List (Addr × Obj)} {s : Shared} {σ : St} {H : Hp} {x : Str} {u : Value} {pos : Pos} {Q : Value → Shared → Prop} (I : Inv X pins σ H s) (hg : Gl X x) (hm : X.mg x = some u) (h : Q u s)
    (hd : (x == ("__debug__" : Str)) = false := by decide) : wpAny (model X.prog X.w) X.A (eval (.Name x pos) X.env) Q E s :=
  Calls.Name_function_global I.ok.kind hg (Calls.loadGlobal_global (by rw [I.ok.glob]; exact I.mod.glob.keeps I.bk) hm h) hd
theorem ld_blt {E : Value → Shared → Prop} {pins : List (Addr × Obj)} {s : Shared} {σ : St} {H : Hp} {x : Str} {u : Value} {pos : Pos} {Q : Value → Shared → Prop} (I : Inv X pins σ H s) (hg : Gl X x) (hm : X.mg x = none) (hv : bootBuiltins x = some u) (h : Q u s)
    (hn : x ≠ "__name__" := by decide) (hd : (x == ("__debug__" : Str)) = false := by decide) : wpAny (model X.prog X.w) X.A (eval (.Name x pos) X.env) Q E s := by
  obtain ⟨mb, h1, h2⟩ := I.mod.blt
  exact Calls.Name_function_global I.ok.kind hg (Calls.loadGlobal_builtin (by rw [I.ok.glob]; exact I.mod.glob.keeps I.bk) hm (by rw [I.ok.blt]; exact h1.keeps I.bk) ((h2 x hn).trans hv) h) hd
theorem pe_glob {x : Str} {v : V} {u : Value} {pos : Pos} (hg : Gl X x) (hm : X.mg x = some u) (r : RelV v u) (hd : (x == ("__debug__" : Str)) = false := by decide) : PE X (.Name x pos) (tC v) :=
  fun _ _ _ H _ I h => ld_glob I hg hm ⟨v, H, I, r, h⟩ hd
theorem pe_bltn {x : Str} {v : V} {u : Value} {pos : Pos} (hg : Gl X x) (hm : X.mg x = none) (hv : bootBuiltins x = some u) (r : RelV v u) (hn : x ≠ "__name__" := by decide) (hd : (x == ("__debug__" : Str)) = false := by decide) : PE X (.Name x pos) (tC v) :=
  fun _ _ _ H _ I h => ld_blt I hg hm hv ⟨v, H, I, r, h⟩ hn hd
def t2I (ta tb : TE) (k : Int → Int → Hp → Prop) : St → Hp → Prop := fun σ H => ta σ H fun x H1 => tb σ H1 fun y H2 => ∃ i j, x = .int i ∧ y = .int j ∧ k i j H2
def tAdd (ta tb : TE) : TE := fun σ H Q => t2I ta tb (fun i j H2 => Q (.int (i + j)) H2) σ H
def tSub (ta tb : TE) : TE := fun σ H Q => t2I ta tb (fun i j H2 => Q (.int (i - j)) H2) σ H
def tMul (ta tb : TE) : TE := fun σ H Q => t2I ta tb (fun i j H2 => (-(2 ^ 64) < i ∧ i < 2 ^ 64) ∧ Q (.int (i * j)) H2) σ H
variable {a b : Expr} {ta tb : TE} {pos : Pos}
def PC (X : Cx) (op : CmpOp) (a b : Expr) (t : TE) : Prop :=
  ∀ (pins : List (Addr × Obj)) (s : Shared) (σ : St) (H : Hp) (Q : VK), Inv X pins σ H s → t σ H Q →
    wpAny (model X.prog X.w) X.A (eval a X.env) (fun v s₁ => wpAny (model X.prog X.w) X.A (eval b X.env) (fun u s₂ => wpAny (model X.prog X.w) X.A (compareOp op v u) (EP X pins σ Q) X.xe s₂) X.xe s₁) X.xe s
def tCmp (p : Int → Int → Bool) (ta tb : TE) : TE := fun σ H Q => t2I ta tb (fun i j H2 => Q (.bl (p i j)) H2) σ H
abbrev tLt : TE → TE → TE := tCmp fun i j => decide (i < j)
abbrev tLe : TE → TE → TE := tCmp fun i j => decide (i ≤ j)
abbrev tGt : TE → TE → TE := tCmp fun i j => decide (j < i)
abbrev tGe : TE → TE → TE := tCmp fun i j => decide (j ≤ i)
abbrev tEqI : TE → TE → TE := tCmp fun i j => decide (i = j)
abbrev tNeI : TE → TE → TE := tCmp fun i j => !decide (i = j)
def tIsN (ta : TE) : TE := fun σ H Q => ta σ H fun x H1 => Q (.bl (decide (x = .non))) H1
def tNotN (ta : TE) : TE := fun σ H Q => ta σ H fun x H1 => Q (.bl (!decide (x = .non))) H1
def tB (t : TE) : TT := fun σ H Q => t σ H fun x H1 => ∃ c, x = .bl c ∧ Q c H1
theorem pt_val {e : Expr} {t : TE} (h : PE X e t) (he : ∀ whole, isTrue e X.env whole = (do let v ← whole; standAt e.pos; holding [v] (truthy v)) := by intro _; rfl) : PT X e (tB t) := by
  intro pins s σ H Q I hw
  refine isTrue_plain (thn (h pins s σ H _ I hw) fun v s1 ⟨x, H1, I1, r1, q1⟩ => ?_) (he _)
  obtain ⟨d, rfl, q⟩ := q1
  cases r1
  exact wpAny_truthy_bool ⟨H1, I1, q⟩
variable {tA tB' : TT} {rest : List Expr}
def tAnd (t u : TT) : TT := fun σ H Q => t σ H fun c H1 => if c = true then u σ H1 Q else Q false H1
def tOr (t u : TT) : TT := fun σ H Q => t σ H fun c H1 => if c = true then Q true H1 else u σ H1 Q
def tNot (t : TT) : TT := fun σ H Q => t σ H fun c H1 => Q (!c) H1
theorem pw_or1 (ha : PT X a tA) : PW X (.BoolOp .Or [a] pos) tA := by
  intro wh pins s σ H Q I h
  refine isTrue_or (thn (ha pins s σ H Q I h) fun c s1 e => ?_)
  cases c with
  | false => exact isTrue_or_nil e
  | true => exact e
theorem pw_or (ha : PT X a tA) (hb : PW X (.BoolOp .Or (b :: rest) pos) tB') : PW X (.BoolOp .Or (a :: b :: rest) pos) (tOr tA tB') := by
  intro wh pins s σ H Q I h
  refine isTrue_or (thn (ha pins s σ H _ I h) fun c s1 ⟨H1, I1, q1⟩ => ?_)
  cases c with
  | true => exact ⟨H1, I1, q1⟩
  | false => exact hb wh pins s1 σ H1 Q I1 q1
theorem pt_not (ha : PT X a tA) : PT X (.UnaryOp .Not a pos) (tNot tA) := by
  intro pins s σ H Q I h
  exact isTrue_not (ha pins s σ H (fun c H1 => Q (!c) H1) I h)
def tAndV (ta tb : TE) : TE := fun σ H Q => ta σ H fun x H1 => ∃ c, x = .bl c ∧ if c = true then tb σ H1 Q else Q (.bl false) H1
def tOrV (ta tb : TE) : TE := fun σ H Q => ta σ H fun x H1 => ∃ c, x = .bl c ∧ if c = true then Q (.bl true) H1 else tb σ H1 Q
def tNotV (ta : TE) : TE := fun σ H Q => ta σ H fun x H1 => ∃ c, x = .bl c ∧ Q (.bl (!c)) H1
theorem pe_one {op} {t : TE} (h : PE X a t) : PE X (.BoolOp op [a] pos) t := fun pins s σ H Q I hw => BoolOp_one (h pins s σ H Q I hw)
theorem pe_and (ha : PE X a ta) (hb : PE X (.BoolOp .And (b :: rest) pos) tb) : PE X (.BoolOp .And (a :: b :: rest) pos) (tAndV ta tb) := by
  intro pins s σ H Q I h
  refine BoolOp_and (thn (ha pins s σ H _ I h) fun v s1 ⟨x, H1, I1, r1, q1⟩ => ?_)
  obtain ⟨c, rfl, q1⟩ := q1
  cases r1
  refine wpAny_truthy_bool ?_
  cases c with
  | true => exact hb pins s1 σ H1 Q I1 q1
  | false => exact ⟨.bl false, H1, I1, rfl, q1⟩
theorem pe_not (ha : PE X a ta) : PE X (.UnaryOp .Not a pos) (tNotV ta) := by
  intro pins s σ H Q I h
  refine UnaryOp_ (thn (ha pins s σ H _ I h) fun v s1 ⟨x, H1, I1, r1, q1⟩ => ?_)
  obtain ⟨c, rfl, q1⟩ := q1
  cases r1
  exact not_of (wpAny_truthy_bool ⟨.bl (!c), H1, I1, rfl, q1⟩)
def tIf (t : TT) (ta tb : TE) : TE := fun σ H Q => t σ H fun c H1 => if c = true then ta σ H1 Q else tb σ H1 Q
end
end L2
namespace L2
open PySem PySem.Spec PyProof.Rows
def SqL (K : PySem.W.Frag) (H : Hp) (a : Addr) (xs : List V) : Prop :=
  Rd H a (.lst xs) ∨
    ∃ (o : Obj) (its : Array Value) (n : Nat), K.lookup a = some o ∧ o.cls = .type "list" ∧ o.dict = none ∧ o.data = .seq its n ∧ its.size ≤ sizeLine ∧ Vals xs its.toList
def SqT (K : PySem.W.Frag) (H : Hp) (a : Addr) (xs : List V) : Prop :=
  Rd H a (.tup xs) ∨
    ∃ (o : Obj) (its : Array Value) (n : Nat), K.lookup a = some o ∧ o.cls = .type "tuple" ∧ o.data = .seq its n ∧ its.size ≤ sizeLine ∧ Vals xs its.toList
def absV : Value → Option V
  | .none => some .non
  | .bool b => some (.bl b)
  | .int i _ => some (.int i)
  | .str x _ => some (.str x)
  | .bytes b _ => some (.byt b)
  | .float b _ => some (.flt b)
  | .ref a => some (.ref a)
  | .type n => some (.ty n)
  | _ => none
theorem RelV.abs {x : V} {u : Value} (r : RelV x u) : absV u = some x := by
  cases x with
  | non => cases r; rfl
  | bl _ => cases r; rfl
  | int _ => obtain ⟨t, rfl⟩ := r; rfl
  | str _ => obtain ⟨t, rfl⟩ := r; rfl
  | byt _ => obtain ⟨t, rfl⟩ := r; rfl
  | flt _ => obtain ⟨t, rfl⟩ := r; rfl
  | ref _ => cases r; rfl
  | ty _ => cases r; rfl
theorem RelV.inj {x y : V} {u : Value} (r : RelV x u) (q : RelV y u) : x = y := Option.some.inj (r.abs.symm.trans q.abs)
theorem Vals.inj : ∀ {xs ys : List V} {us : List Value}, Vals xs us → Vals ys us → xs = ys
  | _, _, _, .nil, .nil => rfl
  | _, _, _, .cons r t, .cons r' t' => by rw [r.inj r', Vals.inj t t']
section
variable {X : Cx} {pins : List (Addr × Obj)} {σ : St} {H : Hp} {s : Shared} {a : Addr} {xs ys : List V}
theorem Inv.list (I : Inv X pins σ H s) (h : SqL X.K H a xs) : ∃ its : List Value, Vals xs its ∧ PlainL s.heap a its.toArray ∧ xs.length ≤ sizeLine := by
  rcases h with h | ⟨o, its, n, hk, hc, hd, hs, hz, r⟩
  · obtain ⟨z, its, n, r, e⟩ := h.ok I.hok
    exact ⟨its, r, ⟨_, n, e, rfl, rfl, rfl⟩, z⟩
  · refine ⟨its.toList, r, ⟨o, n, I.kIn a o hk, hc, hd, by simpa using hs⟩, ?_⟩
    have e := r.length
    simp only [Array.length_toList] at e
    omega
theorem Inv.tuple (I : Inv X pins σ H s) (h : SqT X.K H a xs) : ∃ its : List Value, Vals xs its ∧ IsTup s.heap a its.toArray ∧ xs.length ≤ sizeLine := by
  rcases h with h | ⟨o, its, n, hk, hc, hs, hz, r⟩
  · obtain ⟨z, its, r, p⟩ := h.ok I.hok
    exact ⟨its, r, p, z⟩
  · refine ⟨its.toList, r, ⟨o, I.kIn a o hk, hc, n, by simpa using hs⟩, ?_⟩
    have e := r.length
    simp only [Array.length_toList] at e
    omega
theorem Inv.list_inj (I : Inv X pins σ H s) (h : SqL X.K H a xs) (h' : SqL X.K H a ys) : xs = ys := by
  obtain ⟨its, r, ⟨o, n, e, _, _, d⟩, _⟩ := I.list h
  obtain ⟨its', r', ⟨o', n', e', _, _, d'⟩, _⟩ := I.list h'
  rw [e] at e'; cases e'
  rw [d] at d'
  injection d' with d1 _
  have : its = its' := by simpa using congrArg Array.toList d1
  subst this
  exact r.inj r'
theorem Inv.tuple_inj (I : Inv X pins σ H s) (h : SqT X.K H a xs) (h' : SqT X.K H a ys) : xs = ys := by
  obtain ⟨its, r, ⟨o, e, _, n, d⟩, _⟩ := I.tuple h
  obtain ⟨its', r', ⟨o', e', _, n', d'⟩, _⟩ := I.tuple h'
  rw [e] at e'; cases e'
  rw [d] at d'
  injection d' with d1 _
  have : its = its' := by simpa using congrArg Array.toList d1
  subst this
  exact r.inj r'
end
abbrev Cx.wish (X : Cx) (E : Value → Shared → Prop) : Cx := { X with xe := E }
abbrev Cx.nox (X : Cx) : Cx := X.wish fun _ _ => False
theorem Cx.Ok.wish {X : Cx} (ok : X.Ok) (E : Value → Shared → Prop) : (X.wish E).Ok :=
  ⟨ok.mod, ok.kind, ok.glob, ok.blt, ok.above, ok.inj, ok.has, ok.cab, ok.hd, ok.frames, ok.stk, ok.exf, ok.bs, ok.bsz, ok.noex, ok.exfs, ok.funs, ok.frf⟩
theorem Cx.Ok.unwish {X : Cx} {E : Value → Shared → Prop} (ok : (X.wish E).Ok) : X.Ok :=
  ⟨ok.mod, ok.kind, ok.glob, ok.blt, ok.above, ok.inj, ok.has, ok.cab, ok.hd, ok.frames, ok.stk, ok.exf, ok.bs, ok.bsz, ok.noex, ok.exfs, ok.funs, ok.frf⟩
section
variable {X : Cx} {pins : List (Addr × Obj)} {σ : St} {H : Hp} {s : Shared} {E : Value → Shared → Prop}
theorem Inv.wish (I : Inv X pins σ H s) (E : Value → Shared → Prop) : Inv (X.wish E) pins σ H s := ⟨I.ok.wish E, I.os, I.bare, I.base, I.loc, I.cell, I.free, I.freeC, I.pin, I.hok, I.len⟩
theorem Inv.unwish (I : Inv (X.wish E) pins σ H s) : Inv X pins σ H s := ⟨I.ok.unwish, I.os, I.bare, I.base, I.loc, I.cell, I.free, I.freeC, I.pin, I.hok, I.len⟩
theorem SP.unwish {D : Ends} {f : Flow} {s' : Shared} (h : SP (X.wish E) pins D f s') : SP X pins D f s' := by
  cases f with
  | next => obtain ⟨σ', H', I, q⟩ := h; exact ⟨σ', H', I.unwish, q⟩
  | brk => obtain ⟨σ', H', I, q⟩ := h; exact ⟨σ', H', I.unwish, q⟩
  | cont => obtain ⟨σ', H', I, q⟩ := h; exact ⟨σ', H', I.unwish, q⟩
  | ret u => obtain ⟨v, σ', H', I, r, q⟩ := h; exact ⟨v, σ', H', I.unwish, r, q⟩
theorem PE.nox {e : Expr} {t : TE} (h : PE X.nox e t) : PE X e t := fun pins s σ H Q I hw =>
  wpAny_mono (h pins s σ H Q (I.wish _) hw) (fun _ _ ⟨v, H', I', r, q⟩ => ⟨v, H', I'.unwish, r, q⟩) fun _ _ z => False.elim z
theorem PT.nox {e : Expr} {t : TT} (h : PT X.nox e t) : PT X e t := fun pins s σ H Q I hw =>
  wpAny_mono (h pins s σ H Q (I.wish _) hw) (fun _ _ ⟨H', I', q⟩ => ⟨H', I'.unwish, q⟩) fun _ _ z => False.elim z
theorem PSs.nox {st : List Stmt} {t : TS} (h : PSs X.nox st t) : PSs X st t := fun pins s σ H D I hw =>
  wpAny_mono (h pins s σ H D (I.wish _) hw) (fun _ _ q => q.unwish) fun _ _ z => False.elim z
end
section
variable {X : Cx} {st : Stmt} {rest : List Stmt} {t u : TS} {e : Expr} {te : TE} {pos : Pos}
def tNext : TS := fun D σ H => D.nx σ H
def tSeq (t u : TS) : TS := fun D σ H => t { D with nx := u D } σ H
theorem pss_nil : PSs X [] tNext := fun _ _ σ H _ I h => wpAny_execs_nil ⟨σ, H, I, h⟩
theorem pss_cons (h1 : PS X st t) (h2 : PSs X rest u) : PSs X (st :: rest) (tSeq t u) := by
  intro pins s σ H D I h
  refine wpAny_execs_cons (thn (h1 pins s σ H { D with nx := u D } I h) fun f s1 q => ?_)
  cases f with
  | next =>
    obtain ⟨σ', H', I', q⟩ := q
    exact h2 pins s1 σ' H' D I' q
  | ret v => exact q
  | brk => exact q
  | cont => exact q
theorem pss_one (h1 : PS X st t) : PSs X [st] t := by
  intro pins s σ H D I h
  refine wpAny_execs_cons (thn (h1 pins s σ H D I h) fun f s1 q => ?_)
  cases f with
  | next => exact wpAny_execs_nil q
  | ret v => exact q
  | brk => exact q
  | cont => exact q
def tBreak : TS := fun D σ H => D.bk σ H
def tCont : TS := fun D σ H => D.ct σ H
theorem Inv.quiet {pins : List (Addr × Obj)} {σ : St} {H : Hp} {s : Shared} (I : Inv X pins σ H s) : interactive X.env = false := by simp [interactive, I.ok.kind]
def tDrop (te : TE) : TS := fun D σ H => te σ H fun _ H1 => D.nx σ H1
theorem ps_expr (he : PE X e te) (hs : swapsWith e none pos.line X.env = pure false := by rfl) : PS X (.Expr e pos) (tDrop te) := by
  intro pins s σ H D I h
  exact wpAny_Expr_any (thn (he pins s σ H _ I h) fun v s1 ⟨x, H1, I1, r1, q1⟩ => ⟨σ, H1, I1, q1⟩) I.quiet hs
def tRet (te : TE) : TS := fun D σ H => te σ H D.rt
theorem ps_ret (he : PE X e te) : PS X (.Return (some e) pos) (tRet te) := by
  intro pins s σ H D I h
  exact wpAny_Return_some (thn (he pins s σ H _ I h) fun v s1 ⟨x, H1, I1, r1, q1⟩ => ⟨x, σ, H1, I1, r1, q1⟩)
def tRetN : TS := fun D _ H => D.rt .non H
def tIfS (c : TT) (t u : TS) : TS := fun D σ H => c σ H fun b H1 => if b = true then t D σ H1 else u D σ H1
theorem ps_if {c : Expr} {a b : List Stmt} {tc : TT} (hc : PT X c tc) (ha : PSs X a t) (hb : PSs X b u) : PS X (.If c a b pos) (tIfS tc t u) := by
  intro pins s σ H D I h
  refine wpAny_If (thn (hc pins s σ H _ I h) fun d s1 ⟨H1, I1, q1⟩ => ?_)
  cases d with
  | true => exact ha pins s1 σ H1 D I1 q1
  | false => exact hb pins s1 σ H1 D I1 q1
def tNever : TS := fun _ _ _ => False
end
abbrev TG := V → St → Hp → (St → Hp → Prop) → Prop
abbrev TGs := List V → St → Hp → (St → Hp → Prop) → Prop
def PG (X : Cx) (target : Expr) (t : TG) : Prop :=
  ∀ (pins : List (Addr × Obj)) (s : Shared) (σ : St) (H : Hp) (v : V) (u : Value) (Q : St → Hp → Prop), Inv X pins σ H s → RelV v u → t v σ H Q →
    wpAny (model X.prog X.w) X.A (assign target X.env u) (fun _ s' => ∃ σ' H', Inv X pins σ' H' s' ∧ Q σ' H') X.xe s
def PGs (X : Cx) (ts : List Expr) (t : TGs) : Prop :=
  ∀ (pins : List (Addr × Obj)) (s : Shared) (σ : St) (H : Hp) (vs : List V) (us : List Value) (Q : St → Hp → Prop), Inv X pins σ H s → Vals vs us → t vs σ H Q →
    wpAny (model X.prog X.w) X.A (assignInOrder ((assignEach ts X.env).map (·.2)) us) (fun _ s' => ∃ σ' H', Inv X pins σ' H' s' ∧ Q σ' H') X.xe s
abbrev TSet := V → V → V → Hp → (Hp → Prop) → Prop
def PSet (X : Cx) (t : TSet) : Prop :=
  ∀ (pins : List (Addr × Obj)) (s : Shared) (σ : St) (H : Hp) (o i v : V) (ov iv u : Value) (Q : Hp → Prop), Inv X pins σ H s → RelV o ov → RelV i iv → RelV v u → t o i v H Q →
    wpAny (model X.prog X.w) X.A (setItem ov iv u) (fun _ s' => ∃ H', Inv X pins σ H' s' ∧ Q H') X.xe s
abbrev TIp := V → V → Hp → VK → Prop
def PIp (X : Cx) (op : Operator) (t : TIp) : Prop :=
  ∀ (pins : List (Addr × Obj)) (s : Shared) (σ : St) (H : Hp) (x y : V) (v u : Value) (Q : VK), Inv X pins σ H s → RelV x v → RelV y u → t x y H Q →
    wpAny (model X.prog X.w) X.A (inplaceOp op v u) (EP X pins σ Q) X.xe s
section
variable {X : Cx} {pos : Pos}
def gName (i : Nat) : TG := fun v σ H Q => Q (σ.set i (some v)) H
theorem pg_name {i : Nat} {x : Str} (hN : X.N.Nodup) (hi : X.N[i]? = some x) (hx : Loc X.env.scope x) (hf : X.fn x = true ∨ X.env.scope.names.lookup x = some .local := by first | exact .inl rfl | exact .inr rfl | assumption) : PG X (.Name x pos) (gName i) := by
  intro pins s σ H v u Q I r h
  exact wpAny_assign_Name (store_ok I hN hi hx r (fun s' I' => ⟨_, H, I', h⟩) hf)
def gNil : TGs := fun vs σ H Q => vs = [] ∧ Q σ H
def gCons (t : TG) (u : TGs) : TGs := fun vs σ H Q => ∃ v r, vs = v :: r ∧ t v σ H fun σ' H' => u r σ' H' Q
def gTup (K : PySem.W.Frag) (n : Nat) (t : TGs) : TG := fun v σ H Q => ∃ a xs, v = .ref a ∧ SqT K H a xs ∧ xs.length = n ∧ t xs σ H Q
def gSub (to ti : TE) (t : TSet) : TG := fun v σ H Q => to σ H fun o H1 => ti σ H1 fun i H2 => t o i v H2 fun H3 => Q σ H3
def tAsg (te : TE) (g : TG) : TS := fun D σ H => te σ H fun x H1 => g x σ H1 D.nx
theorem ps_set {i : Nat} {x : Str} {e : Expr} {te : TE} {pos' : Pos} (hN : X.N.Nodup) (hi : X.N[i]? = some x) (hx : Loc X.env.scope x) (he : PE X e te) (hs : swapsWith e (some (.Name x pos')) pos.line X.env = pure false := by rfl) (hf : X.fn x = true ∨ X.env.scope.names.lookup x = some .local := by first | exact .inl rfl | exact .inr rfl | assumption) :
    PS X (.Assign [.Name x pos'] e pos) (tAsg te (gName i)) := by
  intro pins s σ H D I h
  refine wpAny_Assign_Name (thn (he pins s σ H _ I h) fun v s1 ⟨y, H1, I1, r1, q1⟩ => ?_) hs
  exact store_ok I1 hN hi hx r1 (fun s2 I2 => ⟨_, H1, I2, q1⟩) hf
def tPar (i j : Nat) (ta : TA) : TS := fun D σ H => ta σ H fun vs H1 => ∃ v w, vs = [v, w] ∧ D.nx ((σ.set i (some v)).set j (some w)) H1
def tAug (i : Nat) (te : TE) (ti : TIp) : TS := fun D σ H => ∃ x, σ[i]? = some (some x) ∧ te σ H fun y H1 => ti x y H1 fun z H2 => D.nx (σ.set i (some z)) H2
def tAugS (to ti te : TE) (tget : V → V → Hp → VK → Prop) (tip : TIp) (tset : TSet) : TS := fun D σ H => to σ H fun o H1 => ti σ H1 fun i H2 => tget o i H2 fun x H3 => te σ H3 fun y H4 => tip x y H4 fun z H5 => tset o i z H5 fun H6 => D.nx σ H6
def PGet (X : Cx) (t : V → V → Hp → VK → Prop) : Prop :=
  ∀ (pins : List (Addr × Obj)) (s : Shared) (σ : St) (H : Hp) (o i : V) (ov iv : Value) (Q : VK), Inv X pins σ H s → RelV o ov → RelV i iv → t o i H Q →
    wpAny (model X.prog X.w) X.A (getItem ov iv) (EP X pins σ Q) X.xe s
def ipI (f : Int → Int → Int) : TIp := fun x y H Q => ∃ i j, x = .int i ∧ y = .int j ∧ Q (.int (f i j)) H
end
section
variable {X : Cx} {pos : Pos}
def tWhile (c : TT) (tb : TS) : TS := fun D σ H => ∃ W : Nat → St → Hp → Prop, (∃ m, W m σ H) ∧ ∀ m σ H, W m σ H →
  c σ H fun b H1 => if b = true then ∃ N : St → Hp → Prop, (∀ σ' H', N σ' H' → ∃ m', m' < m ∧ W m' σ' H') ∧ tb { D with nx := N, ct := N, bk := D.nx } σ H1 else D.nx σ H1
end
structure It where
  go : Nat → Hp → Prop
  yld : Nat → Hp → V → Hp → Prop
  stop : Nat → Hp → Prop
def FpOk (X : Cx) (pins : List (Addr × Obj)) (H : Hp) (b : Addr) : Prop :=
  H b = none ∧ b ≠ X.env.locals ∧ b ∉ X.fs ∧ (b ∈ X.ex ∨ X.s₀.heap.objs.size ≤ b) ∧ (∀ x c, X.env.cells.lookup x = some c → c ≠ b) ∧ ∀ p ∈ X.pn ++ pins, p.1 ≠ b
theorem Inv.fpOk {X : Cx} {pins : List (Addr × Obj)} {σ : St} {H H' : Hp} {s : Shared} {b : Addr} (I : Inv X pins σ H s) (hb : s.heap.objs.size ≤ b) (hn : H' b = none) : FpOk X pins H' b := by
  refine ⟨hn, Nat.ne_of_gt (Nat.lt_of_lt_of_le I.lt hb), I.nofs hb, .inr (Nat.le_trans I.sz hb), fun x c e z => ?_, fun p hp z => ?_⟩
  · obtain ⟨v, q⟩ := I.cell x c e
    exact absurd (Nat.lt_of_lt_of_le q.lt (by rw [z]; exact hb)) (Nat.lt_irrefl _)
  · exact absurd (Nat.lt_of_lt_of_le (Heap.lt_size (I.pin p hp).1) (by rw [z]; exact hb)) (Nat.lt_irrefl _)
structure Turn (P : Program) (w : World) (K : PySem.W.Frag) (tg : Expr) (J : It) (fp : List Addr) (it : Addr) (tn : Nat → Heap → Prop) : Prop where
  mem : it ∈ fp
  obj : ∀ i h, tn i h → ∀ b ∈ fp, ∃ o, h.get? b = some o ∧ ∀ v, o.data ≠ .cell v
  keep : ∀ i h h', tn i h → (∀ b ∈ fp, ∀ o, h.get? b = some o → h'.get? b = some o) → tn i h'
  item : ∀ (X : Cx), X.prog = P → X.w = w → X.K = K → X.calm = true → ∀ (i : Nat) (pins : List (Addr × Obj)) (s : Shared) (σ : St) (H : Hp) (E : Value → Shared → Prop), Inv X pins σ H s → (∀ b ∈ fp, FpOk X pins H b) → tn i s.heap → J.go i H →
    wpAny (model P w) X.A (pyNext (.ref it)) (fun r s1 => ∃ u, r = some u ∧
      wpAny (model P w) X.A (letOwnedTupleGo tg (.ref it) u) (fun _ s2 => ∃ x H', Inv X pins σ H' s2 ∧ RelV x u ∧ J.yld i H x H' ∧ tn (i + 1) s2.heap ∧ ∀ b ∈ fp, H' b = none) E s1) E s
  done : ∀ (X : Cx), X.prog = P → X.w = w → X.K = K → X.calm = true → ∀ (i : Nat) (pins : List (Addr × Obj)) (s : Shared) (σ : St) (H : Hp) (E : Value → Shared → Prop), Inv X pins σ H s → (∀ b ∈ fp, FpOk X pins H b) → tn i s.heap → J.stop i H →
    wpAny (model P w) X.A (pyNext (.ref it)) (fun r s1 => r = none ∧ Inv X pins σ H s1) E s
  self : ∀ (A : Around) (i : Nat) (s : Shared) (Q : Value → Shared → Prop) (E : Value → Shared → Prop), tn i s.heap → Q (.ref it) s → wpAny (model P w) A (pyIter (.ref it)) Q E s
abbrev TI := St → Hp → (It → Hp → Prop) → Prop
def PIE (X : Cx) (pins : List (Addr × Obj)) (σ : St) (tg : Expr) (R : It → Hp → Prop) (itv : Value) (s2 : Shared) : Prop :=
  ∃ (it : Addr) (fp : List Addr) (tn : Nat → Heap → Prop) (J : It) (H' : Hp), itv = .ref it ∧ Inv X pins σ H' s2 ∧ Turn X.prog X.w X.K tg J fp it tn ∧ tn 0 s2.heap ∧ (∀ b ∈ fp, FpOk X pins H' b) ∧ R J H'
def PI (X : Cx) (tg iter : Expr) (wi : TI) : Prop :=
  ∀ (pins : List (Addr × Obj)) (s : Shared) (σ : St) (H : Hp) (R : It → Hp → Prop), Inv X pins σ H s → wi σ H R →
    wpAny (model X.prog X.w) X.A (eval iter X.env) (fun v s1 => wpAny (model X.prog X.w) X.A (pyIter v) (PIE X pins σ tg R) X.xe s1) X.xe s
theorem go_of {M : Model} {A : Around} {E : Value → Shared → Prop} {s : Shared} {tg : Expr} {it : Addr} {u : Value} {o : Obj} {n : String} {vs : Array Value} {Q : Unit → Shared → Prop} (ho : s.heap.get? it = some o) (hc : o.cls = .type n) (hd : o.data = .fields vs)
    (hn : ["enumerate", "zip", "dict_itemiterator", "dict_reverseitemiterator", "odict_iterator", "itertools.zip_longest", "itertools.pairwise"].contains n = false) (hQ : Q () s) : wpAny M A (letOwnedTupleGo tg (.ref it) u) Q E s := by
  unfold letOwnedTupleGo
  cases tg <;> first
    | exact wpAny_pure hQ
    | (cases u <;> first
        | exact wpAny_pure hQ
        | (refine wpAny_bind (wpAny_load ho ?_)
           rw [hc, hd]
           show wpAny M A (if (["enumerate", "zip", "dict_itemiterator", "dict_reverseitemiterator", "odict_iterator", "itertools.zip_longest", "itertools.pairwise"].contains n && vs[0]? == some (rawInt _)) = true then _ else _) Q E s
           rw [if_neg (by intro h; rw [hn, Bool.false_and] at h; cases h)]
           exact wpAny_pure hQ))
def Itl (K : PySem.W.Frag) (a : Addr) : It :=
  ⟨fun i H => ∃ xs x, SqL K H a xs ∧ xs[i]? = some x, fun i H x H' => H' = H ∧ ∀ xs, SqL K H a xs → xs[i]? = some x, fun i H => ∃ xs, SqL K H a xs ∧ xs.length ≤ i⟩
def Itt (K : PySem.W.Frag) (a : Addr) : It :=
  ⟨fun i H => ∃ xs x, SqT K H a xs ∧ xs[i]? = some x, fun i H x H' => H' = H ∧ ∀ xs, SqT K H a xs → xs[i]? = some x, fun i H => ∃ xs, SqT K H a xs ∧ xs.length ≤ i⟩
def Itr (lo : Int) (n : Nat) : It := ⟨fun i _ => i < n, fun i H x H' => H' = H ∧ x = .int (lo + i), fun i _ => n ≤ i⟩
theorem turn_list {P : Program} {w : World} {K : PySem.W.Frag} {tg : Expr} (a it : Addr) : Turn P w K tg (Itl K a) [it] it (fun i h => h.IsListIter it a i) where
  mem := by simp
  obj := fun i h st b hb => by
    have e : b = it := by simpa using hb
    subst e
    obtain ⟨o, e, c, d⟩ := st
    exact ⟨o, e, fun v z => by rw [d] at z; cases z⟩
  keep := fun i h h' st k => st.at fun o e => k it (by simp) o e
  item := by
    intro X hP hw hK hc i pins s σ H E I hf st hg
    subst hP hw hK
    obtain ⟨xs, x, hq, hx⟩ := hg
    obtain ⟨its, rv, p, hz⟩ := I.list hq
    obtain ⟨u, hu, ru⟩ := rv.get hx
    obtain ⟨f0, f1, f2, f3, f4, f5⟩ := hf it (by simp)
    refine wpAny_pyNext_list_item st p.isList (x := u) (by simpa using hu) fun h' st' sb => ?_
    have I1 : Inv X pins σ H { s with heap := h' } := I.turned (t' := s.toks) (fun b o hb e => (sb.2 b hb).trans e) f0 f1 f3 f4 f5
    obtain ⟨o, e, c, d⟩ := id st'
    exact ⟨u, rfl, go_of (s := { s with heap := h' }) e c d (by decide) ⟨x, H, I1, ru, ⟨rfl, fun ys hy => by rw [I.list_inj hy hq]; exact hx⟩, st', fun b hb => (hf b hb).1⟩⟩
  done := by
    intro X hP hw hK hc i pins s σ H E I hf st hg
    subst hP hw hK
    obtain ⟨xs, hq, hx⟩ := hg
    obtain ⟨its, rv, p, hz⟩ := I.list hq
    obtain ⟨f0, f1, f2, f3, f4, f5⟩ := hf it (by simp)
    have hl := rv.length
    exact wpAny_pyNext_list_end (I.ok.hd hc) st p.isList (by simp; omega) fun h' eb => ⟨rfl, I.turned (t' := s.toks) (fun b o hb e => eb b o hb e) f0 f1 f3 f4 f5⟩
  self := fun _ _ _ _ _ st h => wpAny_pyIter_listiter st h
theorem turn_tuple {P : Program} {w : World} {K : PySem.W.Frag} {tg : Expr} (a it : Addr) : Turn P w K tg (Itt K a) [it] it (fun i h => h.IsTupleIter it a i) where
  mem := by simp
  obj := fun i h st b hb => by
    have e : b = it := by simpa using hb
    subst e
    obtain ⟨o, e, c, d⟩ := st
    exact ⟨o, e, fun v z => by rw [d] at z; cases z⟩
  keep := fun i h h' st k => st.at fun o e => k it (by simp) o e
  item := by
    intro X hP hw hK hc i pins s σ H E I hf st hg
    subst hP hw hK
    obtain ⟨xs, x, hq, hx⟩ := hg
    obtain ⟨its, rv, p, hz⟩ := I.tuple hq
    obtain ⟨u, hu, ru⟩ := rv.get hx
    obtain ⟨f0, f1, f2, f3, f4, f5⟩ := hf it (by simp)
    refine wpAny_pyNext_tuple_item st (show s.heap.IsTuple a its.toArray from p) (x := u) (by simpa using hu) fun h' st' sb => ?_
    have I1 : Inv X pins σ H { s with heap := h' } := I.turned (t' := s.toks) (fun b o hb e => (sb.2 b hb).trans e) f0 f1 f3 f4 f5
    obtain ⟨o, e, c, d⟩ := id st'
    exact ⟨u, rfl, go_of (s := { s with heap := h' }) e c d (by decide) ⟨x, H, I1, ru, ⟨rfl, fun ys hy => by rw [I.tuple_inj hy hq]; exact hx⟩, st', fun b hb => (hf b hb).1⟩⟩
  done := by
    intro X hP hw hK hc i pins s σ H E I hf st hg
    subst hP hw hK
    obtain ⟨xs, hq, hx⟩ := hg
    obtain ⟨its, rv, p, hz⟩ := I.tuple hq
    obtain ⟨f0, f1, f2, f3, f4, f5⟩ := hf it (by simp)
    have hl := rv.length
    exact wpAny_pyNext_tuple_end (I.ok.hd hc) st (show s.heap.IsTuple a its.toArray from p) (by simp; omega) fun h' eb => ⟨rfl, I.turned (t' := s.toks) (fun b o hb e => eb b o hb e) f0 f1 f3 f4 f5⟩
  self := fun _ _ _ _ _ st h => wpAny_pyIter_tupleiter st h
theorem turn_range {P : Program} {w : World} {K : PySem.W.Frag} {tg : Expr} (it : Addr) (lo : Int) (n : Nat) : Turn P w K tg (Itr lo n) [it] it (fun i h => IsRangeIter h it (lo + (i : Nat) * 1) ((n : Int) - (i : Nat)) 1) where
  mem := by simp
  obj := fun i h st b hb => by
    have e : b = it := by simpa using hb
    subst e
    exact ⟨_, st, fun v z => by
      have z' : Data.fields _ = Data.cell v := z
      cases z'⟩
  keep := fun i h h' st k => k it (by simp) _ st
  item := by
    intro X hP hw hK hc i pins s σ H E I hf st hg
    subst hP hw hK
    obtain ⟨f0, f1, f2, f3, f4, f5⟩ := hf it (by simp)
    have W := Walks.range (prog := X.prog) (w := X.w) (I.ok.hd hc) it lo 1 n
    refine W.item i s _ _ hg st fun v h' tk hv st' kk => ?_
    obtain ⟨t, rfl⟩ := hv
    have I1 : Inv X pins σ H { s with heap := h', toks := tk } := I.turned (fun b o hb e => kk b o (by simpa using hb) e) f0 f1 f3 f4 f5
    refine ⟨_, rfl, go_of (s := { s with heap := h', toks := tk }) (n := "range_iterator") st' rfl rfl (by decide) ⟨.int (lo + i), H, I1, ⟨t, ?_⟩, ⟨rfl, rfl⟩, st', fun b hb => (hf b hb).1⟩⟩
    rw [Int.mul_one]
  done := by
    intro X hP hw hK hc i pins s σ H E I hf st hg
    subst hP hw hK
    obtain ⟨f0, f1, f2, f3, f4, f5⟩ := hf it (by simp)
    exact wpAny_pyNext_range_end (I.ok.hd hc) st (by have : n ≤ i := hg; omega) fun h' eb => ⟨rfl, I.turned (t' := s.toks) (fun b o hb e => eb b o hb e) f0 f1 f3 f4 f5⟩
  self := fun _ _ _ _ _ st h => wpAny_pyIter_rangeiter st h
end L2
namespace L2
open PySem PySem.Spec PyProof.Rows
section
variable {X : Cx} {tg : Expr}
def iList (K : PySem.W.Frag) (tl : TE) : TI := fun σ H R => tl σ H fun x H1 => ∃ a, x = .ref a ∧ (∃ xs, SqL K H1 a xs) ∧ R (Itl K a) H1
def iTup (K : PySem.W.Frag) (tl : TE) : TI := fun σ H R => tl σ H fun x H1 => ∃ a, x = .ref a ∧ (∃ xs, SqT K H1 a xs) ∧ R (Itt K a) H1
theorem pi_list {l : Expr} {tl : TE} (hl : PE X l tl) : PI X tg l (iList X.K tl) := by
  intro pins s σ H R I h
  refine thn (hl pins s σ H _ I h) fun v s1 ⟨x, H1, I1, r1, q1⟩ => ?_
  obtain ⟨a, e, ⟨xs, hq⟩, q⟩ := q1
  subst e
  cases r1
  obtain ⟨its, rv, p, hz⟩ := I1.list hq
  refine wpAny_pyIter_list p.isList ?_
  refine ⟨s1.heap.objs.size, [s1.heap.objs.size], _, _, H1, rfl, I1.kept (t' := s1.toks) fun b o e => Heap.get?_push_of_some _ e, turn_list a _, ⟨_, Heap.get?_push_size _ rfl, rfl, rfl⟩, fun b hb => ?_, q⟩
  have e : b = s1.heap.objs.size := by simpa using hb
  subst e
  exact I1.fpOk (Nat.le_refl _) (I1.hok.fresh (Nat.le_refl _))
theorem pi_tup {l : Expr} {tl : TE} (hl : PE X l tl) : PI X tg l (iTup X.K tl) := by
  intro pins s σ H R I h
  refine thn (hl pins s σ H _ I h) fun v s1 ⟨x, H1, I1, r1, q1⟩ => ?_
  obtain ⟨a, e, ⟨xs, hq⟩, q⟩ := q1
  subst e
  cases r1
  obtain ⟨its, rv, p, hz⟩ := I1.tuple hq
  refine wpAny_pyIter_tuple (show s1.heap.IsTuple a its.toArray from p) ?_
  refine ⟨s1.heap.objs.size, [s1.heap.objs.size], _, _, H1, rfl, I1.kept (t' := s1.toks) fun b o e => Heap.get?_push_of_some _ e, turn_tuple a _, ⟨_, Heap.get?_push_size _ rfl, rfl, rfl⟩, fun b hb => ?_, q⟩
  have e : b = s1.heap.objs.size := by simpa using hb
  subst e
  exact I1.fpOk (Nat.le_refl _) (I1.hok.fresh (Nat.le_refl _))
theorem range_it {pins : List (Addr × Obj)} {σ : St} {H : Hp} {s : Shared} {R : It → Hp → Prop} {E : Value → Shared → Prop} {lo hi : Int} {t u v : Tok} {tk : Nat} (I : Inv X pins σ H s) (h1 : -(2 ^ 62) ≤ lo) (h2 : lo < 2 ^ 62) (h3 : -(2 ^ 62) ≤ hi) (h4 : hi < 2 ^ 62)
    (q : R (Itr lo (hi - lo).toNat) H) : wpAny (model X.prog X.w) X.A (pyIter (.ref s.heap.objs.size)) (PIE X pins σ tg R) E { s with heap := s.heap.push { cls := .type "range", data := .fields #[.int lo t, .int hi u, .int 1 v] }, toks := tk } := by
  refine wpAny_pyIter_range (IsRange.new ..) (small_one h1 h2 h3 h4) ?_
  have I1 : Inv X pins σ H { s with heap := s.heap.push { cls := .type "range", data := .fields #[.int lo t, .int hi u, .int 1 v] }, toks := tk } := I.kept fun b o e => Heap.get?_push_of_some _ e
  refine ⟨(s.heap.push { cls := .type "range", data := .fields #[.int lo t, .int hi u, .int 1 v] }).objs.size, [(s.heap.push { cls := .type "range", data := .fields #[.int lo t, .int hi u, .int 1 v] }).objs.size], _, _, H, rfl,
    I1.kept (t' := tk) fun b o e => Heap.get?_push_of_some _ e, turn_range _ lo (hi - lo).toNat, ?_, fun b hb => ?_, q⟩
  · have e1 : lo + ((0 : Nat) : Int) * 1 = lo := by simp
    have e2 : (((hi - lo).toNat : Nat) : Int) - ((0 : Nat) : Int) = Builtin.Range.rangeSize lo hi 1 := by rw [rangeSize_one]; split <;> omega
    show IsRangeIter _ _ (lo + ((0 : Nat) : Int) * 1) ((((hi - lo).toNat : Nat) : Int) - ((0 : Nat) : Int)) 1
    rw [e1, e2]
    exact Heap.get?_push_size _ rfl
  · have e : b = (s.heap.push { cls := .type "range", data := .fields #[.int lo t, .int hi u, .int 1 v] }).objs.size := by simpa using hb
    subst e
    exact I1.fpOk (Nat.le_refl _) (I1.hok.fresh (Nat.le_refl _))
def iRng1 (ta : TA) : TI := fun σ H R => ta σ H fun vs H1 => ∃ j : Int, vs = [.int j] ∧ -(2 ^ 62) ≤ j ∧ j < 2 ^ 62 ∧ R (Itr 0 j.toNat) H1
def iRng2 (ta : TA) : TI := fun σ H R => ta σ H fun vs H1 => ∃ i j : Int, vs = [.int i, .int j] ∧ (-(2 ^ 62) ≤ i ∧ i < 2 ^ 62 ∧ -(2 ^ 62) ≤ j ∧ j < 2 ^ 62) ∧ R (Itr i (j - i).toNat) H1
theorem pi_range1 {a : Expr} {ta : TA} {p pos : Pos} (hg : Gl X "range") (hm : X.mg "range" = none) (ha : PA X [a] ta) (hs : starEach [a] X.env = [(false, eval a X.env)] := by rfl) : PI X tg (.Call (.Name "range" p) [a] [] pos) (iRng1 ta) := by
  intro pins s σ H R I h
  refine Call_ (ld_blt I hg hm boot_range (PyProof.Rows.callWith_type1 (thn (ha pos pins s σ H _ I h) fun us s1 ⟨vs, H1, I1, r1, q1⟩ => ?_) hs rfl))
  obtain ⟨j, e, q1, q2, q⟩ := q1
  subst e
  cases r1 with
  | cons r rr =>
    cases rr
    obtain ⟨t, rfl⟩ := r
    exact call_range_1 (range_it I1 (by omega) (by omega) q1 q2 (by simpa using q))
theorem pi_range2 {a b : Expr} {ta : TA} {p pos : Pos} (hg : Gl X "range") (hm : X.mg "range" = none) (ha : PA X [a, b] ta) (hs : starEach [a, b] X.env = [(false, eval a X.env), (false, eval b X.env)] := by rfl) (hs2 : starEach [b] X.env = [(false, eval b X.env)] := by rfl) :
    PI X tg (.Call (.Name "range" p) [a, b] [] pos) (iRng2 ta) := by
  intro pins s σ H R I h
  refine Call_ (ld_blt I hg hm boot_range (PyProof.Rows.callWith_type1 (thn (ha pos pins s σ H _ I h) fun us s1 ⟨vs, H1, I1, r1, q1⟩ => ?_) (by rw [hs, hs2]) (by rw [hs2]; rfl)))
  obtain ⟨i, j, e, ⟨q1, q2, q3, q4⟩, q⟩ := q1
  subst e
  cases r1 with
  | cons r rr =>
    cases rr with
    | cons r' rr =>
      cases rr
      obtain ⟨t, rfl⟩ := r
      obtain ⟨t', rfl⟩ := r'
      exact call_range_2 (range_it I1 q1 q2 q3 q4 q)
def tFor (wi : TI) (g : TG) (tb : TS) : TS := fun D σ H => wi σ H fun J H1 => ∃ W : Nat → Nat → St → Hp → Prop, (∃ m, W 0 m σ H1) ∧ ∀ i m σ H, W i m σ H →
  (J.stop i H ∧ D.nx σ H) ∨ (J.go i H ∧ ∃ N : St → Hp → Prop, (∀ σ' H', N σ' H' → ∃ m', m' < m ∧ W (i + 1) m' σ' H') ∧ ∀ x H', J.yld i H x H' → g x σ H' fun σ2 H2 => tb { D with nx := N, ct := N, bk := D.nx } σ2 H2)
def pinsAt (fp : List Addr) (h : Heap) : List (Addr × Obj) := fp.filterMap fun b => (h.get? b).map fun o => (b, o)
theorem mem_pinsAt {fp : List Addr} {h : Heap} {b : Addr} {o : Obj} (hb : b ∈ fp) (e : h.get? b = some o) : (b, o) ∈ pinsAt fp h := List.mem_filterMap.mpr ⟨b, hb, by rw [e]; rfl⟩
theorem of_pinsAt {fp : List Addr} {h : Heap} {p : Addr × Obj} (hp : p ∈ pinsAt fp h) : p.1 ∈ fp ∧ h.get? p.1 = some p.2 := by
  obtain ⟨b, hb, e⟩ := List.mem_filterMap.mp hp
  cases q : h.get? b with
  | none => rw [q] at e; cases e
  | some o =>
    rw [q] at e
    have e' : (b, o) = p := Option.some.inj e
    subst e'
    exact ⟨hb, q⟩
theorem Inv.pinned {pins : List (Addr × Obj)} {σ : St} {H : Hp} {s : Shared} {fp : List Addr} (I : Inv X pins σ H s) (hf : ∀ b ∈ fp, FpOk X pins H b) (ho : ∀ b ∈ fp, ∃ o, s.heap.get? b = some o ∧ ∀ v, o.data ≠ .cell v) : Inv X (pins ++ pinsAt fp s.heap) σ H s :=
  I.pins_of fun p hp => (List.mem_append.mp hp).elim (fun z => I.pin p (List.mem_append_right _ z)) fun z => by
    obtain ⟨hb, e⟩ := of_pinsAt z
    obtain ⟨f0, f1, f2, _⟩ := hf p.1 hb
    obtain ⟨o, e', d⟩ := ho p.1 hb
    rw [e] at e'; cases e'
    exact ⟨e, f0, f1, f2, d⟩
theorem Inv.unpinned {pins pl : List (Addr × Obj)} {σ : St} {H : Hp} {s : Shared} (I : Inv X (pins ++ pl) σ H s) : Inv X pins σ H s := I.pins_of fun p hp => I.pin p (List.mem_append_right _ (List.mem_append_left _ hp))
theorem ps_for {iter : Expr} {body : List Stmt} {wi : TI} {g : TG} {tb : TS} {pos : Pos} (hp : PassesOwn (model X.prog X.w) X.A X.env X.xe) (hc : X.calm = true) (hi : PI X tg iter wi) (hg : PG X tg g) (hb : PSs X body tb)
    (hs : ∀ x, foldedSetIterable iter X.env x = pure x := by intro _; rfl) : PS X (.For tg iter body [] pos) (tFor wi g tb) := by
  intro pins s σ H D I h
  refine wpAny_For (thn (hi pins s σ H _ I h) fun v s1 h1 => thn h1 fun itv s2 h2 => ?_) hs
  obtain ⟨it, fp, tn, J, H2, e, I2, T, st2, f2, W, ⟨m0, w0⟩, turn⟩ := h2
  subst e
  have stat : ∀ {H' : Hp}, (∀ b ∈ fp, H' b = none) → ∀ b ∈ fp, FpOk X pins H' b := fun hn b hb => ⟨hn b hb, (f2 b hb).2⟩
  refine codeAny_forLoop_any (fun n s' => ∃ i σ' H', Inv X pins σ' H' s' ∧ tn i s'.heap ∧ (∀ b ∈ fp, H' b = none) ∧ W i n σ' H') ?_ m0 ⟨0, σ, H2, I2, st2, fun b hb => (f2 b hb).1, w0⟩
  rintro n s3 ⟨i, σ3, H3, I3, st3, fr3, w3⟩
  rcases turn i n σ3 H3 w3 with ⟨stop, qn⟩ | ⟨go, N, hN, step⟩
  · refine wpAny_passesOwn hp (thn (T.done X rfl rfl rfl hc i pins s3 σ3 H3 X.xe I3 (stat fr3) st3 stop) fun r s4 ⟨hr, I4⟩ => ?_)
    subst hr
    exact wpAny_execs_nil ⟨σ3, H3, I4, qn⟩
  · refine wpAny_passesOwn hp (thn (T.item X rfl rfl rfl hc i pins s3 σ3 H3 X.xe I3 (stat fr3) st3 go) fun r s4 ⟨u, hr, h4⟩ => ?_)
    subst hr
    refine wpAny_passesOwn hp (thn h4 fun _ s5 ⟨x, H5, I5, r5, y5, st5, fr5⟩ => ?_)
    have I5' := I5.pinned (stat fr5) (T.obj _ _ st5)
    refine wpAny_passesOwn hp (thn (hg _ s5 σ3 H5 x u _ I5' r5 (step x H5 y5)) fun _ s6 ⟨σ6, H6, I6, q6⟩ => ?_)
    refine wpAny_passesOwn hp (thn (hb _ s6 σ6 H6 _ I6 q6) fun f s7 q7 => ?_)
    have again : ∀ {σ7 : St} {H7 : Hp}, Inv X (pins ++ pinsAt fp s5.heap) σ7 H7 s7 → N σ7 H7 → ∃ m, m < n ∧ ∃ i σ' H', Inv X pins σ' H' s7 ∧ tn i s7.heap ∧ (∀ b ∈ fp, H' b = none) ∧ W i m σ' H' := fun {σ7 H7} I7 n7 => by
      obtain ⟨m', hm, w7⟩ := hN σ7 H7 n7
      refine ⟨m', hm, i + 1, σ7, H7, I7.unpinned, T.keep _ _ _ st5 fun b hb o e => (I7.pin (b, o) (List.mem_append_right _ (List.mem_append_right _ (mem_pinsAt hb e)))).1, fun b hb => ?_, w7⟩
      obtain ⟨o, e, d⟩ := T.obj _ _ st5 b hb
      exact (I7.pin (b, o) (List.mem_append_right _ (List.mem_append_right _ (mem_pinsAt hb e)))).2.1
    cases f with
    | next => obtain ⟨σ7, H7, I7, n7⟩ := q7; exact again I7 n7
    | cont => obtain ⟨σ7, H7, I7, n7⟩ := q7; exact again I7 n7
    | brk => obtain ⟨σ7, H7, I7, q7⟩ := q7; exact ⟨σ7, H7, I7.unpinned, q7⟩
    | ret v => obtain ⟨x7, σ7, H7, I7, r7, q7⟩ := q7; exact ⟨x7, σ7, H7, I7.unpinned, r7, q7⟩
end
theorem for_list {K : PySem.W.Frag} {a : Addr} {xs : List V} {g : TG} {tb : TS} {D : Ends} {σ : St} {H : Hp} (Pv : Nat → St → Hp → Prop) (h0 : Pv 0 σ H) (hl : ∀ i σ H, i ≤ xs.length → Pv i σ H → SqL K H a xs)
    (hs : ∀ i x σ H, xs[i]? = some x → Pv i σ H → g x σ H fun σ2 H2 => tb { D with nx := Pv (i + 1), ct := Pv (i + 1), bk := D.nx } σ2 H2) (hd : ∀ σ H, Pv xs.length σ H → D.nx σ H) :
    ∃ W : Nat → Nat → St → Hp → Prop, (∃ m, W 0 m σ H) ∧ ∀ i m σ H, W i m σ H →
      ((Itl K a).stop i H ∧ D.nx σ H) ∨ ((Itl K a).go i H ∧ ∃ N : St → Hp → Prop, (∀ σ' H', N σ' H' → ∃ m', m' < m ∧ W (i + 1) m' σ' H') ∧ ∀ x H', (Itl K a).yld i H x H' → g x σ H' fun σ2 H2 => tb { D with nx := N, ct := N, bk := D.nx } σ2 H2) := by
  refine ⟨fun i m σ H => m = xs.length - i ∧ i ≤ xs.length ∧ Pv i σ H, ⟨xs.length, by simp, Nat.zero_le _, h0⟩, ?_⟩
  rintro i m σ H ⟨rfl, hi, p⟩
  have q := hl i σ H hi p
  by_cases hlt : i < xs.length
  · refine .inr ⟨⟨xs, xs[i], q, by simp [hlt]⟩, Pv (i + 1), fun σ' H' p' => ⟨xs.length - (i + 1), by omega, rfl, hlt, p'⟩, fun x H' y => ?_⟩
    obtain ⟨e, y⟩ := y
    subst e
    exact hs i x σ _ (y xs q) p
  · have e : i = xs.length := by omega
    subst e
    exact .inl ⟨⟨xs, q, Nat.le_refl _⟩, hd σ H p⟩
theorem for_tup {K : PySem.W.Frag} {a : Addr} {xs : List V} {g : TG} {tb : TS} {D : Ends} {σ : St} {H : Hp} (Pv : Nat → St → Hp → Prop) (h0 : Pv 0 σ H) (hl : ∀ i σ H, i ≤ xs.length → Pv i σ H → SqT K H a xs)
    (hs : ∀ i x σ H, xs[i]? = some x → Pv i σ H → g x σ H fun σ2 H2 => tb { D with nx := Pv (i + 1), ct := Pv (i + 1), bk := D.nx } σ2 H2) (hd : ∀ σ H, Pv xs.length σ H → D.nx σ H) :
    ∃ W : Nat → Nat → St → Hp → Prop, (∃ m, W 0 m σ H) ∧ ∀ i m σ H, W i m σ H →
      ((Itt K a).stop i H ∧ D.nx σ H) ∨ ((Itt K a).go i H ∧ ∃ N : St → Hp → Prop, (∀ σ' H', N σ' H' → ∃ m', m' < m ∧ W (i + 1) m' σ' H') ∧ ∀ x H', (Itt K a).yld i H x H' → g x σ H' fun σ2 H2 => tb { D with nx := N, ct := N, bk := D.nx } σ2 H2) := by
  refine ⟨fun i m σ H => m = xs.length - i ∧ i ≤ xs.length ∧ Pv i σ H, ⟨xs.length, by simp, Nat.zero_le _, h0⟩, ?_⟩
  rintro i m σ H ⟨rfl, hi, p⟩
  have q := hl i σ H hi p
  by_cases hlt : i < xs.length
  · refine .inr ⟨⟨xs, xs[i], q, by simp [hlt]⟩, Pv (i + 1), fun σ' H' p' => ⟨xs.length - (i + 1), by omega, rfl, hlt, p'⟩, fun x H' y => ?_⟩
    obtain ⟨e, y⟩ := y
    subst e
    exact hs i x σ _ (y xs q) p
  · have e : i = xs.length := by omega
    subst e
    exact .inl ⟨⟨xs, q, Nat.le_refl _⟩, hd σ H p⟩
theorem for_range {lo : Int} {n : Nat} {g : TG} {tb : TS} {D : Ends} {σ : St} {H : Hp} (Pv : Nat → St → Hp → Prop) (h0 : Pv 0 σ H)
    (hs : ∀ i σ H, i < n → Pv i σ H → g (.int (lo + i)) σ H fun σ2 H2 => tb { D with nx := Pv (i + 1), ct := Pv (i + 1), bk := D.nx } σ2 H2) (hd : ∀ σ H, Pv n σ H → D.nx σ H) :
    ∃ W : Nat → Nat → St → Hp → Prop, (∃ m, W 0 m σ H) ∧ ∀ i m σ H, W i m σ H →
      ((Itr lo n).stop i H ∧ D.nx σ H) ∨ ((Itr lo n).go i H ∧ ∃ N : St → Hp → Prop, (∀ σ' H', N σ' H' → ∃ m', m' < m ∧ W (i + 1) m' σ' H') ∧ ∀ x H', (Itr lo n).yld i H x H' → g x σ H' fun σ2 H2 => tb { D with nx := N, ct := N, bk := D.nx } σ2 H2) := by
  refine ⟨fun i m σ H => m = n - i ∧ i ≤ n ∧ Pv i σ H, ⟨n, by simp, Nat.zero_le _, h0⟩, ?_⟩
  rintro i m σ H ⟨rfl, hi, p⟩
  by_cases hlt : i < n
  · refine .inr ⟨hlt, Pv (i + 1), fun σ' H' p' => ⟨n - (i + 1), by omega, rfl, hlt, p'⟩, fun x H' y => ?_⟩
    obtain ⟨e, y⟩ := y
    subst e y
    exact hs i σ _ hlt p
  · have e : i = n := by omega
    subst e
    exact .inl ⟨Nat.le_refl _, hd σ H p⟩
end L2
namespace L2
open PySem PySem.Spec PyProof.Rows
abbrev R2 := V → V → Hp → VK → Prop
def OpR (X : Cx) (f : Value → Value → Sem Value) (r : R2) : Prop :=
  ∀ (pins : List (Addr × Obj)) (s : Shared) (σ : St) (H : Hp) (x y : V) (v u : Value) (Q : VK), Inv X pins σ H s → RelV x v → RelV y u → r x y H Q →
    wpAny (model X.prog X.w) X.A (f v u) (EP X pins σ Q) X.xe s
def UnR (X : Cx) (f : Value → Sem Value) (r : V → Hp → VK → Prop) : Prop :=
  ∀ (pins : List (Addr × Obj)) (s : Shared) (σ : St) (H : Hp) (x : V) (v : Value) (Q : VK), Inv X pins σ H s → RelV x v → r x H Q →
    wpAny (model X.prog X.w) X.A (f v) (EP X pins σ Q) X.xe s
def CallR (X : Cx) (f : Value) (r : List V → Hp → VK → Prop) : Prop :=
  ∀ (pins : List (Addr × Obj)) (s : Shared) (σ : St) (H : Hp) (xs : List V) (us : List Value) (Q : VK), Inv X pins σ H s → Vals xs us → r xs H Q →
    wpAny (model X.prog X.w) X.A (call f us) (EP X pins σ Q) X.xe s
def TruR (X : Cx) (r : V → Hp → (Bool → Hp → Prop) → Prop) : Prop :=
  ∀ (pins : List (Addr × Obj)) (s : Shared) (σ : St) (H : Hp) (x : V) (v : Value) (Q : Bool → Hp → Prop), Inv X pins σ H s → RelV x v → r x H Q →
    wpAny (model X.prog X.w) X.A (truthy v) (TP X pins σ Q) X.xe s
def tOp (r : R2) (ta tb : TE) : TE := fun σ H Q => ta σ H fun x H1 => tb σ H1 fun y H2 => r x y H2 Q
def tUn (r : V → Hp → VK → Prop) (ta : TE) : TE := fun σ H Q => ta σ H fun x H1 => r x H1 Q
def rI (C : Int → Int → Prop) (g : Int → Int → V) : R2 := fun x y H Q => ∃ i j, x = .int i ∧ y = .int j ∧ C i j ∧ Q (g i j) H
def rI0 (g : Int → Int → V) : R2 := fun x y H Q => ∃ i j, x = .int i ∧ y = .int j ∧ Q (g i j) H
def rU (g : Int → V) : V → Hp → VK → Prop := fun x H Q => ∃ i, x = .int i ∧ Q (g i) H
section
variable {X : Cx} {a b c : Expr} {ta tb tc : TE} {pos : Pos}
theorem binT (ha : PE X a ta) (hb : PE X b tb) {pins : List (Addr × Obj)} {s : Shared} {σ : St} {H : Hp} {R : V → V → Hp → Prop} (I : Inv X pins σ H s)
    (h : ta σ H fun x H1 => tb σ H1 fun y H2 => R x y H2) {Q : Value → Shared → Prop} {f : Value → Value → Sem Value}
    (hf : ∀ v u s2 x y H2, Inv X pins σ H2 s2 → RelV x v → RelV y u → R x y H2 → wpAny (model X.prog X.w) X.A (f v u) Q X.xe s2) :
    wpAny (model X.prog X.w) X.A (eval a X.env) (fun v s₁ => wpAny (model X.prog X.w) X.A (eval b X.env) (fun u s₂ => wpAny (model X.prog X.w) X.A (f v u) Q X.xe s₂) X.xe s₁) X.xe s := by
  refine thn (ha pins s σ H _ I h) fun v s1 ⟨x, H1, I1, r1, q1⟩ => ?_
  refine thn (hb pins s1 σ H1 _ I1 q1) fun u s2 ⟨y, H2, I2, r2, q2⟩ => ?_
  exact hf v u s2 x y H2 I2 r1 r2 q2
theorem pe_op {op : Operator} {r : R2} (ho : OpR X (binaryOp op) r) (ha : PE X a ta) (hb : PE X b tb) : PE X (.BinOp a op b pos) (tOp r ta tb) := by
  intro pins s σ H Q I h
  exact wpAny_BinOp (binT ha hb I h fun v u s2 x y H2 I2 rx ry q => ho pins s2 σ H2 x y v u Q I2 rx ry q)
theorem pe_un {op : UnaryOp} {r : V → Hp → VK → Prop} (ho : UnR X (unaryOp op) r) (ha : PE X a ta) : PE X (.UnaryOp op a pos) (tUn r ta) := by
  intro pins s σ H Q I h
  exact UnaryOp_ (thn (ha pins s σ H _ I h) fun v s1 ⟨x, H1, I1, r1, q1⟩ => ho pins s1 σ H1 x v Q I1 r1 q1)
theorem opI {f : Value → Value → Sem Value} {C : Int → Int → Prop} {g : Int → Int → Int}
    (rule : ∀ (i j : Int) (t u : Tok) (s : Shared) (Q : Value → Shared → Prop) (E : Value → Shared → Prop), C i j → Q (.int (g i j) s.toks) { s with toks := s.toks + 1 } → wpAny (model X.prog X.w) X.A (f (.int i t) (.int j u)) Q E s) :
    OpR X f (rI C fun i j => .int (g i j)) := by
  intro pins s σ H x y v u Q I rx ry h
  obtain ⟨i, j, rfl, rfl, hc, q⟩ := h
  obtain ⟨t, rfl⟩ := rx
  obtain ⟨t', rfl⟩ := ry
  exact rule i j t t' s _ _ hc ⟨.int (g i j), H, I.tok _, ⟨_, rfl⟩, q⟩
theorem opI0 {f : Value → Value → Sem Value} {g : Int → Int → Int}
    (rule : ∀ (i j : Int) (t u : Tok) (s : Shared) (Q : Value → Shared → Prop) (E : Value → Shared → Prop), Q (.int (g i j) s.toks) { s with toks := s.toks + 1 } → wpAny (model X.prog X.w) X.A (f (.int i t) (.int j u)) Q E s) :
    OpR X f (rI0 fun i j => .int (g i j)) := by
  intro pins s σ H x y v u Q I rx ry h
  obtain ⟨i, j, rfl, rfl, q⟩ := h
  obtain ⟨t, rfl⟩ := rx
  obtain ⟨t', rfl⟩ := ry
  exact rule i j t t' s _ _ ⟨.int (g i j), H, I.tok _, ⟨_, rfl⟩, q⟩
theorem opB0 {f : Value → Value → Sem Value} {g : Int → Int → Bool}
    (rule : ∀ (i j : Int) (t u : Tok) (s : Shared) (Q : Value → Shared → Prop) (E : Value → Shared → Prop), Q (.bool (g i j)) s → wpAny (model X.prog X.w) X.A (f (.int i t) (.int j u)) Q E s) :
    OpR X f (rI0 fun i j => .bl (g i j)) := by
  intro pins s σ H x y v u Q I rx ry h
  obtain ⟨i, j, rfl, rfl, q⟩ := h
  obtain ⟨t, rfl⟩ := rx
  obtain ⟨t', rfl⟩ := ry
  exact rule i j t t' s _ _ ⟨.bl (g i j), H, I, rfl, q⟩
def CDiv (i j : Int) : Prop := 0 < j ∧ j < 1073741824
def CDivN (i j : Int) : Prop := j ≠ 0 ∧ j.natAbs < 1073741824
def CPow (i j : Int) : Prop := 0 ≤ j ∧ j ≤ 1000000 ∧ i.natAbs < 2 ^ 64
def CMul (i j : Int) : Prop := (-(2 ^ 64) < i ∧ i < 2 ^ 64) ∨ (-(2 ^ 64) < j ∧ j < 2 ^ 64)
theorem CMul.ok {i j : Int} (h : CMul i j) : IntMulOk i j := by
  rcases h with ⟨h1, h2⟩ | ⟨h1, h2⟩
  · exact .of_left (intBits_le_64 h1 h2)
  · exact .of_right (intBits_le_64 h1 h2)
theorem op_add : OpR X (binaryOp .Add) (rI0 fun i j => .int (i + j)) := opI0 fun _ _ _ _ _ _ _ q => add_int q
theorem op_sub : OpR X (binaryOp .Sub) (rI0 fun i j => .int (i - j)) := opI0 fun _ _ _ _ _ _ _ q => sub_int q
theorem op_mul : OpR X (binaryOp .Mult) (rI CMul fun i j => .int (i * j)) := opI fun _ _ _ _ _ _ _ hc q => mul_int q hc.ok
theorem op_fdiv : OpR X (binaryOp .FloorDiv) (rI CDiv fun i j => .int (i / j)) := opI fun i j _ _ _ _ _ hc q => by
  have h1 : (0 : Int) < j := hc.1
  have h2 : j < 1073741824 := hc.2
  exact floordiv_int (by omega) (by rw [Int.fdiv_eq_ediv_of_nonneg i (by omega)]; exact q) (.inl (PyProof.noPylong_small (by omega)))
theorem op_mod : OpR X (binaryOp .Mod) (rI (fun _ j => 0 < j) fun i j => .int (i % j)) := opI fun i j _ _ _ _ _ hc q => by
  have h1 : (0 : Int) < j := hc
  exact mod_int' (by omega) (by rw [Int.fmod_eq_emod_of_nonneg i (by omega)]; exact q)
theorem op_pow : OpR X (binaryOp .Pow) (rI CPow fun i j => .int (i ^ j.toNat)) := opI fun _ _ _ _ _ _ _ hc q => pow_int_small hc.1 hc.2.1 hc.2.2 q
theorem unI {f : Value → Sem Value} {g : Int → Int}
    (rule : ∀ (i : Int) (t : Tok) (s : Shared) (Q : Value → Shared → Prop) (E : Value → Shared → Prop), Q (.int (g i) s.toks) { s with toks := s.toks + 1 } → wpAny (model X.prog X.w) X.A (f (.int i t)) Q E s) :
    UnR X f (rU fun i => .int (g i)) := by
  intro pins s σ H x v Q I rx h
  obtain ⟨i, rfl, q⟩ := h
  obtain ⟨t, rfl⟩ := rx
  exact rule i t s _ _ ⟨.int (g i), H, I.tok _, ⟨_, rfl⟩, q⟩
theorem un_neg : UnR X (unaryOp .USub) (rU fun i => .int (-i)) := unI fun _ _ _ _ _ q => neg_int q
end
def scal : V → V → Bool
  | .non, .non => true | .non, .int _ => true | .int _, .non => true | .non, .bl _ => true | .bl _, .non => true | .non, .str _ => true | .str _, .non => true
  | .int _, .int _ => true | .bl _, .bl _ => true | .str _, .str _ => true | .byt _, .byt _ => true
  | .int _, .str _ => true | .str _, .int _ => true | .bl _, .str _ => true | .str _, .bl _ => true
  | _, _ => false
def rEq : R2 := fun x y H Q => scal x y = true ∧ Q (.bl (decide (x = y))) H
def rNe : R2 := fun x y H Q => scal x y = true ∧ Q (.bl (!decide (x = y))) H
theorem dec_int {i j : Int} : decide (V.int i = V.int j) = (i == j) := by
  rw [Bool.eq_iff_iff]
  simp
theorem dec_bl {i j : Bool} : decide (V.bl i = V.bl j) = (i == j) := by
  rw [Bool.eq_iff_iff]
  simp
theorem dec_str {i j : Str} : decide (V.str i = V.str j) = (i == j) := by
  rw [Bool.eq_iff_iff]
  simp
theorem dec_byt {i j : Array UInt8} : decide (V.byt i = V.byt j) = (i.toList == j.toList) := by
  rw [Bool.eq_iff_iff]
  cases i
  cases j
  simp
section
variable {X : Cx} {a b c : Expr} {ta tb tc : TE} {pos : Pos}
theorem fin_bl {pins : List (Addr × Obj)} {σ : St} {H : Hp} {s : Shared} {Q : VK} {k k' : Bool} (I : Inv X pins σ H s) (q : Q (.bl k) H) (e : k = k') : EP X pins σ Q (.bool k') s := by
  subst e
  exact ⟨.bl k, H, I, rfl, q⟩
theorem op_eq : OpR X (compareOp .Eq) rEq := by
  intro pins s σ H x y v u Q I rx ry h
  obtain ⟨hs, q⟩ := h
  cases x with
  | non =>
    cases rx
    cases y with
    | non => cases ry; exact PySem.EqNone.eq_none_none (fin_bl I q (by simp))
    | bl j => cases ry; exact PySem.EqNone.eq_none_bool (fin_bl I q (by simp))
    | int j => obtain ⟨t', rfl⟩ := ry; exact PySem.EqNone.eq_none_int (fin_bl I q (by simp))
    | str j => obtain ⟨t', rfl⟩ := ry; exact PySem.EqNone.eq_none_str (fin_bl I q (by simp))
    | _ => exact absurd (show false = true from hs) Bool.false_ne_true
  | bl i =>
    cases rx
    cases y with
    | non => cases ry; exact PySem.EqNone.eq_bool_none (fin_bl I q (by simp))
    | bl j => cases ry; exact eq_bool (fin_bl I q dec_bl)
    | str j => obtain ⟨t', rfl⟩ := ry; exact PySem.EqMixed.eq_bool_str (fin_bl I q (by simp))
    | _ => exact absurd (show false = true from hs) Bool.false_ne_true
  | int i =>
    obtain ⟨t, rfl⟩ := rx
    cases y with
    | non => cases ry; exact PySem.EqNone.eq_int_none (fin_bl I q (by simp))
    | int j => obtain ⟨t', rfl⟩ := ry; exact eq_int (fin_bl I q dec_int)
    | str j => obtain ⟨t', rfl⟩ := ry; exact PySem.EqMixed.eq_int_str (fin_bl I q (by simp))
    | _ => exact absurd (show false = true from hs) Bool.false_ne_true
  | str i =>
    obtain ⟨t, rfl⟩ := rx
    cases y with
    | non => cases ry; exact PySem.EqNone.eq_str_none (fin_bl I q (by simp))
    | bl j => cases ry; exact PySem.EqMixed.eq_str_bool (fin_bl I q (by simp))
    | int j => obtain ⟨t', rfl⟩ := ry; exact PySem.EqMixed.eq_str_int (fin_bl I q (by simp))
    | str j => obtain ⟨t', rfl⟩ := ry; exact eq_str (fin_bl I q dec_str)
    | _ => exact absurd (show false = true from hs) Bool.false_ne_true
  | byt i =>
    obtain ⟨t, rfl⟩ := rx
    cases y with
    | byt j => obtain ⟨t', rfl⟩ := ry; exact PySem.W.eq_bytes (fin_bl I q dec_byt)
    | _ => exact absurd (show false = true from hs) Bool.false_ne_true
  | _ => cases y <;> exact absurd (show false = true from hs) Bool.false_ne_true
theorem op_ne : OpR X (compareOp .NotEq) rNe := by
  intro pins s σ H x y v u Q I rx ry h
  obtain ⟨hs, q⟩ := h
  cases x with
  | non =>
    cases rx
    cases y with
    | non => cases ry; exact PySem.EqNone.ne_none_none (fin_bl I q (by simp))
    | bl j => cases ry; exact PySem.EqNone.ne_none_bool (fin_bl I q (by simp))
    | int j => obtain ⟨t', rfl⟩ := ry; exact PySem.EqNone.ne_none_int (fin_bl I q (by simp))
    | str j => obtain ⟨t', rfl⟩ := ry; exact PySem.EqNone.ne_none_str (fin_bl I q (by simp))
    | _ => exact absurd (show false = true from hs) Bool.false_ne_true
  | bl i =>
    cases rx
    cases y with
    | non => cases ry; exact PySem.EqNone.ne_bool_none (fin_bl I q (by simp))
    | bl j => cases ry; exact ne_bool (fin_bl I q (congrArg not dec_bl))
    | str j => obtain ⟨t', rfl⟩ := ry; exact PySem.EqMixed.ne_bool_str (fin_bl I q (by simp))
    | _ => exact absurd (show false = true from hs) Bool.false_ne_true
  | int i =>
    obtain ⟨t, rfl⟩ := rx
    cases y with
    | non => cases ry; exact PySem.EqNone.ne_int_none (fin_bl I q (by simp))
    | int j => obtain ⟨t', rfl⟩ := ry; exact ne_int (fin_bl I q (congrArg not dec_int))
    | str j => obtain ⟨t', rfl⟩ := ry; exact PySem.EqMixed.ne_int_str (fin_bl I q (by simp))
    | _ => exact absurd (show false = true from hs) Bool.false_ne_true
  | str i =>
    obtain ⟨t, rfl⟩ := rx
    cases y with
    | non => cases ry; exact PySem.EqNone.ne_str_none (fin_bl I q (by simp))
    | bl j => cases ry; exact PySem.EqMixed.ne_str_bool (fin_bl I q (by simp))
    | int j => obtain ⟨t', rfl⟩ := ry; exact PySem.EqMixed.ne_str_int (fin_bl I q (by simp))
    | str j => obtain ⟨t', rfl⟩ := ry; exact ne_str (fin_bl I q (congrArg not dec_str))
    | _ => exact absurd (show false = true from hs) Bool.false_ne_true
  | byt i =>
    obtain ⟨t, rfl⟩ := rx
    cases y with
    | byt j => obtain ⟨t', rfl⟩ := ry; exact PySem.W.ne_bytes (fin_bl I q (congrArg not dec_byt))
    | _ => exact absurd (show false = true from hs) Bool.false_ne_true
  | _ => cases y <;> exact absurd (show false = true from hs) Bool.false_ne_true
theorem op_lt : OpR X (compareOp .Lt) (rI0 fun i j => .bl (decide (i < j))) := opB0 fun _ _ _ _ _ _ _ q => lt_int q
theorem op_gt : OpR X (compareOp .Gt) (rI0 fun i j => .bl (decide (j < i))) := opB0 fun _ _ _ _ _ _ _ q => gt_int q
theorem op_lt_str : OpR X (compareOp .Lt) (fun x y H Q => ∃ i j, x = .str i ∧ y = .str j ∧ Q (.bl (decide (i.cps.toList < j.cps.toList))) H) := by
  intro pins s σ H x y v u Q I rx ry h
  obtain ⟨i, j, rfl, rfl, q⟩ := h
  obtain ⟨t, rfl⟩ := rx
  obtain ⟨t', rfl⟩ := ry
  exact lt_str (fin_bl I q rfl)
def isObj : HO → Bool
  | .lst _ => true
  | .ins _ _ _ => true
  | _ => false
theorem OpR.or {f : Value → Value → Sem Value} {r r' : R2} (h : OpR X f r) (h' : OpR X f r') : OpR X f (fun x y H Q => r x y H Q ∨ r' x y H Q) := by
  intro pins s σ H x y v u Q I rx ry q
  rcases q with q | q
  · exact h pins s σ H x y v u Q I rx ry q
  · exact h' pins s σ H x y v u Q I rx ry q
theorem nomark (b : Expr) {op : CmpOp} (h : op ≠ .In := by decide) (h2 : op ≠ .NotIn := by decide) : behindInMarks op b = false := by
  have e1 : (op == CmpOp.In) = false := by cases op <;> first | rfl | exact absurd rfl h
  have e2 : (op == CmpOp.NotIn) = false := by cases op <;> first | rfl | exact absurd rfl h2
  cases b <;> simp [behindInMarks, e1, e2]
theorem pe_cmpR {op : CmpOp} {r : R2} (ho : OpR X (compareOp op) r) (ha : PE X a ta) (hb : PE X b tb) (hm : behindInMarks op b = false) : PE X (.Compare a [op] [b] pos) (tOp r ta tb) := by
  intro pins s σ H Q I h
  exact wpAny_Compare1 (binT ha hb I h fun v u s2 x y H2 I2 rx ry q => ho pins s2 σ H2 x y v u Q I2 rx ry q) hm
def tTest (t : TE) : TT := fun σ H Q => t σ H fun x H' => ∃ k, x = .bl k ∧ Q k H'
theorem pt_cmpR {op : CmpOp} {r : R2} (ho : OpR X (compareOp op) r) (ha : PE X a ta) (hb : PE X b tb) (hm : behindInMarks op b = false) : PT X (.Compare a [op] [b] pos) (tTest (tOp r ta tb)) := by
  intro pins s σ H Q I h
  refine wpAny_isTrue_Compare1 (thn (ha pins s σ H _ I h) fun v s1 ⟨x, H1, I1, r1, q1⟩ => thn (hb pins s1 σ H1 _ I1 q1) fun u s2 ⟨y, H2, I2, r2, q2⟩ =>
    thn (ho pins s2 σ H2 x y v u _ I2 r1 r2 q2) fun c s3 ⟨z, H3, I3, r3, k, e, q3⟩ => ?_) hm
  subst e
  cases r3
  exact wpAny_truthy_bool ⟨H3, I3, q3⟩
def tChain (r r' : R2) (ta tb tc : TE) : TE := fun σ H Q => ta σ H fun x H1 => tb σ H1 fun y H2 => r x y H2 fun z H3 => ∃ k, z = .bl k ∧
  (if k = true then tc σ H3 fun w' H4 => r' y w' H4 Q else Q (.bl false) H3)
def TruV (K : PySem.W.Frag) (x : V) (H : Hp) (k : Bool) : Prop :=
  match x with
  | .non => k = false
  | .bl b => k = b
  | .int i => k = (i != 0)
  | .str y => y.length ≤ sizeLine ∧ k = ((y.length : Int) != 0)
  | .byt y => y.size ≤ sizeLine ∧ k = ((y.size : Int) != 0)
  | .ref p => (∃ xs, SqL K H p xs ∧ k = !xs.isEmpty) ∨ (∃ xs, SqT K H p xs ∧ k = !xs.isEmpty) ∨ ∃ kvs, H p = some (.dK kvs) ∧ k = !kvs.isEmpty
  | _ => False
theorem line63 : (sizeLine : Nat) < 2 ^ 63 := by rw [sizeLine_eq]; decide
theorem op_add_str : OpR X (binaryOp .Add) (fun x y H Q => ∃ i j, x = .str i ∧ y = .str j ∧ i.length + j.length ≤ sizeLine ∧ Q (.str (i ++ j)) H) := by
  intro pins s σ H x y v u Q I rx ry h
  obtain ⟨i, j, rfl, rfl, hz, q⟩ := h
  obtain ⟨t, rfl⟩ := rx
  obtain ⟨t', rfl⟩ := ry
  exact add_str (fun t' tk => ⟨.str (i ++ j), H, I.tok _, ⟨_, rfl⟩, q⟩) hz
def PlainIxT (b : Expr) : Prop := ∀ o i, subscripted b false o i = operate [o, i] (getItem o i)
theorem vals1 {x : V} {us : List Value} (r : Vals [x] us) : ∃ u, us = [u] ∧ RelV x u := by
  cases r with
  | cons r1 r2 => cases r2; exact ⟨_, rfl, r1⟩
theorem vals2 {x y : V} {us : List Value} (r : Vals [x, y] us) : ∃ u w', us = [u, w'] ∧ RelV x u ∧ RelV y w' := by
  cases r with
  | cons r1 r2 =>
    cases r2 with
    | cons r3 r4 => cases r4; exact ⟨_, _, rfl, r1, r3⟩
def LenV (K : PySem.W.Frag) (x : V) (H : Hp) (n : Nat) : Prop :=
  match x with
  | .str y => y.length ≤ sizeLine ∧ n = y.length
  | .byt y => y.size ≤ sizeLine ∧ n = y.size
  | .ref p => (∃ xs, SqL K H p xs ∧ n = xs.length) ∨ ∃ xs, SqT K H p xs ∧ n = xs.length
  | _ => False
end
end L2
namespace L2
open PySem PySem.Spec PyProof.Rows
structure ObjM (h : Heap) (x dx C : Addr) (mA : Str → Option Value) : Prop where
  obj : h.get? x = some (PySem.W.instObj C dx)
  ns : h.Ns1 dx mA
  ne : dx ≠ x
theorem lookIn_ns {h : Heap} {dx : Addr} {mA : Str → Option Value} (n : h.Ns1 dx mA) : ∃ od, h.get? dx = some od ∧ ∀ name, PySem.W.lookIn name od = some (mA name) := by
  obtain ⟨o, es, ep, ho, hd, hk, _, hm⟩ := n
  refine ⟨o, ho, fun name => ?_⟩
  have e := hm name
  unfold nsFind findBy at e
  rw [← Array.find?_toList] at e
  unfold PySem.W.lookIn
  rw [hd]
  dsimp only
  split
  · rename_i y q
    rw [q] at e
    exact congrArg some e
  · rename_i q
    rw [q] at e
    have a : es.toList.any (·.refKey) = false := by
      rw [List.any_eq_false]
      intro y hy
      obtain ⟨z, t, hkey⟩ := hk y (Array.mem_toList_iff.mp hy)
      simp [DictEntry.refKey, hkey]
    have a' : ¬ es.toList.any (·.refKey) = true := by rw [a]; exact Bool.false_ne_true
    rw [if_neg a']
    exact congrArg some e
theorem ObjM.look {h : Heap} {x dx C : Addr} {mA : Str → Option Value} (I : ObjM h x dx C mA) : ∃ od, PySem.W.InstAt h x (PySem.W.instObj C dx) C (some od) ∧ ∀ name, PySem.W.lookIn name od = some (mA name) :=
  let ⟨od, ho, hl⟩ := lookIn_ns I.ns
  ⟨od, ⟨I.obj, rfl, rfl, ho⟩, hl⟩
section
variable {prog : Program} {w : World} {A : Around} {E : Value → Shared → Prop} {s : Shared} {K : PySem.W.Frag} {x dx C f : Addr} {mA : Str → Option Value} {name : Str} {v : Value}
end
def putF (f : Str) (v : V) : List (Str × V) → List (Str × V)
  | [] => [(f, v)]
  | (g, x) :: r => if g = f then (g, v) :: r else (g, x) :: putF f v r
section
variable {P : Program} {w : World} {H H' : Hp} {h h' : Heap} {a C dx : Addr} {fs fs' : List (Str × V)}
end
structure Cls (K : PySem.W.Frag) (C : Addr) : Prop where
  pg : PySem.W.plainGet K C Str.empty = true
  hd : PySem.W.hasDictIn K C = true
  po : PySem.W.plainOver K C = true
  sa : PySem.W.findIn K (.ref C) "__setattr__" = some (some (.builtin "object.__setattr__"))
theorem Cls.get {K : PySem.W.Frag} {C : Addr} (c : Cls K C) (f : Str) : PySem.W.plainGet K C f = true := c.pg
def NoAttr (K : PySem.W.Frag) (C : Addr) (f : Str) : Prop := PySem.W.findIn K (.ref C) f = some none
structure Con (K : PySem.W.Frag) (C : Addr) (f : Str) (v : V) (u : Value) : Prop where
  at_ : PySem.W.findIn K (.ref C) f = some (some u)
  rel : RelV v u
  get : PySem.W.specialIn K u "__get__" = some none
  cp : PySem.W.copiedNames.contains f = false
structure Meth (K : PySem.W.Frag) (C : Addr) (m : Str) (f : Addr) : Prop where
  at_ : PySem.W.findIn K (.ref C) m = some (some (.ref f))
  fn : PySem.W.isFn K (.ref f) = true
  kp : PySem.W.keepIn K (.ref f) = true
section
variable {X : Cx} {pins : List (Addr × Obj)} {σ : St} {H : Hp} {s : Shared} {a C dx : Addr} {fs : List (Str × V)} {f : Str} {v : V} {A : Around} {E : Value → Shared → Prop}
end
def tFld (K : PySem.W.Frag) (ta : TE) (f : Str) : TE := fun σ H Q => ta σ H fun x H1 => ∃ a C dx fs v, x = .ref a ∧ H1 a = some (.ins C dx fs) ∧ Cls K C ∧ NoAttr K C f ∧ fs.lookup f = some v ∧ Q v H1
def tCon (K : PySem.W.Frag) (ta : TE) (f : Str) : TE := fun σ H Q => ta σ H fun x H1 => ∃ a C dx fs v u, x = .ref a ∧ H1 a = some (.ins C dx fs) ∧ Cls K C ∧ Con K C f v u ∧ fs.lookup f = none ∧ Q v H1
def sFld (K : PySem.W.Frag) (ta tv : TE) (f : Str) : TS := fun D σ H => tv σ H fun y H1 => ta σ H1 fun x H2 => ∃ a C dx fs, x = .ref a ∧ H2 a = some (.ins C dx fs) ∧ Cls K C ∧ NoAttr K C f ∧ fs.length < 1000 ∧
  D.nx σ (upd H2 a (.ins C dx (putF f y fs)))
def InOp (X : Cx) (op : Operator) (rd : V → V → Hp → VK → Prop) : Prop :=
  ∀ (pins : List (Addr × Obj)) (s : Shared) (σ : St) (H : Hp) (x y : V) (u v : Value) (Q : VK), Inv X pins σ H s → RelV x u → RelV y v → rd x y H Q → wpAny (model X.prog X.w) X.A (inplaceOp op u v) (EP X pins σ Q) X.xe s
def sFldAug (K : PySem.W.Frag) (ta tv : TE) (rd : V → V → Hp → VK → Prop) (f : Str) : TS := fun D σ H => ta σ H fun x H1 => ∃ a C dx fs v, x = .ref a ∧ H1 a = some (.ins C dx fs) ∧ Cls K C ∧ NoAttr K C f ∧ fs.lookup f = some v ∧
  tv σ H1 fun y H2 => rd v y H2 fun z H3 => ∃ dx' fs', H3 a = some (.ins C dx' fs') ∧ fs'.length < 1000 ∧ D.nx σ (upd H3 a (.ins C dx' (putF f z fs')))
section
variable {X : Cx} {o e value : Expr} {f : Str} {pos pos' tpos : Pos} {ta tv : TE}
def rAdd : V → V → Hp → VK → Prop := fun x y H Q => ∃ i j, x = .int i ∧ y = .int j ∧ Q (.int (i + j)) H
def rSub : V → V → Hp → VK → Prop := fun x y H Q => ∃ i j, x = .int i ∧ y = .int j ∧ Q (.int (i - j)) H
end
section
variable {X : Cx} {pins : List (Addr × Obj)} {σ : St} {H : Hp} {s : Shared} {A : Around} {E : Value → Shared → Prop} {Q : Value → Shared → Prop} {c : Value} {b : Bool}
inductive TyOf (K : PySem.W.Frag) (H : Hp) : V → Value → Prop where
  | non : TyOf K H .non (.type "NoneType")
  | bl (x : Bool) : TyOf K H (.bl x) (.type "bool")
  | int (i : Int) : TyOf K H (.int i) (.type "int")
  | str (x : Str) : TyOf K H (.str x) (.type "str")
  | flt (x : UInt64) : TyOf K H (.flt x) (.type "float")
  | lst {a : Addr} {xs : List V} (e : H a = some (.lst xs)) : TyOf K H (.ref a) (.type "list")
  | frz {a : Addr} {o : Obj} {xs : List V} (e : H a = some (.frz o (.lst xs))) : TyOf K H (.ref a) (.type "list")
  | tup {a : Addr} {xs : List V} (e : H a = some (.tup xs)) : TyOf K H (.ref a) (.type "tuple")
  | dK {a : Addr} {kvs : List (Key × V)} (e : H a = some (.dK kvs)) : TyOf K H (.ref a) (.type "dict")
  | dT {a : Addr} {kvs : List (List Key × V)} (e : H a = some (.dT kvs)) : TyOf K H (.ref a) (.type "dict")
  | ins {a C dx : Addr} {fs : List (Str × V)} (e : H a = some (.ins C dx fs)) (cl : Cls K C) (ha : PySem.W.findIn K (.ref C) "__class__" = some (some (.builtin "object.__class__")))
      (hn : PySem.W.specialIn K (.builtin "object.__class__") "__get__" = some (some (.builtin "getset_descriptor.__get__"))) (htk : PySem.W.takesIn K (.builtin "object.__class__") = some true)
      (hm : PySem.W.mroIn K C (.type "object") = some true) : TyOf K H (.ref a) (.ref C)
end
end L2
namespace L2
open PySem PySem.Spec PyProof.Rows
structure Room (k : Nat) (A : Around) : Prop where
  hd : A.handled = none
  dp : A.depth + 3 * k + 5 < recursionLimit
  un : A.units + 16 * k + 200 < cLine
theorem Room.mono {j k : Nat} {A : Around} (r : Room k A) (h : j ≤ k) : Room j A := ⟨r.hd, by have := r.dp; omega, by have := r.un; omega⟩
theorem Room.deeper {k : Nat} {A : Around} (r : Room (k + 1) A) (env : Env) : Room k (A.deeper env) :=
  ⟨r.hd, by have := r.dp; show A.depth + 1 + 3 * k + 5 < _; omega, by have := r.un; show A.units + 3 + 16 * k + 200 < _; omega⟩
theorem Room.in1 {k : Nat} {A : Around} (r : Room (k + 1) A) : Room k A.in1 :=
  ⟨r.hd, by have := r.dp; show A.depth + 3 * k + 5 < _; omega, by have := r.un; show A.units + 1 + 16 * k + 200 < _; omega⟩
theorem Room.depth {k : Nat} {A : Around} (r : Room k A) : A.depth < recursionLimit := by have := r.dp; omega
theorem Room.units {k : Nat} {A : Around} (r : Room k A) : A.units + 64 < cLine := by have := r.un; omega
def tNil : TA := fun _ H Q => Q [] H
def tCons (ta : TE) (tr : TA) : TA := fun σ H Q => ta σ H fun x H1 => tr σ H1 fun xs H2 => Q (x :: xs) H2
section
variable {X : Cx} {e : Expr} {es : List Expr} {te : TE} {t : TA} {pos : Pos}
theorem pa_nil : PA X [] tNil := fun _ _ _ _ H Q I h => Calls.spliced_nil ⟨[], H, I, .nil, h⟩
theorem pa_cons (ha : PE X e te) (hr : PA X es t) (hs : starEach (e :: es) X.env = (false, eval e X.env) :: starEach es X.env := by rfl) : PA X (e :: es) (tCons te t) := by
  intro pos pins s σ H Q I h
  rw [hs]
  show wpAny _ _ (spliced ((false, eval e X.env) :: backTo pos (starEach es X.env))) _ _ s
  refine Calls.spliced_cons (thn (ha pins s σ H _ I h) fun u s1 ⟨x, H1, I1, r1, q1⟩ => ?_)
  exact thn (hr pos pins s1 σ H1 _ I1 q1) fun us s2 ⟨xs, H2, I2, r2, q2⟩ => ⟨x :: xs, H2, I2, .cons r1 r2, q2⟩
def tTup (t : TA) : TE := fun σ H Q => t σ H fun xs H1 => xs.length ≤ sizeLine ∧ ∀ p, H1 p = none → Q (.ref p) (upd H1 p (.tup xs))
def tLst (t : TA) : TE := fun σ H Q => t σ H fun xs H1 => xs.length ≤ sizeLine ∧ ∀ p, H1 p = none → Q (.ref p) (upd H1 p (.lst xs))
theorem pe_tup {x1} (h : PA X es t) : PE X (.Tuple es x1 pos) (tTup t) := by
  intro pins s σ H Q I hq
  refine wpAny_Tuple_spliced (thn (h pos pins s σ H _ I hq) fun us s1 ⟨xs, H1, I1, r, z, q⟩ => ⟨by rw [← r.length]; exact z, ?_⟩)
  have hf : H1 s1.heap.objs.size = none := I1.hok.fresh (Nat.le_refl _)
  refine ⟨.ref s1.heap.objs.size, upd H1 s1.heap.objs.size (.tup xs), I1.laid (t' := s1.toks) (fun b u e => Heap.get?_push_of_some _ e) (Nat.le_refl _) ?_, rfl, q _ hf⟩
  exact ⟨z, us, r, ⟨_, Heap.get?_push_size _ rfl, rfl, _, rfl⟩⟩
theorem pe_lst (h : PA X es t) : PE X (.List es pos) (tLst t) := by
  intro pins s σ H Q I hq
  refine wpAny_List_spliced (thn (h pos pins s σ H _ I hq) fun us s1 ⟨xs, H1, I1, r, z, q⟩ => ⟨by rw [← r.length]; exact z, ?_⟩)
  have hf : H1 s1.heap.objs.size = none := I1.hok.fresh (Nat.le_refl _)
  refine ⟨.ref s1.heap.objs.size, upd H1 s1.heap.objs.size (.lst xs), I1.laid (t' := s1.toks) (fun b u e => Heap.get?_push_of_some _ e) (Nat.le_refl _) ?_, rfl, q _ hf⟩
  exact ⟨z, us, 0, r, Heap.get?_push_size _ rfl⟩
end
abbrev Sp := List V → Hp → VK → XK → Prop
abbrev CXT := List Env → Hp → Shared → XK → Value → Shared → Prop
structure Env0 (P : Program) (w : World) (K : PySem.W.Frag) (mg : Str → Option Value) (base : Heap) (A : Around) (outer : List Env) (s : Shared) (H : Hp) : Prop where
  frames : A.frames = some outer
  mod : Mod K mg base
  bs : ∀ b o, base.get? b = some o → s.heap.get? b = some o ∧ H b = none
  bsz : base.objs.size ≤ s.heap.objs.size
  funs : s.heap.FunFrames base outer
  frf : ∀ b ∈ frs outer, H b = none
  hok : HOk P w H s.heap
  bare : AllBare s.gens
def CE (outer : List Env) (P : Program) (w : World) (H : Hp) (s : Shared) (Q : VK) (u : Value) (s' : Shared) : Prop :=
  ∃ v H', s'.os = s.os ∧ AllBare s'.gens ∧ Un (frs outer) [] H H' s.heap s'.heap ∧ HOk P w H' s'.heap ∧ RelV v u ∧ Q v H'
def CR (CX : CXT) (outer : List Env) (P : Program) (w : World) (H : Hp) (s : Shared) (Q : VK) (E : XK) (r : Result) (s' : Shared) : Prop :=
  match r with
  | .ok (.ret u) => CE outer P w H s Q u s'
  | .ok _ => False
  | .error e => CX outer H s E e s'
structure FnOk (P : Program) (w : World) (K : PySem.W.Frag) (mg : Str → Option Value) (base : Heap) (CX : CXT) (k : Nat) (f : Addr) (fd : FuncData) (ps : List Str) (sp : Sp) : Prop where
  len : ∀ vs H Q E, sp vs H Q E → vs.length = ps.length
  run : ∀ (A : Around) (outer : List Env) (s : Shared) (H : Hp) (args : Args) (us : List Value) (vs : List V) (Q : VK) (E : XK), Room k A → Env0 P w K mg base A outer s H → BindsTo s fd args (ps.zip us) → Vals vs us → sp vs H Q E →
    codeAny (model P w) A (.call (.ref f) args) (CR CX outer P w H s Q E) s
theorem FnOk.mono {P : Program} {w : World} {K : PySem.W.Frag} {mg : Str → Option Value} {base : Heap} {CX : CXT} {j k : Nat} {f : Addr} {fd : FuncData} {ps : List Str} {sp : Sp} (F : FnOk P w K mg base CX j f fd ps sp) (h : j ≤ k) :
    FnOk P w K mg base CX k f fd ps sp := ⟨F.len, fun A outer s H args us vs Q E hr => F.run A outer s H args us vs Q E (hr.mono h)⟩
theorem Env0.in1 {P : Program} {w : World} {K : PySem.W.Frag} {mg : Str → Option Value} {base : Heap} {A : Around} {outer : List Env} {s : Shared} {H : Hp} (e : Env0 P w K mg base A outer s H) :
    Env0 P w K mg base A.in1 outer s H := ⟨e.frames, e.mod, e.bs, e.bsz, e.funs, e.frf, e.hok, e.bare⟩
section
variable {X : Cx} {pins : List (Addr × Obj)} {σ : St} {H : Hp} {s s' : Shared}
theorem Inv.env0 (I : Inv X pins σ H s) : Env0 X.prog X.w X.K X.mg X.base X.A X.stack s H :=
  ⟨I.ok.frames, I.ok.mod, I.bs, Nat.le_trans I.ok.bsz I.sz, I.stack, I.stkFree, I.hok, I.bare⟩
theorem Inv.after {Q : VK} {u : Value} (I : Inv X pins σ H s) (h : CE X.stack X.prog X.w H s Q u s') : EP X pins σ Q u s' := by
  obtain ⟨v, H', os, bare, un, hok, r, q⟩ := h
  obtain ⟨hh, g, d, t, os'⟩ := s'
  obtain rfl : os' = s.os := os
  exact ⟨v, H', I.call (h' := hh) (g' := g) (d' := d) (t' := t) (ch := []) un hok bare (fun b z => absurd z (by simp)), r, q⟩
end
def tCall (sp : Sp) (dvs : List V) (E : XK) (t : TA) : TE := fun σ H Q => t σ H fun vs H1 => sp (vs ++ dvs) H1 Q E
def tMeth (C : Addr) (m : Str) (sp : Sp) (dvs : List V) (E : XK) (ta : TE) (t : TA) : TE := fun σ H Q => ta σ H fun x H1 => ∃ a dx fs, x = .ref a ∧ H1 a = some (.ins C dx fs) ∧ fs.lookup m = none ∧
  t σ H1 fun vs H2 => sp (x :: (vs ++ dvs)) H2 Q E
def tMake (C : Addr) (sp : Sp) (dvs : List V) (E : XK) (t : TA) : TE := fun σ H Q => t σ H fun vs H1 => ∀ x dx, H1 x = none → H1 dx = none → dx ≠ x →
  sp (.ref x :: (vs ++ dvs)) (upd (upd H1 dx (.own x)) x (.ins C dx [])) (fun v H2 => v = .non ∧ Q (.ref x) H2) E
def Binds (K : PySem.W.Frag) (fd : FuncData) (ps : List Str) (ds : List Value) : Prop :=
  ∀ (s : Shared) (us : List Value), K.In s.heap → (us ++ ds).length = ps.length → BindsTo s fd ⟨us, []⟩ (ps.zip (us ++ ds))
theorem Binds.all {K : PySem.W.Frag} {fd : FuncData} {ps : List Str} (h : ∀ us : List Value, us.length = ps.length → bindArgs fd ⟨us, []⟩ = pure (ps.zip us)) : Binds K fd ps [] := fun s us _ hl => by
  rw [List.append_nil] at hl ⊢
  exact .of_eq (h us hl)
def Passes (CX : CXT) (X : Cx) (E : XK) : Prop := ∀ (pins : List (Addr × Obj)) (σ : St) (H : Hp) (s : Shared) (e : Value) (s' : Shared), Inv X pins σ H s → CX X.stack H s E e s' → X.xe e s'
section
variable {X : Cx} {CX : CXT} {k : Nat} {f C : Addr} {fd : FuncData} {ps : List Str} {sp : Sp} {dvs : List V} {ds : List Value} {E : XK} {x m : Str} {p pos apos : Pos} {e o : Expr} {es : List Expr} {ta : TE} {t : TA}
theorem run_fn {pins : List (Addr × Obj)} {σ : St} {H : Hp} {s : Shared} {Q : VK} {us : List Value} {vs : List V} (F : FnOk X.prog X.w X.K X.mg X.base CX k f fd ps sp) (hr : Room k X.A) (hb : Binds X.K fd ps ds) (hd : Vals dvs ds) (hx : Passes CX X E)
    (I : Inv X pins σ H s) (r : Vals vs us) (h : sp (vs ++ dvs) H Q E) : wpAny (model X.prog X.w) X.A (call (.ref f) us) (EP X pins σ Q) X.xe s := by
  have r2 : Vals (vs ++ dvs) (us ++ ds) := r.append hd
  have hl : (us ++ ds).length = ps.length := by rw [← r2.length]; exact F.len _ _ _ _ h
  refine wpAny_call (codeAny_mono (F.run X.A X.stack s H ⟨us, []⟩ (us ++ ds) (vs ++ dvs) Q E hr I.env0 (hb s us I.kIn hl) r2 h) fun r s' hq => ?_)
  cases r with
  | error e => exact hx pins σ H s e s' I hq
  | ok fl =>
    cases fl with
    | ret u => exact I.after hq
    | next => exact False.elim hq
    | brk => exact False.elim hq
    | cont => exact False.elim hq
theorem pe_call (F : FnOk X.prog X.w X.K X.mg X.base CX k f fd ps sp) (hr : Room k X.A) (hg : Gl X x) (hm : X.mg x = some (.ref f)) (hk : PySem.W.keepIn X.K (.ref f) = true) (hb : Binds X.K fd ps ds) (hd : Vals dvs ds) (hx : Passes CX X E)
    (ha : PA X (e :: es) t) (hdb : (x == ("__debug__" : Str)) = false := by decide) (he : starEach (e :: es) X.env = (false, eval e X.env) :: starEach es X.env := by rfl) (hpl : (backTo pos (starEach es X.env)).any (·.1) = false := by rfl) :
    PE X (.Call (.Name x p) (e :: es) [] pos) (tCall sp dvs E t) := by
  intro pins s σ H Q I h
  refine wpAny_Call_Name_kw (ld_glob I hg hm ?_ hdb)
  refine PySem.W.callWith_K (h₀ := X.base) I.ok.mod.kin hk (thn (ha pos pins s σ H _ I h) fun us s1 ⟨vs, H1, I1, r, q⟩ => ⟨I1.kIn, ?_⟩) he hpl
  exact run_fn F hr hb hd hx I1 r q
structure Mk (K : PySem.W.Frag) (C f : Addr) : Prop where
  makes : PySem.W.makesIn K C = true
  init : PySem.W.findIn K (.ref C) "__init__" = some (some (.ref f))
  fn : PySem.W.isFn K (.ref f) = true
  kp : PySem.W.keepIn K (.ref C) = true
end
def PK (X : Cx) (kws : List Keyword) (t : TA) : Prop :=
  ∀ (pos : Pos) (pins : List (Addr × Obj)) (s : Shared) (σ : St) (H : Hp) (Q : List V → Hp → Prop), Inv X pins σ H s → t σ H Q → wpAny (model X.prog X.w) X.A (evalAll ((backToKw pos (keywordEach kws X.env)).map (·.2))) (AP X pins σ Q) X.xe s
section
variable {X : Cx} {CX : CXT} {k : Nat} {f C : Addr} {fd : FuncData} {ps ks : List Str} {sp : Sp} {E : XK} {x m : Str} {p pos apos kpos : Pos} {e o : Expr} {es : List Expr} {kws : List Keyword} {te ta : TE} {t tk : TA} {nm : Option Str}
structure KBinds (K : PySem.W.Frag) (fd : FuncData) (ps ks : List Str) (g : List Value → List Value → List Value) (gV : List V → List V → List V) : Prop where
  to : ∀ (s : Shared) (us ws : List Value), K.In s.heap → (g us ws).length = ps.length → BindsTo s fd ⟨us, ks.zip ws⟩ (ps.zip (g us ws))
  rel : ∀ {vs : List V} {us : List Value} {zs : List V} {ws : List Value}, Vals vs us → Vals zs ws → Vals (gV vs zs) (g us ws)
def tCallK (sp : Sp) (gV : List V → List V → List V) (E : XK) (t tk : TA) : TE := fun σ H Q => t σ H fun vs H1 => tk σ H1 fun zs H2 => sp (gV vs zs) H2 Q E
variable {g : List Value → List Value → List Value} {gV : List V → List V → List V}
end
structure FnScope (N P : List Str) (sc : Scope) : Prop where
  kind : sc.kind = .function
  co : sc.isCoroutine = false
  gen : sc.isGenerator = false
  nd : N.Nodup
  pre : N.take P.length = P
  par : ∀ x ∈ P, sc.names.lookup x = some .local ∨ sc.names.lookup x = some .cell
  nofree : ∀ y ∈ sc.names, y.2 ≠ .free
theorem bindL_out {kindOf : Str → Option NameKind} {x : Str} : ∀ {binds : List (Str × Value)} {m : Str → Option Value}, (∀ v, (x, v) ∉ binds) → bindL kindOf binds m x = m x
  | [], _, _ => rfl
  | (n, v) :: r, m, h => by
    unfold bindL
    rw [bindL_out fun w hw => h w (List.mem_cons_of_mem _ hw)]
    split
    · have : x ≠ n := by rintro rfl; exact h v List.mem_cons_self
      simp [this]
    · rfl
theorem bindC_out {kindOf : Str → Option NameKind} {x : Str} : ∀ {binds : List (Str × Value)} {m : Str → Option Value}, (∀ v, (x, v) ∉ binds) → bindC kindOf binds m x = m x
  | [], _, _ => rfl
  | (n, v) :: r, m, h => by
    unfold bindC
    rw [bindC_out fun w hw => h w (List.mem_cons_of_mem _ hw)]
    split
    · rfl
    · have : x ≠ n := by rintro rfl; exact h v List.mem_cons_self
      simp [this]
theorem bindL_get {kindOf : Str → Option NameKind} {x : Str} {v : Value} : ∀ {P : List Str} {vs : List Value} {i : Nat} {m : Str → Option Value}, P.Nodup → P[i]? = some x → vs[i]? = some v → kindOf x = some .local →
    bindL kindOf (P.zip vs) m x = some v
  | [], _, _, _, _, h, _, _ => by simp at h
  | _ :: _, [], _, _, _, _, h, _ => by simp at h
  | p :: P, w :: vs, 0, m, nd, h1, h2, hk => by
    simp at h1 h2; subst h1; subst h2
    show bindL kindOf ((p, w) :: P.zip vs) m p = _
    unfold bindL
    rw [bindL_out fun v hv => (List.nodup_cons.mp nd).1 (List.of_mem_zip hv).1, if_pos hk]
    simp
  | p :: P, w :: vs, i + 1, m, nd, h1, h2, hk => by
    show bindL kindOf ((p, w) :: P.zip vs) m x = _
    unfold bindL
    exact bindL_get (i := i) (List.nodup_cons.mp nd).2 (by simpa using h1) (by simpa using h2) hk
theorem bindC_get {kindOf : Str → Option NameKind} {x : Str} {v : Value} : ∀ {P : List Str} {vs : List Value} {i : Nat} {m : Str → Option Value}, P.Nodup → P[i]? = some x → vs[i]? = some v → kindOf x ≠ some .local →
    bindC kindOf (P.zip vs) m x = some v
  | [], _, _, _, _, h, _, _ => by simp at h
  | _ :: _, [], _, _, _, _, h, _ => by simp at h
  | p :: P, w :: vs, 0, m, nd, h1, h2, hk => by
    simp at h1 h2; subst h1; subst h2
    show bindC kindOf ((p, w) :: P.zip vs) m p = _
    unfold bindC
    rw [bindC_out fun v hv => (List.nodup_cons.mp nd).1 (List.of_mem_zip hv).1, if_neg hk]
    simp
  | p :: P, w :: vs, i + 1, m, nd, h1, h2, hk => by
    show bindC kindOf ((p, w) :: P.zip vs) m x = _
    unfold bindC
    exact bindC_get (i := i) (List.nodup_cons.mp nd).2 (by simpa using h1) (by simpa using h2) hk
def start (N : List Str) (vs : List V) : St := vs.map some ++ List.replicate (N.length - vs.length) none
def cxOf (CX : CXT) (P : Program) (w : World) (K : PySem.W.Frag) (mg : Str → Option Value) (base : Heap) (N : List Str) (qual : Str) (scope : Scope) (f : Addr) (cd : Value) (A : Around) (outer : List Env) (s : Shared) (H : Hp) (E : XK) : Cx where
  prog := P
  w := w
  K := K
  mg := mg
  base := base
  A := A.deeper (envOfC qual scope s.heap.objs.size f cd)
  N := N
  s₀ := s
  H₀ := H
  env := envOfC qual scope s.heap.objs.size f cd
  outer := outer
  stack := envOfC qual scope s.heap.objs.size f cd :: outer
  ex := []
  calm := true
  fn := fun _ => true
  pn := []
  xe := fun e s' => wpAny (model P w) (A.deeper (envOfC qual scope s.heap.objs.size f cd)) (leaving (envOfC qual scope s.heap.objs.size f cd) e) (fun _ s'' => CX outer H s E e s'') (fun e' s'' => CX outer H s E e' s'') s'
theorem cell_has {sc : Scope} {n : Nat} {x : Str} (h : sc.names.lookup x = some .cell) : ∃ c, (cellsFrom n sc.names []).lookup x = some c := by
  have q := PySem.W.cellsFrom_some sc.names n [] (.inl h)
  exact Option.isSome_iff_exists.mp q
theorem inv_start {CX : CXT} {P : Program} {w : World} {K : PySem.W.Frag} {mg : Str → Option Value} {base : Heap} {N ps : List Str} {qual : Str} {scope : Scope} {f : Addr} {cd : Value} {A : Around} {outer : List Env} {s s1 : Shared} {H : Hp} {E : XK} {us : List Value} {vs : List V}
    (S : FnScope N ps scope) (hd : A.handled = none) (e0 : Env0 P w K mg base A outer s H) (hl : vs.length = ps.length) (r : Vals vs us)
    (x : InCallC s s.heap.objs.size (bindL (envOfC qual scope s.heap.objs.size f cd).kindOf (ps.zip us) fun _ => none) (cellsFrom (s.heap.objs.size + 1) scope.names []) (bindC (envOfC qual scope s.heap.objs.size f cd).kindOf (ps.zip us) fun _ => none) s1) :
    Inv (cxOf CX P w K mg base N qual scope f cd A outer s H E) [] (start N vs) H s1 := by
  have hpl : ps.length ≤ N.length := by have := congrArg List.length S.pre; rw [List.length_take] at this; omega
  obtain ⟨h1, tk, rfl, hk⟩ := x.done
  have noA : ∀ b : Addr, b ∉ (cxOf CX P w K mg base N qual scope f cd A outer s H E).ex := fun b z => absurd (show b ∈ ([] : List Addr) from z) (by simp)
  refine ⟨⟨e0.mod, S.kind, rfl, rfl, Nat.le_refl _, fun y z c h1 h2 => ?_, fun y hy => ?_, fun y c _ h => ?_, fun _ => hd, Around.frames_deeper e0.frames, .inr ⟨rfl, rfl⟩, fun b z => absurd z (noA b), e0.bs, e0.bsz, fun b _ _ => noA b, fun b z => absurd z (noA b), e0.funs, e0.frf⟩,
    rfl, e0.bare, Un.kept hk, ⟨_, x.toInCall.ns, fun i y v h1 h2 h3 => ?_⟩, fun y c h => ⟨_, x.cell y c h⟩, e0.hok.fresh (Nat.le_refl _), fun y c h => ?_, fun p hp => absurd (show p ∈ ([] : List (Addr × Obj)) from hp) (by simp), e0.hok.kept hk, ?_⟩
  · exact name_of_addr x.apart (PySem.mem_of_lookup h1) (PySem.mem_of_lookup h2)
  · have hy : scope.names.lookup y = some .cell ∨ scope.names.lookup y = some .free := hy
    rcases hy with hy | hy
    · exact cell_has hy
    · exact absurd rfl (S.nofree _ (PySem.mem_of_lookup hy))
  · exact Nat.le_of_lt (x.above y c (PySem.mem_of_lookup h))
  · have hi : i < vs.length := by
      unfold start at h2
      by_cases hi : i < vs.length
      · exact hi
      · rw [List.getElem?_append_right (by simpa using hi)] at h2
        rw [List.getElem?_replicate] at h2
        split at h2 <;> cases h2
    have ha : vs[i]? = some v := by
      unfold start at h2
      rw [List.getElem?_append_left (by simpa using hi), List.getElem?_map] at h2
      cases e : vs[i]? with
      | none => rw [e] at h2; cases h2
      | some a => rw [e] at h2; cases h2; rfl
    obtain ⟨u, hu, rv⟩ := r.get ha
    have hp : ps[i]? = some y := by
      rw [← S.pre, List.getElem?_take_of_lt (by omega)]; exact h1
    have ndP : ps.Nodup := by rw [← S.pre]; exact S.nd.sublist (List.take_sublist _ _)
    refine ⟨u, rv, ?_⟩
    rcases S.par y (List.mem_of_getElem? hp) with k | k
    · exact .inl ⟨k, bindL_get ndP hp hu k⟩
    · obtain ⟨c, e⟩ := cell_has (n := s.heap.objs.size + 1) k
      refine .inr ⟨.inl k, c, e, ?_⟩
      have q := x.cell y c e
      rw [bindC_get ndP hp hu (by show scope.names.lookup y ≠ _; rw [k]; decide)] at q
      exact q
  · exact e0.hok.fresh (Nat.le_of_lt (x.above y c (PySem.mem_of_lookup h)))
  · unfold start
    show _ = N.length
    rw [List.length_append, List.length_map, List.length_replicate]
    omega
theorem fn_of {CX : CXT} {P : Program} {w : World} {K : PySem.W.Frag} {mg : Str → Option Value} {base : Heap} {k : Nat} {f : Addr} {name qual : Str} {params : Arguments} {body : List Stmt} {scope : Scope} {dV kV doc pm cdv ct oc : Value} {an od : Option Addr}
    {osl : Array (Option Value)} {N ps : List Str} {sp : Sp} (lk : K.lookup f = some ⟨oc, od, .func (PySem.W.fnOf name qual params body scope dV kV doc pm an cdv ct), osl⟩) (hcd : PySem.W.codeIn K cdv qual = true) (S : FnScope N ps scope)
    (len : ∀ vs H Q E, sp vs H Q E → vs.length = ps.length)
    (hbody : ∀ (A : Around) (outer : List Env) (s : Shared) (H : Hp) (vs : List V) (Q : VK) (E : XK), Room k (A.deeper (envOfC qual scope s.heap.objs.size f cdv)) → sp vs H Q E →
      ∃ t, PSs (cxOf CX P w K mg base N qual scope f cdv A outer s H E) body t ∧ t { nx := fun _ H' => Q .non H', rt := Q } (start N vs) H) :
    FnOk P w K mg base CX (k + 1) f (PySem.W.fnOf name qual params body scope dV kV doc pm an cdv ct) ps sp := by
  refine ⟨len, fun A outer s H args us vs Q E hr e0 hb r hsp => ?_⟩
  have hl := len _ _ _ _ hsp
  have KX : K.In s.heap := e0.mod.kin.keeps fun b o e => (e0.bs b o e).1
  have lim : s.heap.NoLimit := e0.mod.nolimit.keeps fun b o e => (e0.bs b o e).1
  have hkind : ∀ y ∈ ps.zip us, scope.names.lookup y.1 = some .local ∨ (scope.names.lookup y.1 = some .cell ∧ ((cellsFrom (s.heap.objs.size + 1) scope.names []).lookup y.1).isSome = true) := fun ⟨n, v⟩ hy => by
    rcases S.par n (List.of_mem_zip hy).1 with q | q
    · exact .inl q
    · exact .inr ⟨q, PySem.W.cellsFrom_some _ _ _ (.inl q)⟩
  refine codeAny_call_function hr.depth (KX _ _ lk) rfl S.co S.gen rfl (PySem.W.codeRec_of KX hcd) (hb _ _ _ _ ?_)
  refine wpAny_newFunctionEnv_cells S.kind hkind fun env he s1 x => ?_
  subst he
  refine ⟨lim.keeps x.toInCall.keep, codeAny_func ?_⟩
  obtain ⟨t, ht, hq⟩ := hbody A outer s H vs Q E (hr.deeper _) hsp
  have I : Inv (cxOf CX P w K mg base N qual scope f cdv A outer s H E) [] (start N vs) H s1 := inv_start S hr.hd e0 hl r x
  refine wpAny_mono (ht [] s1 (start N vs) H _ I hq) (fun fl s' hs => ?_) fun e s' hs => hs
  have fin : ∀ {σ' : St} {H' : Hp} {v : V} {u : Value}, Inv (cxOf CX P w K mg base N qual scope f cdv A outer s H E) [] σ' H' s' → RelV v u → Q v H' → CE outer P w H s Q u s' :=
    fun {σ' H' v u} J rv q => ⟨v, H', J.os, J.bare, J.base, J.hok, rv, q⟩
  cases fl with
  | ret u =>
    obtain ⟨v, σ', H', J, rv, q⟩ := hs
    exact fin J rv q
  | next =>
    obtain ⟨σ', H', J, q⟩ := hs
    exact fin (v := V.non) (u := Value.none) J rfl q
  | brk =>
    obtain ⟨_, _, _, q⟩ := hs
    exact False.elim q
  | cont =>
    obtain ⟨_, _, _, q⟩ := hs
    exact False.elim q
end L2
namespace L2
open PySem PySem.Spec PyProof.Rows
section
variable {X : Cx} {x : Str} {p pos : Pos} {e : Expr} {es : List Expr} {t : TA} {id T : String} {r : List V → Hp → VK → Prop}
def tCB (r : List V → Hp → VK → Prop) (t : TA) : TE := fun σ H Q => t σ H fun vs H1 => r vs H1 Q
theorem pe_callB (hc : CallR X (.builtin id) r) (hg : Gl X x) (hm : X.mg x = none) (hv : bootBuiltins x = some (.builtin id)) (ha : PA X (e :: es) t) (hn : x ≠ "__name__" := by decide) (hdb : (x == ("__debug__" : Str)) = false := by decide)
    (he : starEach (e :: es) X.env = (false, eval e X.env) :: starEach es X.env := by rfl) (hpl : (backTo pos (starEach es X.env)).any (·.1) = false := by rfl) : PE X (.Call (.Name x p) (e :: es) [] pos) (tCB r t) := by
  intro pins s σ H Q I h
  refine wpAny_Call_Name_kw (ld_blt I hg hm hv ?_ hn hdb)
  exact PyProof.Rows.callWith_builtin1 (thn (ha pos pins s σ H _ I h) fun us s1 ⟨vs, H1, I1, r1, q1⟩ => hc pins s1 σ H1 vs us Q I1 r1 q1) he hpl
end
end L2
namespace HT
open PySem PyProof.Rows
def lexLt : List Int → List Int → Bool
  | [], [] => false
  | [], _ :: _ => true
  | _ :: _, [] => false
  | x :: xs, y :: ys => if x = y then lexLt xs ys else decide (x < y)
section
open PySem.SeqAt
open PySem.AutoSeq1 (wpAny_loadPart')
open PySem.MeetsSeq PySem.MeetsSeq2 PySem.MeetsSeq3
end
section
variable {prog : Program} {w : World} {A : Around} {E : Value → Shared → Prop} {s : Shared}
def sIx (n d : Nat) : Option Int → Nat
  | none => d
  | some v => if v < 0 then (v + (n : Int)).toNat else min v.toNat n
theorem sIx_none (n d : Nat) : sIx n d none = d := rfl
theorem sIx_nat (n d k : Nat) : sIx n d (some (k : Int)) = min k n := by
  show (if (k : Int) < 0 then ((k : Int) + (n : Int)).toNat else min (k : Int).toNat n) = min k n
  rw [if_neg (by omega), Int.toNat_natCast]
theorem sIx_le (n d : Nat) (hd : d ≤ n) (o : Option Int) : sIx n d o ≤ n := by
  cases o with
  | none => exact hd
  | some v =>
    show (if v < 0 then (v + (n : Int)).toNat else min v.toNat n) ≤ n
    by_cases hv : v < 0
    · rw [if_pos hv]; omega
    · rw [if_neg hv]; exact Nat.min_le_right _ _
theorem clip_eq (v : Int) (n d : Nat) : (if v < 0 then max (v + (n : Int)) 0 else min v (n : Int)) = ((sIx n d (some v) : Nat) : Int) := by
  show (if v < 0 then max (v + (n : Int)) 0 else min v (n : Int)) = (((if v < 0 then (v + (n : Int)).toNat else min v.toNat n) : Nat) : Int)
  by_cases hv : v < 0
  · simp only [if_pos hv]; omega
  · simp only [if_neg hv]; omega
theorem adjust_gen (lo hi : Option Int) (n : Nat) : Builtin.Slice.sliceAdjust lo hi 1 (n : Int) = (((sIx n 0 lo : Nat) : Int), ((sIx n n hi : Nat) : Int)) := by
  have h1 : ¬ ((1 : Int) < 0) := by omega
  unfold Builtin.Slice.sliceAdjust
  simp only [h1, if_false]
  refine Prod.ext ?_ ?_
  · cases lo with
    | none => rfl
    | some v => exact clip_eq v n 0
  · cases hi with
    | none => rfl
    | some v => exact clip_eq v n n
theorem places_gen (i j : Nat) : Builtin.Slice.slicePlaces (i : Int) (j : Int) 1 = j - i := by
  unfold Builtin.Slice.slicePlaces
  have h1 : (1 : Int) > 0 := by omega
  simp only [h1, if_true, Int.ediv_one]
  split <;> omega
theorem slicePart_ {v : Value} {o : Option Int} {Q : Option Int → Shared → Prop} (p : IsPart v o) (h : Q o s) : wpAny (model prog w) A (Builtin.Slice.slicePartIndex v) Q E s := by
  cases p with
  | none => exact slicePart_none h
  | int i t => exact slicePart_int h
theorem sliceApplied_gen {sl : Addr} {vl vu : Value} {lo hi : Option Int} {n : Nat} {Q : Int × Int × Nat → Shared → Prop} (hs : s.heap.IsSliceOf sl vl vu .none) (pl : IsPart vl lo) (pu : IsPart vu hi)
    (h : Q (((sIx n 0 lo : Nat) : Int), 1, sIx n n hi - sIx n 0 lo) s) : wpAny (model prog w) A (Builtin.Slice.sliceApplied (.ref sl) (pure (n : Int))) Q E s := by
  obtain ⟨os, hos, hcs, hds⟩ := id hs
  unfold Builtin.Slice.sliceApplied Builtin.Slice.sliceFields
  refine wpAny_bind (wpAny_bind (wpAny_field hos hds (x := vl) rfl (wpAny_bind (wpAny_field hos hds (x := vu) rfl (wpAny_bind (wpAny_field hos hds (x := .none) rfl (wpAny_pure ?_)))))))
  refine wpAny_bind (slicePart_none ?_)
  show wpAny _ _ (if ((1 : Int) == 0) = true then _ else _) _ _ s
  rw [if_neg (by decide)]
  refine wpAny_bind (slicePart_ pl (wpAny_bind (slicePart_ pu (wpAny_bind (wpAny_pure ?_)))))
  show wpAny _ _ (match Builtin.Slice.sliceAdjust lo hi 1 (n : Int) with | (lo, hi) => pure (lo, (1 : Int), Builtin.Slice.slicePlaces lo hi 1)) _ _ s
  rw [adjust_gen lo hi n]
  show wpAny _ _ (pure (((sIx n 0 lo : Nat) : Int), (1 : Int), Builtin.Slice.slicePlaces ((sIx n 0 lo : Nat) : Int) ((sIx n n hi : Nat) : Int) 1)) _ _ s
  rw [places_gen]
  exact wpAny_pure h
theorem pick_gen (xs : Array Value) (i k : Nat) : ((List.range k).filterMap fun (m : Nat) => xs[((i : Int) + (m : Int) * 1).toNat]?).toArray = ((xs.toList.drop i).take k).toArray := by
  have e : (fun (m : Nat) => xs[((i : Int) + (m : Int) * 1).toNat]?) = fun m => xs[i + m]? := by
    funext m
    have : ((i : Int) + (m : Int) * 1).toNat = i + m := by omega
    rw [this]
  rw [e]
  have := pick_run xs i k
  rw [List.filterMap_map] at this
  have e2 : ((fun x => xs[x]?) ∘ fun x => i + x) = fun m => xs[i + m]? := rfl
  rw [e2] at this
  rw [this]
theorem getItem_tuple_cut {t sl : Addr} {items : Array Value} {vl vu : Value} {lo hi : Option Int} {Q : Value → Shared → Prop} (ht : IsTup s.heap t items) (hs : s.heap.IsSliceOf sl vl vu .none) (pl : IsPart vl lo) (pu : IsPart vu hi)
    (hw : ¬ (sIx items.size 0 lo = 0 ∧ sIx items.size items.size hi = items.size))
    (h : Q (.ref s.heap.objs.size) { s with heap := s.heap.push { cls := .type "tuple", data := .seq ((items.toList.drop (sIx items.size 0 lo)).take (sIx items.size items.size hi - sIx items.size 0 lo)).toArray } })
    (hsz : items.size ≤ sizeLine) : wpAny (model prog w) A (getItem (.ref t) (.ref sl)) Q E s := by
  have htake : sizeOk (.seq ((items.toList.drop (sIx items.size 0 lo)).take (sIx items.size items.size hi - sIx items.size 0 lo)).toArray) := by
    show ((items.toList.drop (sIx items.size 0 lo)).take (sIx items.size items.size hi - sIx items.size 0 lo)).toArray.size ≤ sizeLine
    rw [List.size_toArray, List.length_take, List.length_drop, Array.length_toList]
    omega
  have hj : sIx items.size items.size hi ≤ items.size := sIx_le _ _ (Nat.le_refl _) hi
  obtain ⟨os, hos, hcs, hds⟩ := id hs
  have hTs : s.TypeIs (.ref sl) "slice" := ⟨os, hos, hcs⟩
  unfold getItem
  try with_reducible refine wpAny_holding ?_
  first | refine wpAny_bind (wpAny_pure ?_) | skip
  refine wpAny_bind (wpAny_sequenceKey ht.typeIs (by decide) ?_)
  refine wpAny_bind (wpAny_callSpecial?_slot (name := Str.ofString "__getitem__") ht.typeIs PyProof.Rows.slot_tuple_getitem
    (wpAny_call_entry PyProof.Rows.slot_tuple_getitem ht.typeIs entry_tuple_getitem ?_ (args_tuple_getitem _ _)))
  show wpAny _ _ (Builtin.Tuple.tupleItemsOf (.ref t) >>= _) _ _ s
  refine wpAny_bind (tupleItemsOf_ ht ?_)
  refine wpAny_bind (wpAny_typeOf hTs ?_)
  rw [if_pos (by decide)]
  refine wpAny_bind (sliceApplied_gen hs pl pu ?_)
  have hno : ¬ ((((sIx items.size 0 lo : Nat) : Int) == 0 && (1 : Int) == 1 && (sIx items.size items.size hi - sIx items.size 0 lo) == items.size) = true) := by
    intro q
    rw [Bool.and_eq_true, Bool.and_eq_true] at q
    have q1 : ((sIx items.size 0 lo : Nat) : Int) = 0 := eq_of_beq q.1.1
    have q2 : sIx items.size items.size hi - sIx items.size 0 lo = items.size := eq_of_beq q.2
    exact hw ⟨by omega, by omega⟩
  show wpAny _ _ (if (((sIx items.size 0 lo : Nat) : Int) == 0 && (1 : Int) == 1 && (sIx items.size items.size hi - sIx items.size 0 lo) == items.size) = true then _ else _) _ _ s
  rw [if_neg hno, pick_gen]
  first
    | exact wpAny_bind (m := Builtin.Tuple.tupleExact _) (wpAny_newObj_type (wpAny_pure ⟨_, rfl, wpAny_pure h⟩) htake)
    | exact wpAny_bind (m := Builtin.Tuple.tupleExact _) (wpAny_newObj_type (wpAny_bind (wpAny_pure (wpAny_pure ⟨_, rfl, wpAny_pure h⟩))) htake)
    | exact wpAny_bind (wpAny_bind (m := Builtin.Tuple.tupleExact _) (wpAny_newObj_type (wpAny_pure (wpAny_pure ⟨_, rfl, wpAny_pure h⟩)) htake))
    | exact wpAny_bind (wpAny_bind (m := Builtin.Tuple.tupleExact _) (wpAny_newObj_type (wpAny_pure ⟨_, rfl, wpAny_pure h⟩) htake))
end
end HT
namespace L2
open PySem PySem.Spec PyProof.Rows
abbrev TO := St → Hp → (Option Int → Hp → Prop) → Prop
def PO (X : Cx) (e : Option Expr) (t : TO) : Prop :=
  ∀ (pins : List (Addr × Obj)) (s : Shared) (σ : St) (H : Hp) (Q : Option Int → Hp → Prop), Inv X pins σ H s → t σ H Q →
    wpAny (model X.prog X.w) X.A (evalPart e X.env) (fun u s' => ∃ o H', Inv X pins σ H' s' ∧ IsPart u o ∧ Q o H') X.xe s
def tNoPart : TO := fun _ H Q => Q none H
def tPart (t : TE) : TO := fun σ H Q => t σ H fun x H1 => ∃ i, x = .int i ∧ Q (some i) H1
section
variable {X : Cx} {e : Expr} {te : TE} {lo hi : Option Expr} {tl th : TO} {pos p2 : Pos}
theorem po_none : PO X none tNoPart := by
  intro pins s σ H Q I h
  rw [evalPart_none]
  exact wpAny_pure ⟨none, H, I, .none, h⟩
theorem po_some (h : PE X e te) : PO X (some e) (tPart te) := by
  intro pins s σ H Q I hw
  rw [evalPart_some]
  refine thn (h pins s σ H _ I hw) fun u s1 ⟨x, H1, I1, r1, q1⟩ => ?_
  obtain ⟨i, rfl, q⟩ := q1
  obtain ⟨t, rfl⟩ := r1
  exact ⟨some i, H1, I1, .int i t, q⟩
def SlR (X : Cx) (r : V → Option Int → Option Int → Hp → VK → Prop) : Prop :=
  ∀ (pins : List (Addr × Obj)) (s : Shared) (σ : St) (H : Hp) (x : V) (v vl vu : Value) (lo hi : Option Int) (sl : Addr) (Q : VK), Inv X pins σ H s → RelV x v → s.heap.IsSliceOf sl vl vu .none → IsPart vl lo → IsPart vu hi → r x lo hi H Q →
    ∃ T id, typeLookup (.type T) "__getitem__" = pure (some (.builtin id)) ∧ s.TypeIs v T ∧ wpAny (model X.prog X.w) X.A (getItem v (.ref sl)) (EP X pins σ Q) X.xe s
theorem SlR.or {r r' : V → Option Int → Option Int → Hp → VK → Prop} (h : SlR X r) (h' : SlR X r') : SlR X (fun x lo hi H Q => r x lo hi H Q ∨ r' x lo hi H Q) := by
  intro pins s σ H x v vl vu lo hi sl Q I rx hs pl pu q
  rcases q with q | q
  · exact h pins s σ H x v vl vu lo hi sl Q I rx hs pl pu q
  · exact h' pins s σ H x v vl vu lo hi sl Q I rx hs pl pu q
def tSl (r : V → Option Int → Option Int → Hp → VK → Prop) (te : TE) (tl th : TO) : TE := fun σ H Q => te σ H fun x H1 => tl σ H1 fun l H2 => th σ H2 fun u H3 => r x l u H3 Q
theorem pe_slice {r : V → Option Int → Option Int → Hp → VK → Prop} (hr : SlR X r) (he : PE X e te) (hl : PO X lo tl) (hu : PO X hi th) : PE X (.Subscript e (.Slice lo hi none p2) pos) (tSl r te tl th) := by
  intro pins s σ H Q I h
  refine Subscript_ (thn (he pins s σ H _ I h) fun v s1 ⟨x, H1, I1, r1, q1⟩ => ?_)
  refine wpAny_Slice (thn (hl pins s1 σ H1 _ I1 q1) fun vl s2 ⟨l, H2, I2, pl, q2⟩ => thn (hu pins s2 σ H2 _ I2 q2) fun vu s3 ⟨u, H3, I3, pu, q3⟩ => ?_)
  rw [evalPart_none]
  refine wpAny_pure ?_
  have I4 : Inv X pins σ H3 { s3 with heap := s3.heap.push { cls := .type "slice", data := .fields #[vl, vu, .none] } } := I3.kept (t' := s3.toks) fun b ob q => Heap.get?_push_of_some _ q
  obtain ⟨T, id, hT, ht, hg⟩ := hr pins { s3 with heap := s3.heap.push { cls := .type "slice", data := .fields #[vl, vu, .none] } } σ H3 x v vl vu l u s3.heap.objs.size Q I4 r1 (Heap.IsSliceOf.new ..) pl pu q3
  show wpAny (model X.prog X.w) X.A (subscriptTail e (.Slice lo hi none p2) v (.ref s3.heap.objs.size)) (EP X pins σ Q) X.xe { s3 with heap := s3.heap.push { cls := .type "slice", data := .fields #[vl, vu, .none] } }
  exact tail_any (ops := [.ref s3.heap.objs.size, v]) ht hT hg (by with_unfolding_all rfl)
def cutV (xs : List V) (lo hi : Option Int) : List V := (xs.drop (HT.sIx xs.length 0 lo)).take (HT.sIx xs.length xs.length hi - HT.sIx xs.length 0 lo)
theorem cutV_length (xs : List V) (lo hi : Option Int) : (cutV xs lo hi).length ≤ xs.length := by
  unfold cutV
  rw [List.length_take, List.length_drop]
  omega
def rSlT (K : PySem.W.Frag) : V → Option Int → Option Int → Hp → VK → Prop := fun x lo hi H Q => ∃ a xs, x = .ref a ∧ SqT K H a xs ∧
  ¬ (HT.sIx xs.length 0 lo = 0 ∧ HT.sIx xs.length xs.length hi = xs.length) ∧ ∀ p, H p = none → Q (.ref p) (upd H p (.tup (cutV xs lo hi)))
theorem sl_tup : SlR X (rSlT X.K) := by
  intro pins s σ H x v vl vu lo hi sl Q I rx hs pl pu h
  obtain ⟨a, xs, rfl, hx, hw, q⟩ := h
  cases rx
  obtain ⟨its, r, ht, hz⟩ := I.tuple hx
  have hlen : its.toArray.size = xs.length := by rw [List.size_toArray]; exact r.length.symm
  refine ⟨"tuple", _, PyProof.Rows.slot_tuple_getitem.lookup, ht.typeIs, ?_⟩
  refine HT.getItem_tuple_cut ht hs pl pu (by rw [hlen]; exact hw) ?_ (by rw [hlen]; exact hz)
  rw [hlen]
  refine ⟨.ref s.heap.objs.size, _, I.laid (t' := s.toks) (o := .tup (cutV xs lo hi)) (fun b ob q => Heap.get?_push_of_some _ q) (Nat.le_refl _) ?_, rfl, q _ (I.hok.fresh (Nat.le_refl _))⟩
  exact ⟨Nat.le_trans (cutV_length xs lo hi) hz, _, (r.drop (HT.sIx xs.length 0 lo)).take (HT.sIx xs.length xs.length hi - HT.sIx xs.length 0 lo), IsTup.new _ _⟩
def rLtT (K : PySem.W.Frag) : R2 := fun x y H Q => ∃ a b ns ms, x = .ref a ∧ y = .ref b ∧ SqT K H a (ns.map V.int) ∧ SqT K H b (ms.map V.int) ∧ Q (.bl (HT.lexLt ns ms)) H
def rCatT (K : PySem.W.Frag) : R2 := fun x y H Q => ∃ a b xs ys, x = .ref a ∧ y = .ref b ∧ SqT K H a xs ∧ SqT K H b ys ∧ xs ≠ [] ∧ xs.length + ys.length ≤ sizeLine ∧
  (ys = [] → Q (.ref a) H) ∧ (ys ≠ [] → ∀ p, H p = none → Q (.ref p) (upd H p (.tup (xs ++ ys))))
end
end L2
namespace L2
open PySem PySem.Spec PyProof.Rows
def ixN (n : Nat) (i : Int) : Option Nat := if 0 ≤ i then (if i < n then some i.toNat else none) else if -(n : Int) ≤ i then some (i + n).toNat else none
def atI {α : Type} (xs : List α) (i : Int) : Option α := (ixN xs.length i).bind fun j => xs[j]?
theorem ixN_seq {n : Nat} {i : Int} {j : Nat} (h : ixN n i = some j) : seqIndex? i n = some j ∧ j < n ∧ -(n : Int) ≤ i ∧ i < n := by
  unfold ixN at h
  by_cases h0 : 0 ≤ i
  · rw [if_pos h0] at h
    by_cases h1 : i < n
    · rw [if_pos h1] at h
      have e : i.toNat = j := Option.some.inj h
      exact ⟨by rw [seqIndex_of h0 h1, e], by omega, by omega, h1⟩
    · rw [if_neg h1] at h; cases h
  · rw [if_neg h0] at h
    by_cases h1 : -(n : Int) ≤ i
    · rw [if_pos h1] at h
      have e : (i + n).toNat = j := Option.some.inj h
      exact ⟨by rw [seqIndex_neg (by omega) h1, e], by omega, h1, by omega⟩
    · rw [if_neg h1] at h; cases h
theorem atI_get {α : Type} {xs : List α} {i : Int} {v : α} (h : atI xs i = some v) : ∃ j, seqIndex? i xs.length = some j ∧ xs[j]? = some v ∧ j < xs.length ∧ -(xs.length : Int) ≤ i ∧ i < xs.length := by
  unfold atI at h
  cases e : ixN xs.length i with
  | none => rw [e] at h; cases h
  | some j =>
    rw [e] at h
    obtain ⟨h1, h2, h3, h4⟩ := ixN_seq e
    exact ⟨j, h1, h, h2, h3, h4⟩
theorem atI_nat {α : Type} {xs : List α} {j : Nat} {v : α} (h : xs[j]? = some v) : atI xs (j : Int) = some v := by
  have hj : j < xs.length := (List.getElem?_eq_some_iff.mp h).1
  have e : ixN xs.length (j : Int) = some j := by
    unfold ixN
    rw [if_pos (by omega), if_pos (by omega)]; simp
  unfold atI; rw [e]; exact h
def PlainIx (b : Expr) : Prop := ∀ o i, subscripted b false o i = operate [o, i] (getItem o i)
def IxR (X : Cx) (r : R2) : Prop :=
  ∀ (value slice : Expr) (pins : List (Addr × Obj)) (s : Shared) (σ : St) (H : Hp) (x y : V) (v u : Value) (Q : VK), Inv X pins σ H s → RelV x v → RelV y u → r x y H Q →
    subscripted slice false v u = operate [v, u] (getItem v u) → wpAny (model X.prog X.w) X.A (subscriptTail value slice v u) (EP X pins σ Q) X.xe s
def MtR (X : Cx) (id : String) (r : V → List V → Hp → VK → Prop) : Prop :=
  ∀ (pins : List (Addr × Obj)) (s : Shared) (σ : St) (H : Hp) (x : V) (xs : List V) (v : Value) (us : List Value) (Q : VK), Inv X pins σ H s → RelV x v → Vals xs us → r x xs H Q →
    wpAny (model X.prog X.w) X.A (call (.builtin id) (v :: us)) (EP X pins σ Q) X.xe s
section
variable {X : Cx} {a b : Expr} {ta tb : TE} {pos : Pos}
theorem IxR.or {r r' : R2} (h : IxR X r) (h' : IxR X r') : IxR X (fun x y H Q => r x y H Q ∨ r' x y H Q) := by
  intro value slice pins s σ H x y v u Q I rx ry q hs
  rcases q with q | q
  · exact h value slice pins s σ H x y v u Q I rx ry q hs
  · exact h' value slice pins s σ H x y v u Q I rx ry q hs
theorem MtR.or {id : String} {r r' : V → List V → Hp → VK → Prop} (h : MtR X id r) (h' : MtR X id r') : MtR X id (fun x xs H Q => r x xs H Q ∨ r' x xs H Q) := by
  intro pins s σ H x xs v us Q I rx rs q
  rcases q with q | q
  · exact h pins s σ H x xs v us Q I rx rs q
  · exact h' pins s σ H x xs v us Q I rx rs q
theorem pe_ix {r : R2} (hr : IxR X r) (ha : PE X a ta) (hb : PE X b tb) (hs : PlainIx b) : PE X (.Subscript a b pos) (tOp r ta tb) := by
  intro pins s σ H Q I h
  exact Subscript_ (binT ha hb I h fun v u s2 x y H2 I2 rx ry q => hr a b pins s2 σ H2 x y v u Q I2 rx ry q (hs _ _))
def rIxL (K : PySem.W.Frag) : R2 := fun x y H Q => ∃ p xs i v, x = .ref p ∧ y = .int i ∧ SqL K H p xs ∧ atI xs i = some v ∧ Q v H
def rIxT (K : PySem.W.Frag) : R2 := fun x y H Q => ∃ p xs i v, x = .ref p ∧ y = .int i ∧ SqT K H p xs ∧ atI xs i = some v ∧ Q v H
def rIxS : R2 := fun x y H Q => ∃ z i c, x = .str z ∧ y = .int i ∧ z.length ≤ sizeLine ∧ atI z.cps.toList i = some c ∧ Q (.str ⟨#[c]⟩) H
theorem ix_list : IxR X (rIxL X.K) := by
  intro value slice pins s σ H x y v u Q I rx ry h hs
  obtain ⟨p, xs, i, z, rfl, rfl, hq, he, q⟩ := h
  cases rx
  obtain ⟨t, rfl⟩ := ry
  obtain ⟨its, r, pl, hz⟩ := I.list hq
  obtain ⟨j, h1, h2, h3, h4, h5⟩ := atI_get he
  obtain ⟨w, ew, rw'⟩ := r.get h2
  have hl := r.length
  have hn := line63
  have fin : EP X pins σ Q w s := ⟨z, H, I, rw', q⟩
  by_cases h0 : 0 ≤ i
  · have hj : i.toNat = j := by
      rw [seqIndex_of h0 h5] at h1
      exact Option.some.inj h1
    exact item_listR pl.isList h0 (by omega) (by rw [hj]; simpa using ew) fin hs
  · have hj : (i + (its.toArray.size : Int)).toNat = j := by
      rw [seqIndex_neg (by omega) h4] at h1
      rw [List.size_toArray, ← hl]
      exact Option.some.inj h1
    exact subscriptTail_builtinR (x := w) pl.isList.typeIs slot_list_getitem.lookup
      (wpAny_getItem_list_neg (Q := fun r s' => r = w ∧ EP X pins σ Q r s') pl.isList (by omega) (by rw [List.size_toArray] <;> omega) (by omega) (by rw [hj]; simpa using ew) ⟨rfl, fin⟩) hs
theorem ix_tup : IxR X (rIxT X.K) := by
  intro value slice pins s σ H x y v u Q I rx ry h hs
  obtain ⟨p, xs, i, z, rfl, rfl, hq, he, q⟩ := h
  cases rx
  obtain ⟨t, rfl⟩ := ry
  obtain ⟨its, r, pl, hz⟩ := I.tuple hq
  obtain ⟨j, h1, h2, h3, h4, h5⟩ := atI_get he
  obtain ⟨w, ew, rw'⟩ := r.get h2
  have hl := r.length
  have hn := line63
  have fin : EP X pins σ Q w s := ⟨z, H, I, rw', q⟩
  exact subscriptTail_builtinR (x := w) pl.typeIs slot_tuple_getitem.lookup
    (getItem_tuple (j := j) (Q := fun r s' => r = w ∧ EP X pins σ Q r s') pl (by omega) (by omega) (by rw [List.size_toArray, ← hl]; exact h1) (by simpa using ew) ⟨rfl, fin⟩) hs
def rIx (K : PySem.W.Frag) : R2 := fun x y H Q => rIxL K x y H Q ∨ rIxT K x y H Q ∨ rIxS x y H Q
theorem Inv.lst {pins : List (Addr × Obj)} {σ : St} {H : Hp} {s : Shared} {p : Addr} {xs : List V} (I : Inv X pins σ H s) (h : H p = some (.lst xs)) :
    ∃ (its : List Value) (n : Nat), Vals xs its ∧ s.heap.get? p = some { cls := .type "list", data := .seq its.toArray n } ∧ xs.length ≤ sizeLine := by
  obtain ⟨z, its, n, r, e⟩ := I.hok p _ h
  exact ⟨its, n, r, e, z⟩
def rSetL : V → V → V → Hp → (Hp → Prop) → Prop := fun o i v H Q => ∃ p xs k j, o = .ref p ∧ i = .int k ∧ H p = some (.lst xs) ∧ ixN xs.length k = some j ∧ Q (upd H p (.lst (xs.set j v)))
def rSlL (K : PySem.W.Frag) : V → Option Int → Option Int → Hp → VK → Prop := fun x lo hi H Q => ∃ a xs, x = .ref a ∧ SqL K H a xs ∧ ∀ p, H p = none → Q (.ref p) (upd H p (.lst (cutV xs lo hi)))
def flatV : V → Bool
  | .non => true
  | .bl _ => true
  | .int _ => true
  | .str _ => true
  | _ => false
def eqV : V → V → Bool
  | .non, .non => true
  | .bl a, .bl b => a == b
  | .bl a, .int b => (if a then 1 else 0) == b
  | .int a, .bl b => a == (if b then 1 else 0)
  | .int a, .int b => a == b
  | .str a, .str b => a == b
  | _, _ => false
def eqU (x : V) (u : Value) : Bool := match u with
  | .none => eqV .non x
  | .bool b => eqV (.bl b) x
  | .int i _ => eqV (.int i) x
  | .str z _ => eqV (.str z) x
  | _ => false
def inV (x : V) (xs : List V) : Bool := xs.any fun y => eqV y x
def rIn (K : PySem.W.Frag) (neg : Bool) : R2 := fun x y H Q => ∃ p xs, y = .ref p ∧ (SqL K H p xs ∨ SqT K H p xs) ∧ flatV x = true ∧ xs.all flatV = true ∧ Q (.bl (if neg then !inV x xs else inV x xs)) H
theorem call_len_seq : CallR X (.builtin "len") (fun xs H Q => ∃ p ys, xs = [.ref p] ∧ (SqL X.K H p ys ∨ SqT X.K H p ys) ∧ Q (.int ys.length) H) := by
  intro pins s σ H xs us Q I r h
  obtain ⟨p, ys, rfl, hq, q⟩ := h
  obtain ⟨u, rfl, rx⟩ := vals1 r
  cases rx
  have hn := line63
  rcases hq with hq | hq
  · obtain ⟨its, r', pl, hz⟩ := I.list hq
    have hlen := r'.length
    exact Calls.call_len_list pl.isList (by simp only [List.size_toArray] <;> omega) ⟨.int ys.length, H, I.tok _, ⟨s.toks + 1, by rw [List.size_toArray, hlen]⟩, q⟩
  · obtain ⟨its, r', pl, hz⟩ := I.tuple hq
    have hlen := r'.length
    exact len_tuple pl (by simp only [List.size_toArray] <;> omega) ⟨.int ys.length, H, I.tok _, ⟨s.toks + 1, by rw [List.size_toArray, hlen]⟩, q⟩
theorem call_len_str : CallR X (.builtin "len") (fun xs H Q => ∃ z, xs = [.str z] ∧ z.length ≤ sizeLine ∧ Q (.int z.length) H) := by
  intro pins s σ H xs us Q I r h
  obtain ⟨z, rfl, hz, q⟩ := h
  obtain ⟨u, rfl, t, rfl⟩ := vals1 r
  have hn := line63
  exact len_str (by omega) ⟨.int z.length, H, I.tok _, ⟨_, rfl⟩, q⟩
theorem CallR.or {f : Value} {r r' : List V → Hp → VK → Prop} (h : CallR X f r) (h' : CallR X f r') : CallR X f (fun xs H Q => r xs H Q ∨ r' xs H Q) := by
  intro pins s σ H xs us Q I rs q
  rcases q with q | q
  · exact h pins s σ H xs us Q I rs q
  · exact h' pins s σ H xs us Q I rs q
def tyV (K : PySem.W.Frag) (T : String) (x : V) (H : Hp) : Prop := match x with
  | .str _ => T = "str"
  | .int _ => T = "int"
  | .ref p => (T = "list" ∧ ∃ xs, SqL K H p xs) ∨ (T = "tuple" ∧ ∃ o, K.lookup p = some o ∧ o.cls = .type "tuple" ∧ o.dict = none) ∨
      (T = "dict" ∧ ((∃ kvs, H p = some (.dK kvs)) ∨ ∃ kvs, H p = some (.dT kvs))) ∨ (T = "set" ∧ ∃ S n, H p = some (.set S n))
  | _ => False
theorem tyV_is {pins : List (Addr × Obj)} {σ : St} {H : Hp} {s : Shared} {T : String} {x : V} {v : Value} (I : Inv X pins σ H s) (r : RelV x v) (ty : tyV X.K T x H) :
    s.TypeIs v T ∧ ∀ a, v = .ref a → ∃ ob, s.heap.get? a = some ob ∧ ob.dict = none := by
  cases x with
  | str z =>
    obtain ⟨t, rfl⟩ := r
    cases (show T = "str" from ty)
    exact ⟨typeIs_str s z t, fun _ e => nomatch e⟩
  | int i =>
    obtain ⟨t, rfl⟩ := r
    cases (show T = "int" from ty)
    exact ⟨typeIs_int s i t, fun _ e => nomatch e⟩
  | ref p =>
    cases r
    rcases ty with ⟨rfl, xs, hq⟩ | ⟨rfl, o, hk, hc, hd⟩ | ⟨rfl, hk⟩ | ⟨rfl, S, n, hk⟩
    · obtain ⟨its, _, pl, _⟩ := I.list hq
      refine ⟨pl.isList.typeIs, fun a e => ?_⟩
      cases e
      obtain ⟨o, n, e, c, hd, _⟩ := pl
      exact ⟨o, e, hd⟩
    · refine ⟨⟨o, I.kIn p o hk, hc⟩, fun a e => ?_⟩
      cases e
      exact ⟨o, I.kIn _ o hk, hd⟩
    · have z : ∃ o, s.heap.get? p = some o ∧ o.ExactDict := by
        rcases hk with ⟨kvs, hk⟩ | ⟨kvs, hk⟩
        · obtain ⟨_, _, _, _, o, _, _, e, ex, _⟩ := I.hok p _ hk
          exact ⟨o, e, ex⟩
        · obtain ⟨_, _, _, _, o, _, _, e, ex, _⟩ := I.hok p _ hk
          exact ⟨o, e, ex⟩
      obtain ⟨o, e, ex⟩ := z
      refine ⟨⟨o, e, ex.1⟩, fun a e2 => ?_⟩
      cases e2
      exact ⟨o, e, ex.2.1⟩
    · obtain ⟨o, _, _, _, e, ex, _⟩ := I.hok p _ hk
      refine ⟨⟨o, e, ex.1⟩, fun a e2 => ?_⟩
      cases e2
      exact ⟨o, e, ex.2.1⟩
  | _ => exact False.elim ty
def tBM0 (K : PySem.W.Frag) (T : String) (r : V → List V → Hp → VK → Prop) (to : TE) : TE := fun σ H Q => to σ H fun x H1 => tyV K T x H1 ∧ r x [] H1 Q
def tBM (K : PySem.W.Frag) (T : String) (r : V → List V → Hp → VK → Prop) (to : TE) (t : TA) : TE := fun σ H Q => to σ H fun x H1 => tyV K T x H1 ∧ t σ H1 fun xs H2 => r x xs H2 Q
variable {o e : Expr} {es : List Expr} {to : TE} {t : TA} {name : Str} {apos cpos : Pos} {T id : String} {r : V → List V → Hp → VK → Prop}
theorem pe_bm (pa : PlainAttrs T) (slot : Slot T name id) (hty : typeOf (.builtin id) = pure (.type "method_descriptor")) (hm : MtR X id r) (ho : PE X o to) (ha : PA X (e :: es) t)
    (hbase : attributeBase o name X.env (eval o X.env) = eval o X.env := by rfl)
    (hfew : ((backTo cpos (starEach (e :: es) X.env)).all (fun x => !x.1) && (backToKw cpos (keywordEach [] X.env)).all (fun x => x.1.isSome)
      && decide ((e :: es).length + ([] : List Keyword).length + (if ([] : List Keyword).isEmpty then 0 else 1) < 30)) = true := by rfl)
    (hline : (apos.endLine == cpos.line) = true := by rfl) (hs : starEach (e :: es) X.env = (false, eval e X.env) :: starEach es X.env := by rfl) (hplain : (backTo cpos (starEach es X.env)).any (·.1) = false := by rfl) :
    PE X (.Call (.Attribute o name apos) (e :: es) [] cpos) (tBM X.K T r to t) := by
  intro pins s σ H Q I h
  refine wpAny_Call_method_late hbase hfew hline rfl (thn (ho pins s σ H _ I h) fun v s1 ⟨x, H1, I1, r1, ty, q1⟩ => ?_)
  obtain ⟨h1, h2⟩ := tyV_is I1 r1 ty
  refine ⟨T, id, pa, slot, hty, h1, h2, ?_⟩
  have hA := ha cpos pins s1 σ H1 _ I1 q1
  rw [hs] at hA ⊢
  refine Calls.callWith_builtin (by show (false || (backTo cpos (starEach es X.env)).any (·.1)) = false; rw [hplain] <;> rfl) (Calls.evalArgs_plain ?_)
  exact thn hA fun us s2 ⟨vs, H2, I2, r2, q2⟩ => hm pins s2 σ H2 x vs v us Q I2 r1 r2 q2
end
end L2
namespace L2
open PySem PySem.Spec PyProof.Rows
def MtM (X : Cx) (id : String) (r : V → List V → Hp → VK → Prop) : Prop :=
  ∀ (pins : List (Addr × Obj)) (s : Shared) (σ : St) (H : Hp) (x : V) (xs : List V) (v : Value) (us : List Value) (Q : VK), Inv X pins σ H s → RelV x v → Vals xs us → r x xs H Q →
    wpAny (model X.prog X.w) X.A (call (.builtin id) (v :: us)) (EP X pins σ Q) X.xe s
theorem Vals.one : ∀ {x : V} {us : List Value}, Vals [x] us → ∃ u, us = [u] ∧ RelV x u
  | _, _, .cons r .nil => ⟨_, rfl, r⟩
theorem Vals.zero : ∀ {us : List Value}, Vals [] us → us = []
  | _, .nil => rfl
theorem Vals.dropLast {xs : List V} {us : List Value} (h : Vals xs us) : Vals xs.dropLast us.dropLast := by
  induction h with
  | nil => exact .nil
  | cons r t ih =>
    cases t with
    | nil => exact .nil
    | cons q t' => exact .cons r ih
theorem Vals.eraseIdx : ∀ {xs : List V} {us : List Value} (i : Nat), Vals xs us → Vals (xs.eraseIdx i) (us.eraseIdx i)
  | _, _, _, .nil => .nil
  | _, _, 0, .cons _ t => t
  | _, _, i + 1, .cons r t => .cons r (Vals.eraseIdx i t)
theorem Vals.reverse {xs : List V} {us : List Value} (h : Vals xs us) : Vals xs.reverse us.reverse := by
  induction h with
  | nil => exact .nil
  | cons r t ih => rw [List.reverse_cons, List.reverse_cons]; exact Vals.append ih (.cons r .nil)
section
variable {X : Cx} {pins : List (Addr × Obj)} {σ : St} {H : Hp} {s : Shared} {l b : Addr} {xs ys zs : List V}
theorem Inv.lset {its its' : List Value} {n : Nat} {f : Array Value → Array Value} {t' : Nat} (I : Inv X pins σ H s) (hH : H l = some (.lst xs))
    (e : s.heap.get? l = some { cls := .type "list", data := .seq its.toArray n }) (hf : f its.toArray = its'.toArray) (hv : Vals ys its') (hz : ys.length ≤ sizeLine) :
    Inv X pins σ (upd H l (.lst ys)) { s with heap := s.heap.update l (Obj.mapSeq f), toks := t' } := by
  have q := PySem.IsL.update e f
  rw [hf] at q
  refine I.write (x := l) (e := l) (by rw [hH]; exact trivial) (.inl rfl) (fun b' u hb hu => (Heap.get?_update_other s.heap (Obj.mapSeq f) (Ne.symm hb)).trans hu) ⟨_, q⟩ ?_
  exact ⟨hz, its', _, hv, q⟩
theorem Inv.lnew {its : List Value} {t' : Nat} (I : Inv X pins σ H s) (hv : Vals ys its) (hz : ys.length ≤ sizeLine) :
    Inv X pins σ (upd H s.heap.objs.size (.lst ys)) { s with heap := s.heap.push { cls := .type "list", data := .seq its.toArray }, toks := t' } :=
  I.laid (fun _ _ q => Heap.get?_push_of_some _ q) (Nat.le_refl _) ⟨hz, its, 0, hv, Heap.get?_push_size _ rfl⟩
theorem Inv.fresh (I : Inv X pins σ H s) : H s.heap.objs.size = none := I.hok.fresh (Nat.le_refl _)
theorem Inv.lstM (I : Inv X pins σ H s) (hH : H l = some (.lst xs)) : xs.length ≤ sizeLine ∧ ∃ (its : List Value) (n : Nat), Vals xs its ∧ xs.length = its.length ∧ s.heap.get? l = some { cls := .type "list", data := .seq its.toArray n } := by
  obtain ⟨z, its, n, r, e⟩ := I.hok l _ hH
  exact ⟨z, its, n, r, r.length, e⟩
theorem notLongL {n : Nat} (h : n ≤ sizeLine) : Builtin.List.listTooLong n = false := by
  unfold Builtin.List.listTooLong
  exact decide_eq_false (by omega)
end
section
variable {X : Cx}
def rAppend : V → List V → Hp → VK → Prop := fun x vs H Q => ∃ l xs y, x = .ref l ∧ vs = [y] ∧ H l = some (.lst xs) ∧ xs.length < sizeLine ∧ Q .non (upd H l (.lst (xs ++ [y])))
theorem mt_append : MtM X "list.append" rAppend := by
  intro pins s σ H x vs v us Q I rx rv h
  obtain ⟨l, xs, y, rfl, rfl, hH, hz, q⟩ := h
  cases rx
  obtain ⟨u, rfl, ru⟩ := rv.one
  obtain ⟨z, its, n, r, hl, e⟩ := I.lstM hH
  refine call_meets F.slot_list_append ⟨_, e, rfl⟩ F.entry_list_append (F.args_list_append_2 _ _) (PySem.list_append l its.toArray n u (by rw [List.size_toArray]; omega)) ⟨e, ?_⟩
  refine ⟨.non, _, I.lset (its' := its ++ [u]) hH e (by simp) (r.append (.cons ru .nil)) ?_, rfl, q⟩
  rw [List.length_append, List.length_singleton]
  omega
def rExtend : V → List V → Hp → VK → Prop := fun x vs H Q => ∃ l b xs zs, x = .ref l ∧ vs = [.ref b] ∧ H l = some (.lst xs) ∧ H b = some (.lst zs) ∧ xs.length + zs.length ≤ sizeLine ∧ Q .non (upd H l (.lst (xs ++ zs)))
theorem mt_extend : MtM X "list.extend" rExtend := by
  intro pins s σ H x vs v us Q I rx rv h
  obtain ⟨l, b, xs, zs, rfl, rfl, hH, hB, hz, q⟩ := h
  cases rx
  obtain ⟨u, rfl, ru⟩ := rv.one
  cases ru
  obtain ⟨z, its, n, r, hl, e⟩ := I.lstM hH
  obtain ⟨z2, its2, n2, r2, hl2, e2⟩ := I.lstM hB
  have hsz : its.toArray.size + its2.toArray.size ≤ sizeLine := by rw [List.size_toArray, List.size_toArray]; omega
  have hlong : ¬ (!its.toArray.isEmpty && Builtin.List.listTooLong (its.toArray.size + its2.toArray.size)) = true := by
    rw [notLongL hsz, Bool.and_false]
    exact Bool.false_ne_true
  refine call_meets F.slot_list_extend ⟨_, e, rfl⟩ F.entry_list_extend (F.args_list_extend_2 _ _)
    (AutoSeq1.list_extend_list_list_0 l its.toArray n b its2.toArray n2 hlong (by rw [List.size_toArray]; omega) (by omega)) ⟨e, e2, ?_⟩
  refine ⟨.non, _, I.lset (its' := its ++ its2) hH e (by simp) (r.append r2) ?_, rfl, q⟩
  rw [List.length_append]
  omega
def rPop : V → List V → Hp → VK → Prop := fun x vs H Q => ∃ l xs y, x = .ref l ∧ vs = [] ∧ H l = some (.lst xs) ∧ xs[xs.length - 1]? = some y ∧ Q y (upd H l (.lst xs.dropLast))
def rPopAt : V → List V → Hp → VK → Prop := fun x vs H Q => ∃ l xs i k y, x = .ref l ∧ vs = [.int i] ∧ H l = some (.lst xs) ∧ -(2 ^ 63) ≤ i ∧ i < 2 ^ 63 ∧ seqIndex? i xs.length = some k ∧ xs[k]? = some y ∧ Q y (upd H l (.lst (xs.eraseIdx k)))
def rReverse : V → List V → Hp → VK → Prop := fun x vs H Q => ∃ l xs, x = .ref l ∧ vs = [] ∧ H l = some (.lst xs) ∧ Q .non (upd H l (.lst xs.reverse))
def rClear : V → List V → Hp → VK → Prop := fun x vs H Q => ∃ l xs, x = .ref l ∧ vs = [] ∧ H l = some (.lst xs) ∧ Q .non (upd H l (.lst []))
def rCat : R2 := fun x y H Q => ∃ l b xs zs, x = .ref l ∧ y = .ref b ∧ H l = some (.lst xs) ∧ H b = some (.lst zs) ∧ xs.length + zs.length ≤ sizeLine ∧ ∀ p, H p = none → Q (.ref p) (upd H p (.lst (xs ++ zs)))
theorem op_cat : OpR X (binaryOp .Add) rCat := by
  intro pins s σ H x y v u Q I rx ry h
  obtain ⟨l, b, xs, zs, rfl, rfl, hH, hB, hz, q⟩ := h
  cases rx
  cases ry
  obtain ⟨z, its, n, r, hl, e⟩ := I.lstM hH
  obtain ⟨z2, its2, n2, r2, hl2, e2⟩ := I.lstM hB
  refine PySem.P.add_list e e2 ?_ (by rw [List.size_toArray, List.size_toArray]; omega)
  have ea : its.toArray ++ its2.toArray = (its ++ its2).toArray := by simp
  rw [ea]
  exact ⟨.ref _, _, I.lnew (t' := s.toks) (r.append r2) (by rw [List.length_append]; omega), rfl, q _ I.fresh⟩
def rRep : R2 := fun x y H Q => ∃ l k xs, x = .ref l ∧ y = .int k ∧ H l = some (.lst xs) ∧ -(2 ^ 63) ≤ k ∧ k < 2 ^ 63 ∧ xs.length * k.toNat ≤ sizeLine ∧
  ∀ p, H p = none → Q (.ref p) (upd H p (.lst (List.replicate k.toNat xs).flatten))
end
section
variable {prog : Program} {w : World} {A : Around} {E : Value → Shared → Prop} {s : Shared}
set_option maxRecDepth 100000 in
end
section
variable {X : Cx}
end
end L2
namespace L2
open PySem PySem.Spec PyProof.Rows
section
variable {κ : Type} [DecidableEq κ]
def valV (kvs : List (κ × V)) (k : κ) : Option V := (kvs.find? fun kv => decide (kv.1 = k)).map (·.2)
def putK (kvs : List (κ × V)) (k : κ) (v : V) : List (κ × V) :=
  if (kvs.any fun kv => decide (kv.1 = k)) = true then kvs.map (fun kv => if kv.1 = k then (kv.1, v) else kv) else kvs ++ [(k, v)]
def dropK (kvs : List (κ × V)) (k : κ) : List (κ × V) := kvs.filter fun kv => decide (kv.1 ≠ k)
theorem valV_pos {p : κ × V} {r : List (κ × V)} {k : κ} (e : p.1 = k) : valV (p :: r) k = some p.2 := by simp [valV, List.find?_cons, e]
theorem valV_neg {p : κ × V} {r : List (κ × V)} {k : κ} (e : ¬ p.1 = k) : valV (p :: r) k = valV r k := by simp [valV, List.find?_cons, e]
theorem valV_any (k : κ) : ∀ kvs : List (κ × V), (kvs.any fun kv => decide (kv.1 = k)) = (valV kvs k).isSome
  | [] => rfl
  | p :: r => by
    rw [List.any_cons]
    by_cases e : p.1 = k
    · simp only [valV_pos e, decide_eq_true e, Bool.true_or, Option.isSome_some]
    · rw [valV_neg e, decide_eq_false e, Bool.false_or]; exact valV_any k r
theorem RelO.isSome_eq {o : Option V} {u : Option Value} (r : RelO o u) : o.isSome = u.isSome := by
  cases o with
  | none => cases u with
    | none => rfl
    | some _ => exact (show False from r).elim
  | some _ => cases u with
    | none => exact (show False from r).elim
    | some _ => rfl
theorem RelO.getD {o : Option V} {u : Option Value} {d : V} {d' : Value} (r : RelO o u) (rd : RelV d d') : RelV (o.getD d) (u.getD d') := by
  cases o with
  | none => cases u with
    | none => exact rd
    | some _ => exact (show False from r).elim
  | some _ => cases u with
    | none => exact (show False from r).elim
    | some _ => exact r
theorem KV.val {kvs : List (κ × V)} {vs : List (κ × Value)} (r : KV kvs vs) (k : κ) : RelO (valV kvs k) (valueAt vs k) := by
  unfold KV at r
  induction r with
  | nil => exact True.intro
  | @cons p q ps qs h t ih =>
    obtain ⟨h1, h2⟩ := h
    by_cases e : p.1 = k
    · have e' : q.1 = k := h1.symm.trans e
      have b : valueAt (q :: qs) k = some q.2 := by simp [valueAt, List.find?_cons, e']
      rw [valV_pos e, b]; exact h2
    · have e' : ¬ q.1 = k := fun z => e (h1.trans z)
      have b : valueAt (q :: qs) k = valueAt qs k := by simp [valueAt, List.find?_cons, e']
      rw [valV_neg e, b]; exact ih
theorem KV.any {kvs : List (κ × V)} {vs : List (κ × Value)} (r : KV kvs vs) (k : κ) : (kvs.any fun kv => decide (kv.1 = k)) = vs.any fun kv => decide (kv.1 = k) := by
  unfold KV at r
  induction r with
  | nil => rfl
  | cons h t ih => rw [List.any_cons, List.any_cons, ih, h.1]
theorem KV.repl {kvs : List (κ × V)} {vs : List (κ × Value)} (r : KV kvs vs) (k : κ) {y : V} {u : Value} (ry : RelV y u) :
    KV (kvs.map fun kv => if kv.1 = k then (kv.1, y) else kv) (vs.map fun kv => if kv.1 = k then (kv.1, u) else kv) := by
  unfold KV at r ⊢
  induction r with
  | nil => exact .nil
  | @cons p q ps qs h t ih =>
    rw [List.map_cons, List.map_cons]
    refine .cons ?_ ih
    obtain ⟨h1, h2⟩ := h
    by_cases e : p.1 = k
    · rw [if_pos e, if_pos (h1.symm.trans e)]; exact ⟨h1, ry⟩
    · rw [if_neg e, if_neg (fun z => e (h1.trans z))]; exact ⟨h1, h2⟩
theorem KV.put {kvs : List (κ × V)} {vs : List (κ × Value)} (r : KV kvs vs) (k : κ) {y : V} {u : Value} (ry : RelV y u) : KV (putK kvs k y) (stored vs k u) := by
  unfold putK stored
  rw [r.any k]
  by_cases e : (vs.any fun kv => decide (kv.1 = k)) = true
  · rw [if_pos e, if_pos e]; exact r.repl k ry
  · rw [if_neg e, if_neg e]; exact Paired.snoc r ⟨rfl, ry⟩
theorem KV.drop {kvs : List (κ × V)} {vs : List (κ × Value)} (r : KV kvs vs) (k : κ) : KV (dropK kvs k) (without vs k) := by
  unfold KV at r ⊢
  unfold dropK without
  induction r with
  | nil => exact .nil
  | @cons p q ps qs h t ih =>
    obtain ⟨h1, h2⟩ := h
    rw [List.filter_cons, List.filter_cons]
    by_cases e : p.1 = k
    · have a : ¬ decide (p.1 ≠ k) = true := by simp [e]
      have b : ¬ decide (q.1 ≠ k) = true := by simp [h1.symm.trans e]
      rw [if_neg a, if_neg b]; exact ih
    · have e' : ¬ q.1 = k := fun z => e (h1.trans z)
      have a : decide (p.1 ≠ k) = true := by simp [e]
      have b : decide (q.1 ≠ k) = true := by simp [e']
      rw [if_pos a, if_pos b]; exact .cons ⟨h1, h2⟩ ih
theorem KV.keys {kvs : List (κ × V)} {vs : List (κ × Value)} (r : KV kvs vs) : kvs.map (·.1) = vs.map (·.1) := by
  unfold KV at r
  induction r with
  | nil => rfl
  | cons h t ih => rw [List.map_cons, List.map_cons, ih, h.1]
theorem KV.length {kvs : List (κ × V)} {vs : List (κ × Value)} (r : KV kvs vs) : kvs.length = vs.length := Paired.length r
end
abbrev KT (H : Hp) : List (List Key × V) → List (List Key × Addr × Value) → Prop := Paired fun p q => p.1 = q.1 ∧ H q.2.1 = some (.tup (p.1.map kV)) ∧ RelV p.2 q.2.2
theorem KT.val {H : Hp} {kvs : List (List Key × V)} {xs : List (List Key × Addr × Value)} (r : KT H kvs xs) (k : List Key) : RelO (valV kvs k) ((atKey xs k).map (·.2)) := by
  induction r with
  | nil => exact True.intro
  | @cons p q ps qs h t ih =>
    obtain ⟨h1, _, h2⟩ := h
    by_cases e : p.1 = k
    · have e' : q.1 = k := h1.symm.trans e
      have b : atKey (q :: qs) k = some q.2 := by simp [atKey, List.find?_cons, e']
      rw [valV_pos e, b]; exact h2
    · have e' : ¬ q.1 = k := fun z => e (h1.trans z)
      have b : atKey (q :: qs) k = atKey qs k := by simp [atKey, List.find?_cons, e']
      rw [valV_neg e, b]; exact ih
theorem KT.repl {H : Hp} {kvs : List (List Key × V)} {xs : List (List Key × Addr × Value)} (r : KT H kvs xs) (k : List Key) {y : V} {u : Value} (ry : RelV y u) :
    KT H (kvs.map fun kv => if kv.1 = k then (kv.1, y) else kv) (xs.map (putAt k u)) := by
  induction r with
  | nil => exact .nil
  | @cons p q ps qs h t ih =>
    rw [List.map_cons, List.map_cons]
    refine .cons ?_ ih
    obtain ⟨h1, h2, h3⟩ := h
    unfold putAt
    by_cases e : p.1 = k
    · rw [if_pos e, if_pos (h1.symm.trans e)]; exact ⟨h1, h2, ry⟩
    · rw [if_neg e, if_neg (fun z => e (h1.trans z))]; exact ⟨h1, h2, h3⟩
theorem KT.put {H : Hp} {kvs : List (List Key × V)} {xs : List (List Key × Addr × Value)} (r : KT H kvs xs) (k : List Key) {b : Addr} {y : V} {u : Value} (hb : H b = some (.tup (k.map kV))) (ry : RelV y u) :
    KT H (putK kvs k y) (storedH xs k b u) := by
  have e : (kvs.any fun kv => decide (kv.1 = k)) = (atKey xs k).isSome := by
    rw [valV_any, (r.val k).isSome_eq, Option.isSome_map]
  unfold putK storedH
  rw [e]
  by_cases q : (atKey xs k).isSome = true
  · rw [if_pos q, if_pos q]; exact r.repl k ry
  · rw [if_neg q, if_neg q]; exact Paired.snoc r ⟨rfl, hb, ry⟩
theorem KT.keeps {H H' : Hp} {kvs : List (List Key × V)} {xs : List (List Key × Addr × Value)} (r : KT H kvs xs) (ht : ∀ b ys, H b = some (.tup ys) → H' b = some (.tup ys)) : KT H' kvs xs :=
  Paired.mapP r fun _ _ z => ⟨z.1, ht _ _ z.2.1, z.2.2⟩
section
variable {P : Program} {w : World} {H : Hp} {h : Heap} {a : Addr}
end
def DGet (H : Hp) (a : Addr) (y : V) (r : Option V) : Prop :=
  (∃ kvs k, Rd H a (.dK kvs) ∧ y = kV k ∧ r = valV kvs k) ∨ ∃ kvs k b, Rd H a (.dT kvs) ∧ y = .ref b ∧ H b = some (.tup (k.map kV)) ∧ r = valV kvs k
def DPut (H : Hp) (a : Addr) (y v : V) (H' : Hp) : Prop :=
  (∃ kvs k, H a = some (.dK kvs) ∧ y = kV k ∧ kvs.length < sizeLine ∧ H' = upd H a (.dK (putK kvs k v))) ∨
  ∃ kvs k b, H a = some (.dT kvs) ∧ y = .ref b ∧ H b = some (.tup (k.map kV)) ∧ kvs.length < sizeLine ∧ H' = upd H a (.dT (putK kvs k v))
theorem DGet.k {H : Hp} {a : Addr} {kvs : List (Key × V)} {k : Key} (e : H a = some (.dK kvs)) : DGet H a (kV k) (valV kvs k) := .inl ⟨kvs, k, .inl e, rfl, rfl⟩
theorem DGet.t {H : Hp} {a b : Addr} {kvs : List (List Key × V)} {k : List Key} (e : H a = some (.dT kvs)) (eb : H b = some (.tup (k.map kV))) : DGet H a (.ref b) (valV kvs k) := .inr ⟨kvs, k, b, .inl e, rfl, eb, rfl⟩
theorem DPut.k {H : Hp} {a : Addr} {kvs : List (Key × V)} {k : Key} {v : V} (e : H a = some (.dK kvs)) (hl : kvs.length < sizeLine) : DPut H a (kV k) v (upd H a (.dK (putK kvs k v))) := .inl ⟨kvs, k, e, rfl, hl, rfl⟩
theorem DPut.t {H : Hp} {a b : Addr} {kvs : List (List Key × V)} {k : List Key} {v : V} (e : H a = some (.dT kvs)) (eb : H b = some (.tup (k.map kV))) (hl : kvs.length < sizeLine) :
    DPut H a (.ref b) v (upd H a (.dT (putK kvs k v))) := .inr ⟨kvs, k, b, e, rfl, eb, hl, rfl⟩
section
variable {X : Cx} {pins : List (Addr × Obj)} {σ : St} {H : Hp} {s : Shared} {a : Addr} {y v : V} {u r : Value} {o : Option V} {A : Around} {E : Value → Shared → Prop}
end
section
variable {X : Cx} {pins : List (Addr × Obj)} {σ : St} {H : Hp} {s : Shared} {a : Addr} {kvs : List (Key × V)} {k : Key} {u : Value} {A : Around} {E : Value → Shared → Prop}
end
def NoSl (i : Expr) : Prop := ∀ ov iv, subscripted i false ov iv = operate [ov, iv] (getItem ov iv)
def tDGet (td ty : TE) : TE := fun σ H Q => td σ H fun x H1 => ty σ H1 fun y H2 => ∃ a v, x = .ref a ∧ DGet H2 a y (some v) ∧ Q v H2
def tDIn (ty td : TE) : TE := fun σ H Q => ty σ H fun y H1 => td σ H1 fun x H2 => ∃ a o, x = .ref a ∧ DGet H2 a y o ∧ Q (.bl o.isSome) H2
def tDNotIn (ty td : TE) : TE := fun σ H Q => ty σ H fun y H1 => td σ H1 fun x H2 => ∃ a o, x = .ref a ∧ DGet H2 a y o ∧ Q (.bl (!o.isSome)) H2
def sDPut (td ty tv : TE) : TS := fun D σ H => tv σ H fun v H1 => td σ H1 fun x H2 => ty σ H2 fun y H3 => ∃ a H4, x = .ref a ∧ DPut H3 a y v H4 ∧ D.nx σ H4
def sDAug (td ty tv : TE) (rd : V → V → Hp → VK → Prop) : TS := fun D σ H => td σ H fun x H1 => ty σ H1 fun y H2 => ∃ a v, x = .ref a ∧ DGet H2 a y (some v) ∧
  tv σ H2 fun y2 H3 => rd v y2 H3 fun z H4 => ∃ H5, DPut H4 a y z H5 ∧ D.nx σ H5
def sDDel (td ty : TE) : TS := fun D σ H => td σ H fun x H1 => ty σ H1 fun y H2 => ∃ a kvs k, x = .ref a ∧ H2 a = some (.dK kvs) ∧ y = kV k ∧ (valV kvs k).isSome = true ∧ D.nx σ (upd H2 a (.dK (dropK kvs k)))
section
variable {X : Cx} {o i e value : Expr} {pos pos' tpos : Pos} {td ty tv : TE}
end
def tDNewK : TE := fun _ H Q => ∀ p, H p = none → Q (.ref p) (upd H p (.dK []))
def tDNewT : TE := fun _ H Q => ∀ p, H p = none → Q (.ref p) (upd H p (.dT []))
section
variable {X : Cx} {pos : Pos}
end
def tPairs : List (TE × TE) → St → Hp → (List (V × V) → Hp → Prop) → Prop
  | [], _, H, Q => Q [] H
  | (tk, tv) :: r, σ, H, Q => tk σ H fun x H1 => tv σ H1 fun y H2 => tPairs r σ H2 fun ps H3 => Q ((x, y) :: ps) H3
abbrev VV : List (V × V) → List (Value × Value) → Prop := Paired fun p q => RelV p.1 q.1 ∧ RelV p.2 q.2
def PPs (X : Cx) (pos : Pos) (keys : List (Option Expr)) (values : List Expr) (trs : List (TE × TE)) : Prop :=
  ∀ (pins : List (Addr × Obj)) (s : Shared) (σ : St) (H : Hp) (Q : List (V × V) → Hp → Prop), Inv X pins σ H s → tPairs trs σ H Q →
    wpAny (model X.prog X.w) X.A (evalPairs (pairTrees keys values X.env pos)) (fun vs s' => ∃ ps H', Inv X pins σ H' s' ∧ VV ps vs ∧ Q ps H') X.xe s
def mergeK (kvs more : List (Key × V)) : List (Key × V) := more.foldl (fun acc kv => putK acc kv.1 kv.2) kvs
def tDisp (trs : List (TE × TE)) : TE := fun σ H Q => ∀ p, H p = none → tPairs trs σ (upd H p (.dK [])) fun ps H2 => H2 p = some (.dK []) ∧ ∃ kvs : List (Key × V), ps = kvs.map (fun kv => (kV kv.1, kv.2)) ∧ kvs.length ≤ 15 ∧ Q (.ref p) (upd H2 p (.dK (mergeK [] kvs)))
structure M1 (X : Cx) (o : Expr) (m : Str) (apos : Pos) (e : Expr) (cpos : Pos) : Prop where
  base : attributeBase o m X.env (eval o X.env) = eval o X.env
  few : ((backTo cpos (starEach [e] X.env)).all (fun x => !x.1) && (backToKw cpos (keywordEach [] X.env)).all (fun x => x.1.isSome)
    && decide (([e] : List Expr).length + ([] : List Keyword).length + (if ([] : List Keyword).isEmpty then 0 else 1) < 30)) = true
  line : (apos.endLine == cpos.line) = true
  trees : backTo cpos (starEach [e] X.env) = [(false, eval e X.env)]
structure M2 (X : Cx) (o : Expr) (m : Str) (apos : Pos) (e f : Expr) (cpos : Pos) : Prop where
  base : attributeBase o m X.env (eval o X.env) = eval o X.env
  few : ((backTo cpos (starEach [e, f] X.env)).all (fun x => !x.1) && (backToKw cpos (keywordEach [] X.env)).all (fun x => x.1.isSome)
    && decide (([e, f] : List Expr).length + ([] : List Keyword).length + (if ([] : List Keyword).isEmpty then 0 else 1) < 30)) = true
  line : (apos.endLine == cpos.line) = true
  trees : backTo cpos (starEach [e, f] X.env) = [(false, eval e X.env), (false, eval f X.env)]
def IsD (H : Hp) (a : Addr) : Prop := (∃ kvs, Rd H a (.dK kvs)) ∨ ∃ kvs, Rd H a (.dT kvs)
section
variable {X : Cx} {pins : List (Addr × Obj)} {σ : St} {H : Hp} {s : Shared} {a : Addr} {y d : V} {u r : Value} {o : Option V} {A : Around} {E : Value → Shared → Prop}
end
def tDGet1 (td ty : TE) : TE := fun σ H Q => td σ H fun x H1 => ∃ a, x = .ref a ∧ IsD H1 a ∧ ty σ H1 fun y H2 => ∃ o, DGet H2 a y o ∧ Q (o.getD .non) H2
def tDGet2 (td ty tx : TE) : TE := fun σ H Q => td σ H fun x H1 => ∃ a, x = .ref a ∧ IsD H1 a ∧ ty σ H1 fun y H2 => tx σ H2 fun z H3 => ∃ o, DGet H3 a y o ∧ Q (o.getD z) H3
def tDPop1 (td ty : TE) : TE := fun σ H Q => td σ H fun x H1 => ∃ a, x = .ref a ∧ IsD H1 a ∧ ty σ H1 fun y H2 => ∃ kvs k v, H2 a = some (.dK kvs) ∧ y = kV k ∧ valV kvs k = some v ∧ Q v (upd H2 a (.dK (dropK kvs k)))
def tDPop2 (td ty tx : TE) : TE := fun σ H Q => td σ H fun x H1 => ∃ a, x = .ref a ∧ IsD H1 a ∧ ty σ H1 fun y H2 => tx σ H2 fun z H3 => ∃ kvs k, H3 a = some (.dK kvs) ∧ y = kV k ∧
  (∀ v, valV kvs k = some v → Q v (upd H3 a (.dK (dropK kvs k)))) ∧ (valV kvs k = none → Q z H3)
section
variable {X : Cx} {o e f : Expr} {apos cpos : Pos} {td ty tx : TE}
end
section
variable {X : Cx} {pins : List (Addr × Obj)} {σ : St} {H : Hp} {s : Shared} {a : Addr} {kvs : List (Key × V)} {A : Around} {E : Value → Shared → Prop}
end
section
variable {X : Cx} {pins : List (Addr × Obj)} {σ : St} {H : Hp} {s : Shared} {a : Addr} {y : V} {u : Value} {A : Around} {E : Value → Shared → Prop}
end
end L2
namespace Att
open PySem PySem.W PySem.Calls PyProof.Rows
theorem ints_of_wellAll {P : Params} {h : Heap} : ∀ (ns : List Int) (vs : List Value), WellAll P h vs (ns.map WData.int) → IntsAre vs ns := by
  intro ns
  induction ns with
  | nil =>
    intro vs w
    rw [List.map_nil] at w
    cases w
    exact .nil
  | cons n ns ih =>
    intro vs w
    rw [List.map_cons] at w
    cases w with
    | cons a b =>
      cases a
      exact .cons _ _ (ih _ b)
theorem script_of {l : OpenLaw} {n : Nat} (hn : l.most = some n) {P : Params} {h : Heap} {args : List WData} {vals : List Value}
    (hpre : l.row.toRowW.claim.pre args = true) (hwl : WellAll P h vals args) :
    ∃ a vs ns, vals = [Value.ref a] ∧ args = [WData.list (ns.map WData.int)] ∧ h.get? a = some { cls := .type "list", data := .seq vs.toArray } ∧ IntsAre vs ns ∧ ns.length ≤ n := by
  have hsh : WShape.hasAll [] args [.list .int] = true := (pre_splitW hpre).1
  have hc : l.pre.holds [] { args := args } = true := (pre_splitW hpre).2
  obtain ⟨d, r, rfl, h1, h2⟩ := hasAllW_cons hsh
  obtain rfl := hasAllW_nil h2
  obtain ⟨xs, rfl, h3⟩ := hasW_list h1
  obtain ⟨ns, rfl⟩ := items_int h3
  have hlen : ns.length ≤ n := by
    unfold OpenLaw.pre at hc
    have h4 : (WTm.not (.lt (.lit (.int (n : Int))) (.len (.arg 0)))).holds [] { args := [.list (ns.map .int)] } = true := by
      have h4 := (holds_andW hc).1
      rw [hn] at h4
      exact h4
    have h5 := condW_of h4 (w_not (w_lt w_lit (w_len_list (w_arg rfl))))
    rw [List.length_map] at h5
    refine Nat.le_of_not_lt fun q => ?_
    have q' : (n : Int) < ((ns.length : Nat) : Int) := by omega
    first
      | (rw [decide_eq_true q'] at h5; exact absurd h5 (by decide))
      | (simp at h5; omega)
  cases hwl with
  | cons w1 w2 =>
    cases w2
    cases w1 with
    | list ho hall => exact ⟨_, _, ns, rfl, rfl, ho, ints_of_wellAll ns _ hall, hlen⟩
theorem post_true (l : OpenLaw) (args : List WData) : l.row.toRowW.claim.post args (.bool true) args = true :=
  postW_of (r := l.row.toRowW) (X := (true == true))
    (show WShape.has [] (.bool true) .bool = true by first | rfl | decide | simp [WShape.has, WShape.arms, WShape.armsAll])
    (show (WTm.eq .res (.lit (.bool true))).value [] { args := args, res := some (.bool true), after := args } = some (.bool (true == true)) from w_eq_bool (w_res rfl) w_lit) rfl
theorem attach_call {l : OpenLaw} {n : Nat} {q : Program} {loose : List Str} {XP : (Str → Option Value) → Heap → Prop} {YP : World → Heap → Prop} {d : DefRec}
    (hn : l.most = some n) (hdf : d.params.defaults = [])
    (call : ∀ (w : World) (s₀ s₁ : Shared) (mg mb : Str → Option Value) (fa : Addr) (o : Obj) (pm cd doc : Value) (a : Addr) (vs : List Value) (ns : List Int),
      Ground q loose [] XP w s₀ mg mb s₁.heap → YP w s₁.heap →
      s₁.heap.get? fa = some o → o.data = .func (docDef d.name d.params d.body d.scope pm cd doc) → s₁.heap.CodeRec cd d.name → mg d.name = some (.ref fa) →
      s₁.heap.get? a = some { cls := .type "list", data := .seq vs.toArray } → IntsAre vs ns → ns.length ≤ n → s₁.gens = #[] →
      codeAny (model l.prog w) callerA (.call (.ref fa) ⟨[.ref a], []⟩) (fun r s' => r = .ok (.ret (.bool true)) ∧ OldK s₁.heap s'.heap ∧ s'.os = s₁.os ∧ AllBare s'.gens) s₁) :
    WalkO q loose XP YP l.row.toRowW d [] (fun f vs => PySem.call f vs) := by
  intro w s₀ s₁ mg mb G Y fa o pm cd doc dV kV ho hd hcd hD hmg hg args vals as hpre hlay hrd hwl hlo
  obtain rfl : dV = .none := Dflts.none hD hdf
  obtain rfl : kV = .none := Dflts.noKw hD
  obtain ⟨a, vs, ns, rfl, rfl, hobj, hints, hlen⟩ := script_of hn hpre hwl
  refine enter_call (codeAny_mono (call w s₀ s₁ mg mb fa o pm cd doc a vs ns G Y ho (fd_plain hd) hcd hmg hobj hints hlen hg) fun r s' hq => ?_)
  obtain ⟨rfl, h2, h3, h4⟩ := hq
  exact ⟨.inl ⟨.bool true, .bool true, [], rfl, fun _ => rfl, .bool true, post_true l _, fun _ => ⟨List.Pairwise.nil, fun _ hm => (nomatch hm)⟩⟩, h2, h3, h4⟩
section
variable {prog : Program} {w : World} {A : Around} {E : Value → Shared → Prop} {s : Shared} {K : Frag}
def noObjs (h : Heap) : Heap := { h with objs := #[] }
def ledger (h : Heap) (L d : Addr) : List (Addr × Obj) := (List.range h.objs.size).filterMap fun a => if a = L ∨ a = d then none else (h.get? a).map fun o => (a, o)
end
end Att
namespace L2
open PySem PySem.Spec PyProof.Rows
theorem vals_ints : ∀ {vs : List Value} {ns : List Int}, IntsAre vs ns → Vals (ns.map V.int) vs
  | _, _, .nil => .nil
  | _, _, .cons n t h => .cons ⟨t, rfl⟩ (vals_ints h)
def Only (H : Hp) : Prop := ∀ b, H b = none ∨ ∃ o xs, H b = some (.frz o (.lst xs))
theorem law_call {P : Program} {w : World} {K : PySem.W.Frag} {mg mb : Str → Option Value} {CX : CXT} {k : Nat} {fa a : Addr} {fd : FuncData} {x : Str} {sp : Sp} {s₁ : Shared} {vs : List Value} {ns : List Int}
    (KX : K.In s₁.heap) (hns : s₁.heap.Ns mainGlobals mg) (hb : s₁.heap.Ns builtinsNs mb) (hbb : ∀ x : Str, x ≠ "__name__" → mb x = bootBuiltins x) (hlim : s₁.heap.NoLimit) (hg : s₁.gens = #[])
    (ha : s₁.heap.get? a = some { cls := .type "list", data := .seq vs.toArray }) (hi : IntsAre vs ns) (hl : ns.length ≤ sizeLine) (hr : Room k callerA)
    (F : ∀ base : Heap, K.In base → base.Ns mainGlobals mg → FnOk P w K mg base CX k fa fd [x] sp) (hbind : ∀ (s : Shared) (u : Value), BindsTo s fd ⟨[u], []⟩ [(x, u)])
    (hsp : ∀ H : Hp, Only H → SqL K H a (ns.map V.int) → sp [.ref a] H (fun v _ => v = .bl true) fun _ _ _ => False)
    (hCX : ∀ H e s', CX [] H s₁ (fun _ _ _ => False) e s' → False) :
    codeAny (model P w) callerA (.call (.ref fa) ⟨[.ref a], []⟩) (fun r s' => r = .ok (.ret (.bool true)) ∧ OldK s₁.heap s'.heap ∧ s'.os = s₁.os ∧ AllBare s'.gens) s₁ := by
  have rv := vals_ints hi
  have lenV := hi.length
  have core : ∀ H : Hp, Only H → SqL K H a (ns.map V.int) → HOk P w H s₁.heap → (∀ b, H b ≠ none → b = a) → (H a ≠ none → K.lookup a = none) →
      codeAny (model P w) callerA (.call (.ref fa) ⟨[.ref a], []⟩) (fun r s' => r = .ok (.ret (.bool true)) ∧ OldK s₁.heap s'.heap ∧ s'.os = s₁.os ∧ AllBare s'.gens) s₁ := by
    intro H hO hS hok hA hK
    have base_of : ∀ {b : Addr} {o : Obj}, s₁.heap.get? b = some o → H b = none → (hidT s₁.heap H).get? b = some o := fun e n => hidT_get e n
    have noA : ∀ {b : Addr} {o : Obj} {es : Array DictEntry} {ep : Nat}, s₁.heap.get? b = some o → o.data = .dict es ep → H b = none := fun {b o es ep} e d => by
      cases q : H b with
      | none => rfl
      | some u =>
        have e' : b = a := hA b (by rw [q]; simp)
        subst e'
        rw [ha] at e; cases e
        have d' : Data.seq vs.toArray _ = Data.dict es ep := d
        cases d'
    have nsK : ∀ {b : Addr} {m : Str → Option Value}, s₁.heap.Ns b m → (hidT s₁.heap H).Ns b m := fun {b m} ⟨o, es, ep, e, d, r⟩ => ⟨o, es, ep, base_of e (noA e d), d, r⟩
    have hKb : K.In (hidT s₁.heap H) := fun b o e => base_of (KX b o e) (by
      cases q : H b with
      | none => rfl
      | some u =>
        have e' : b = a := hA b (by rw [q]; simp)
        subst e'
        rw [hK (by rw [q]; simp)] at e; cases e)
    have hM : Mod K mg (hidT s₁.heap H) := ⟨hKb, nsK hns, ⟨mb, nsK hb, hbb⟩, let ⟨mc, h1, h2⟩ := hlim; ⟨mc, nsK h1, h2⟩⟩
    have e0 : Env0 P w K mg (hidT s₁.heap H) callerA [] s₁ H := ⟨rfl, hM, fun b o e => of_hidT e, Nat.le_of_eq (hidT_size _ _), trivial, fun b hb => absurd (show b ∈ ([] : List Addr) from hb) (by simp), hok, .of_eq hg⟩
    refine codeAny_mono ((F _ hKb (nsK hns)).run callerA [] s₁ H ⟨[.ref a], []⟩ [.ref a] [.ref a] _ _ hr e0 (hbind s₁ (.ref a)) (.cons rfl .nil) (hsp H hO hS)) fun r s' h => ?_
    cases r with
    | error e => exact (hCX H e s' h).elim
    | ok fl =>
      cases fl with
      | next => exact False.elim h
      | brk => exact False.elim h
      | cont => exact False.elim h
      | ret u =>
        obtain ⟨v, H', os, bare, un, hok', r', q⟩ := h
        have q' : v = .bl true := q
        subst q'
        obtain rfl : u = Value.bool true := r'
        refine ⟨rfl, OldK.of_keep fun b o e => ?_, os, bare⟩
        cases q : H b with
        | none => exact un.keep b o e q (by intro z; exact absurd (show b ∈ ([] : List Addr) from z) (by simp)) (by simp)
        | some u =>
          rcases hO b with z | ⟨ob, xs, z⟩
          · rw [q] at z; cases z
          · have z2 := un.frzs b ob _ z
            obtain ⟨e1, _⟩ := hok b _ z
            obtain ⟨e2, _⟩ := hok' b _ z2
            rw [e] at e1; cases e1
            exact e2
  cases hk : K.lookup a with
  | some o =>
    have e := KX a o hk
    rw [ha] at e
    cases e
    refine core (fun _ => none) (fun _ => .inl rfl) (.inr ⟨_, vs.toArray, _, hk, rfl, rfl, rfl, by rw [List.size_toArray, lenV]; exact hl, by simpa using rv⟩) (fun b u z => by have z' : (none : Option HO) = some u := z; cases z') (fun b z => absurd rfl z) fun z => absurd rfl z
  | none =>
    refine core (fun b => if b = a then some (.frz { cls := .type "list", data := .seq vs.toArray } (.lst (ns.map V.int))) else none) (fun b => ?_) (.inl (.inr ⟨{ cls := .type "list", data := .seq vs.toArray }, if_pos rfl⟩)) (fun b u z => ?_) (fun b z => ?_) fun _ => hk
    · by_cases hb : b = a
      · exact .inr ⟨_, _, if_pos hb⟩
      · exact .inl (if_neg hb)
    · by_cases hb : b = a
      · have z' := (if_pos hb).symm.trans z
        cases z'
        subst hb
        exact ⟨ha, by rw [List.length_map]; exact hl, vs, _, rv, ha⟩
      · have z' := (if_neg hb).symm.trans z
        cases z'
    · by_cases hb : b = a
      · exact hb
      · exact absurd (if_neg hb) z
end L2
namespace L2
open PySem PySem.Spec PyProof.Rows
abbrev KOf {K : PySem.W.Frag} {h : Heap} (_ : K.In h) : PySem.W.Frag := K
theorem walk_of {l : PySem.W.OpenLaw} {n k : Nat} {q : Program} {loose : List Str} {XP : (Str → Option Value) → Heap → Prop} {YP : World → Heap → Prop} {d : DefRec} {K : Params → PySem.W.Frag} {CX : World → CXT} {sp : World → Sp} {x : Str}
    (hn : l.most = some n) (hn2 : n ≤ sizeLine) (hdf : d.params.defaults = []) (hr : Room k callerA)
    (hY : ∀ (w : World) (h : Heap), YP w h → (K w.params).In h)
    (F : ∀ (w : World) (mg : Str → Option Value) (fa : Addr) (h : Heap), (K w.params).In h → h.Ns mainGlobals mg → mg d.name = some (.ref fa) →
      ∃ fd : FuncData, (∀ (s : Shared) (u : Value), BindsTo s fd ⟨[u], []⟩ [(x, u)]) ∧
        ∀ base : Heap, (K w.params).In base → base.Ns mainGlobals mg → FnOk l.prog w (K w.params) mg base (CX w) k fa fd [x] (sp w))
    (hsp : ∀ (w : World) (H : Hp) (a : Addr) (ns : List Int), ns.length ≤ n → Only H → SqL (K w.params) H a (ns.map V.int) → sp w [.ref a] H (fun v _ => v = .bl true) fun _ _ _ => False)
    (hCX : ∀ (w : World) (H : Hp) (s : Shared) (e : Value) (s' : Shared), CX w [] H s (fun _ _ _ => False) e s' → False) :
    PySem.W.WalkO q loose XP YP l.row.toRowW d [] (fun f vs => PySem.call f vs) := by
  refine Att.attach_call hn hdf fun w s₀ s₁ mg mb fa o pm cd doc a vs ns G Y ho hd hcd hmg hobj hints hlen hg => ?_
  have KX := hY w _ Y
  obtain ⟨fd, hb, hF⟩ := F w mg fa _ KX G.T.g hmg
  exact law_call KX G.T.g G.T.b G.T.builtins G.T.nolimit hg hobj hints (Nat.le_trans hlen hn2) hr hF hb (fun H hO hS => hsp w H a ns hlen hO hS) fun H e s' => hCX w H s₁ e s'
end L2
namespace L2
open PySem PySem.Spec PyProof.Rows
def inClass (s : Stmt) (j : Nat) : Stmt := match s with
  | .ClassDef _ _ _ body _ _ _ _ _ _ _ => body.getD j (.Pass ⟨0, 0, 0, 0⟩)
  | _ => .Pass ⟨0, 0, 0, 0⟩
def defArgs (s : Stmt) : Arguments := match s with
  | .FunctionDef _ a _ _ _ _ _ _ _ _ => a
  | _ => { posonlyargs := [], args := [], vararg := none, kwonlyargs := [], kw_defaults := [], kwarg := none, defaults := [] }
def defBody (s : Stmt) : List Stmt := match s with
  | .FunctionDef _ _ b _ _ _ _ _ _ _ => b
  | _ => []
def defScope (s : Stmt) : Scope := match s with
  | .FunctionDef _ _ _ _ _ _ sc _ _ _ => sc
  | _ => { kind := .function, names := [], isGenerator := false, isCoroutine := false }
abbrev CX0 : CXT := fun _ _ _ _ _ _ => False
abbrev E0 : XK := fun _ _ _ => False
theorem pass0 {X : Cx} : Passes CX0 X E0 := fun _ _ _ _ _ _ _ h => h.elim
structure Fun (K : PySem.W.Frag) (x qual : Str) (st : Stmt) (f : Addr) (fd : FuncData) : Prop where
  ex : ∃ (oc : Value) (od : Option Addr) (kV doc pm : Value) (an : Option Addr) (cdv ct : Value) (osl : Array (Option Value)),
    fd = PySem.W.fnOf x qual (defArgs st) (defBody st) (defScope st) .none kV doc pm an cdv ct ∧ K.lookup f = some ⟨oc, od, .func fd, osl⟩ ∧ PySem.W.codeIn K cdv qual = true
  kp : PySem.W.keepIn K (.ref f) = true
section
variable {P : Program} {w : World} {K : PySem.W.Frag} {mg : Str → Option Value} {base : Heap}
theorem Fun.ok {x qual : Str} {st : Stmt} {f : Addr} {fd : FuncData} {N ps : List Str} {k : Nat} {sp : Sp} (F : Fun K x qual st f fd) (S : FnScope N ps (defScope st)) (len : ∀ vs H Q E, sp vs H Q E → vs.length = ps.length)
    (hbody : ∀ (cdv : Value) (A : Around) (outer : List Env) (s : Shared) (H : Hp) (vs : List V) (Q : VK) (E : XK), Room k (A.deeper (envOfC qual (defScope st) s.heap.objs.size f cdv)) → sp vs H Q E →
      ∃ t, PSs (cxOf CX0 P w K mg base N qual (defScope st) f cdv A outer s H E).nox (defBody st) t ∧ t { nx := fun _ H' => Q .non H', rt := Q } (start N vs) H) : FnOk P w K mg base CX0 (k + 1) f fd ps sp := by
  obtain ⟨oc, od, kV, doc, pm, an, cdv, ct, osl, rfl, lk, hcd⟩ := F.ex
  refine fn_of lk hcd S len fun A outer s H vs Q E hr hsp => ?_
  obtain ⟨t, h, q⟩ := hbody cdv A outer s H vs Q E hr hsp
  exact ⟨t, h.nox, q⟩
theorem Fun.binds {x qual : Str} {st : Stmt} {f : Addr} {fd : FuncData} {ps : List Str} (F : Fun K x qual st f fd)
    (h : ∀ (kV doc pm : Value) (an : Option Addr) (cdv ct : Value) (us : List Value), us.length = ps.length → bindArgs (PySem.W.fnOf x qual (defArgs st) (defBody st) (defScope st) .none kV doc pm an cdv ct) ⟨us, []⟩ = pure (ps.zip us)) : Binds K fd ps [] := by
  obtain ⟨oc, od, kV, doc, pm, an, cdv, ct, osl, rfl, lk, hcd⟩ := F.ex
  exact .all (h kV doc pm an cdv ct)
theorem fun_mk {x qual : Str} {st : Stmt} {f : Addr} {oc : Value} {od an : Option Addr} {osl : Array (Option Value)} {kV doc pm cdv ct : Value} (l : K.lookup f = some ⟨oc, od, .func (PySem.W.fnOf x qual (defArgs st) (defBody st) (defScope st) .none kV doc pm an cdv ct), osl⟩)
    (c : PySem.W.codeIn K cdv qual = true) (k : PySem.W.keepIn K (.ref f) = true) : Fun K x qual st f (PySem.W.fnOf x qual (defArgs st) (defBody st) (defScope st) .none kV doc pm an cdv ct) := ⟨⟨oc, od, kV, doc, pm, an, cdv, ct, osl, rfl, l, c⟩, k⟩
end
section
variable {X : Cx}
theorem pv (i : Nat) {x : Str} {pos : Pos} (hN : X.N[i]? = some x := by rfl) (hv : Vis X.env.scope x := by first | exact Or.inl rfl | exact Or.inr (Or.inl rfl) | exact Or.inr (Or.inr rfl)) (hd : (x == ("__debug__" : Str)) = false := by decide)
    (hcd : (x == ("__classdict__" : Str)) = false := by decide) : PE X (.Name x pos) (tVar i) := pe_var hN hv hd hcd
end
theorem iteF {A B : Prop} (h : B) : if false = true then A else B := by
  rw [if_neg Bool.false_ne_true]
  exact h
theorem iteT {A B : Prop} (h : A) : if true = true then A else B := by
  rw [if_pos rfl]
  exact h
theorem ite2 {c A B : Prop} [Decidable c] (h1 : c → A) (h2 : ¬ c → B) : if c then A else B := by
  by_cases h : c
  · rw [if_pos h]
    exact h1 h
  · rw [if_neg h]
    exact h2 h
theorem iteNS {c A B : Prop} [Decidable c] (hc : c) (h : B) : if (!decide c) = true then A else B := by
  rw [decide_eq_true hc]
  exact iteF h
def Same (H H' : Hp) : Prop := ∀ b o, H b = some o → H' b = some o
theorem Same.refl (H : Hp) : Same H H := fun _ _ h => h
theorem Same.trans {H H1 H2 : Hp} (a : Same H H1) (b : Same H1 H2) : Same H H2 := fun c o h => b c o (a c o h)
theorem Same.free {H H' : Hp} (e : Same H H') {l : Addr} (h : H' l = Option.none) : H l = Option.none := by
  cases q : H l with
  | none => rfl
  | some o =>
    rw [e l o q] at h
    cases h
theorem Same.seq {K : PySem.W.Frag} {H H' : Hp} {a : Addr} {xs : List V} (e : Same H H') (h : SqL K H a xs) : SqL K H' a xs := by
  rcases h with (h | ⟨o, h⟩) | h
  · exact .inl (.inl (e _ _ h))
  · exact .inl (.inr ⟨o, e _ _ h⟩)
  · exact .inr h
section
variable {κ : Type} [DecidableEq κ]
end
end L2
end
section
namespace L2
open PySem PySem.Spec PyProof.Rows
section
variable {X : Cx} {pins : List (Addr × Obj)} {σ : St} {H : Hp} {s : Shared}
end
theorem KV.at {kvs : List (Key × V)} {vs : List (Key × Value)} (r : KV kvs vs) {i : Nat} {k : Key} {v : V} (e : kvs[i]? = some (k, v)) : ∃ u, vs[i]? = some (k, u) ∧ RelV v u := by
  unfold KV at r
  induction r generalizing i with
  | nil => simp at e
  | @cons p q ps qs h t ih =>
    cases i with
    | zero =>
      simp only [List.getElem?_cons_zero, Option.some.injEq] at e
      subst e
      obtain ⟨q1, q2⟩ := q
      obtain ⟨h1, h2⟩ := h
      dsimp only at h1 h2
      subst h1
      exact ⟨q2, by simp, h2⟩
    | succ i =>
      rw [List.getElem?_cons_succ] at e ⊢
      exact ih e
def Itd (d : Addr) (o : Obj) (kvs : List (Key × V)) : It :=
  ⟨fun i H => H d = some (.frz o (.dK kvs)) ∧ i < kvs.length, fun i H x H' => H' = H ∧ ∃ k v, kvs[i]? = some (k, v) ∧ x = kV k, fun i H => H d = some (.frz o (.dK kvs)) ∧ kvs.length ≤ i⟩
def iFz (J : Addr → Obj → List (Key × V) → It) (tl : TE) : TI := fun σ H R => tl σ H fun x H1 => ∃ d kvs, x = .ref d ∧
  ((H1 d = some (.dK kvs) ∧ ∀ o, R (J d o kvs) (upd H1 d (.frz o (.dK kvs)))) ∨ ∃ o, H1 d = some (.frz o (.dK kvs)) ∧ R (J d o kvs) H1)
section
variable {X : Cx} {tg : Expr}
end
def Iti (d : Addr) (o : Obj) (kvs : List (Key × V)) : It :=
  ⟨fun i H => H d = some (.frz o (.dK kvs)) ∧ i < kvs.length, fun i H x H' => ∃ a k v, kvs[i]? = some (k, v) ∧ H a = none ∧ x = .ref a ∧ H' = upd H a (.tup [kV k, v]), fun i H => H d = some (.frz o (.dK kvs)) ∧ kvs.length ≤ i⟩
section
variable {X : Cx}
end
def Itz (K : PySem.W.Frag) (l1 l2 : Addr) : It :=
  ⟨fun i H => ∃ xs ys x y, SqL K H l1 xs ∧ SqL K H l2 ys ∧ xs[i]? = some x ∧ ys[i]? = some y,
   fun i H z H' => ∃ a x y, (∀ xs, SqL K H l1 xs → xs[i]? = some x) ∧ (∀ ys, SqL K H l2 ys → ys[i]? = some y) ∧ H a = none ∧ z = .ref a ∧ H' = upd H a (.tup [x, y]),
   fun i H => ∃ xs ys, SqL K H l1 xs ∧ SqL K H l2 ys ∧ (xs.length ≤ i ∨ ys.length ≤ i)⟩
section
variable {X : Cx}
def iZip (K : PySem.W.Frag) (ta : TA) : TI := fun σ H R => ta σ H fun vs H1 => ∃ l1 l2, vs = [.ref l1, .ref l2] ∧ (∃ xs, SqL K H1 l1 xs) ∧ (∃ ys, SqL K H1 l2 ys) ∧ R (Itz K l1 l2) H1
end
section
variable {X : Cx}
end
end L2
end
section
namespace L2
open PySem PySem.Spec PyProof.Rows
def compCx (X : Cx) (N' : List Str) (scope : Scope) (cl : List (Str × Addr)) (C : Addr) (s₀ : Shared) (H₀ : Hp) (ex : List Addr) (pn : List (Addr × Obj)) (xe : Value → Shared → Prop) : Cx :=
  { prog := X.prog, w := X.w, K := X.K, mg := X.mg, base := X.base, A := X.A, N := N', s₀ := s₀, H₀ := H₀, env := compEnvC scope cl C X.env, outer := X.stack, stack := X.stack, ex := ex, fn := fun _ => false, calm := X.calm, pn := pn, xe := xe }
structure CompOk (X : Cx) (N' : List Str) (scope : Scope) (cl : List (Str × Addr)) : Prop where
  clos : closureFor scope X.env = pure cl
  nocell : ∀ y ∈ scope.names, y.2 ≠ .cell
  kind : scope.kind = .function
  names : ∀ y ∈ scope.names, y.2 = .local → scope.names.lookup y.1 = some .local
  sub : ∀ x c, cl.lookup x = some c → X.env.cells.lookup x = some c
  has : ∀ x, ((relabel scope X.env).names.lookup x = some .cell ∨ (relabel scope X.env).names.lookup x = some .free) → ∃ c, cl.lookup x = some c
def Capt (X : Cx) (N' : List Str) (scope : Scope) (cl : List (Str × Addr)) (σ σb : St) : Prop :=
  σb.length = N'.length ∧ ∀ (i : Nat) (x : Str) (v : V), N'[i]? = some x → σb[i]? = some (some v) → ∃ j : Nat, X.N[j]? = some x ∧ σ[j]? = some (some v) ∧ X.env.scope.names.lookup x = some .cell ∧
    (relabel scope X.env).names.lookup x = some .cell
def tComp (wi : TI) (te : TE) (iw : Nat) (cap : St → St → Prop) : TE := fun σ H Q => wi σ H fun J H1 => ∃ σb : St, cap σ σb ∧ ∀ D, H1 D = none → ∃ W : Nat → Nat → Hp → Prop, (∃ m, W 0 m (upd H1 D (.lst []))) ∧
  ∀ i m H, W i m H → (J.stop i H ∧ Q (.ref D) H) ∨ (J.go i H ∧ ∀ x H', J.yld i H x H' → te (σb.set iw (some x)) H' fun y H2 => ∃ ys, H2 D = some (.lst ys) ∧ ys.length < sizeLine ∧ ∃ m', m' < m ∧ W (i + 1) m' (upd H2 D (.lst (ys ++ [y]))))
section
variable {X : Cx} {elt iter : Expr} {x : Str} {px pos : Pos} {scope : Scope} {N' : List Str} {cl : List (Str × Addr)} {wi : TI} {te : TE} {iw : Nat}
theorem comp_ok {pins : List (Addr × Obj)} {σ : St} {H : Hp} {s : Shared} {fp : List Addr} {C : Addr} {xe : Value → Shared → Prop} (I : Inv X pins σ H s) (hc : X.calm = true) (O : CompOk X N' scope cl) (f : ∀ b ∈ fp, FpOk X pins H b) (hC : s.heap.objs.size ≤ C)
    (hfp : ∀ b ∈ fp, b < s.heap.objs.size) : (compCx X N' scope cl C s H fp (X.pn ++ pins) xe).Ok where
  mod := I.ok.mod
  kind := O.kind
  glob := I.ok.glob
  blt := I.ok.blt
  above := hC
  inj := fun x y c e1 e2 => I.ok.inj x y c (O.sub x c e1) (O.sub y c e2)
  has := fun x h => O.has x h
  cab := fun x c h => by cases h
  hd := fun _ => I.ok.hd hc
  frames := I.ok.frames
  stk := .inl rfl
  exf := fun b hb => ⟨Nat.ne_of_lt (Nat.lt_of_lt_of_le (hfp b hb) hC), fun x c e => (f b hb).2.2.2.2.1 x c (O.sub x c e)⟩
  bs := I.bs
  bsz := Nat.le_trans I.ok.bsz I.sz
  noex := fun b o e hb => by
    rcases (f b hb).2.2.2.1 with q | q
    · exact I.ok.noex b o e q
    · exact absurd (Nat.lt_of_lt_of_le (Heap.lt_size e) (Nat.le_trans I.ok.bsz q)) (Nat.lt_irrefl _)
  exfs := fun b hb z => by
    rcases List.mem_cons.mp (I.stkSub b z) with q | q
    · exact (f b hb).2.1 q
    · exact (f b hb).2.2.1 q
  funs := I.stack
  frf := I.stkFree
theorem comp_start {pins : List (Addr × Obj)} {σ σb : St} {H : Hp} {s : Shared} {fp : List Addr} {C D : Addr} {xe : Value → Shared → Prop} {h1 : Heap} {tk : Nat} {m : Str → Option Value} (I : Inv X pins σ H s) (hc : X.calm = true) (O : CompOk X N' scope cl)
    (cap : Capt X N' scope cl σ σb) (f : ∀ b ∈ fp, FpOk X pins H b) (hfp : ∀ b ∈ fp, b < s.heap.objs.size) (hC : s.heap.objs.size ≤ C) (hD : s.heap.objs.size ≤ D) (hDC : D ≠ C)
    (k : ∀ b u, s.heap.get? b = some u → h1.get? b = some u) (hns : h1.Ns C m) (hDo : h1.get? D = some { cls := .type "list", data := .seq #[] }) :
    Inv (compCx X N' scope cl C s H fp (X.pn ++ pins) xe) [] σb (upd H D (.lst [])) { s with heap := h1, toks := tk } := by
  have hn : H D = none := I.hok.fresh hD
  have ltD : ∀ b u, s.heap.get? b = some u → b ≠ D := fun b u e => Nat.ne_of_lt (Nat.lt_of_lt_of_le (Heap.lt_size e) hD)
  have ltC : ∀ b u, s.heap.get? b = some u → b ≠ C := fun b u e => Nat.ne_of_lt (Nat.lt_of_lt_of_le (Heap.lt_size e) hC)
  refine ⟨comp_ok I hc O f hC hfp, rfl, I.bare, Un.laid k hD hn, ⟨m, hns, fun i x v e1 e2 e3 => ?_⟩, fun x c e => ?_, ?_, fun x c e => ?_, fun p hp => ?_, I.hok.laid k hD ?_, cap.1⟩
  · obtain ⟨j, q1, q2, q3, q4⟩ := cap.2 i x v e1 e2
    obtain ⟨m0, hn0, l0⟩ := I.loc
    obtain ⟨u, ru, lk⟩ := l0 j x v q1 q2 (.inr (.inl q3))
    refine ⟨u, ru, .inr ⟨.inl q4, ?_⟩⟩
    rcases lk with ⟨z, _⟩ | ⟨_, c, hc2, cell⟩
    · have z : X.env.scope.names.lookup x = some .local := z
      rw [q3] at z; cases z
    · obtain ⟨c', hc'⟩ := O.has x (.inl q4)
      have e := O.sub x c' hc'
      rw [hc2] at e
      cases e
      obtain ⟨o, ho, hd⟩ := cell
      exact ⟨c, hc', o, k c o ho, hd⟩
  · obtain ⟨v, o, ho, hd⟩ := I.cell x c (O.sub x c e)
    exact ⟨v, o, k c o ho, hd⟩
  · show upd H D (.lst []) C = none
    rw [upd_ne (Ne.symm hDC)]; exact I.hok.fresh hC
  · obtain ⟨v, o, ho, hd⟩ := I.cell x c (O.sub x c e)
    show upd H D (.lst []) c = none
    rw [upd_ne (ltD c o ho)]; exact I.freeC x c (O.sub x c e)
  · have hp : p ∈ X.pn ++ pins := by
      have hp : p ∈ (X.pn ++ pins) ++ [] := hp
      simpa using hp
    obtain ⟨e, n, ne, nf, d⟩ := I.pin p hp
    refine ⟨k _ _ e, by rw [upd_ne (ltD _ _ e)]; exact n, ltC _ _ e, fun z => ?_, d⟩
    rcases List.mem_cons.mp (I.stkSub _ z) with q | q
    · exact ne q
    · exact nf q
  · exact ⟨Nat.zero_le _, [], 0, .nil, hDo⟩
theorem comp_end {pins pins' : List (Addr × Obj)} {σ σ' : St} {H H' : Hp} {s s' : Shared} {fp : List Addr} {C : Addr} {xe : Value → Shared → Prop} {h' : Heap} (I : Inv X pins σ H s) (f : ∀ b ∈ fp, FpOk X pins H b) (hC : s.heap.objs.size ≤ C)
    (I' : Inv (compCx X N' scope cl C s H fp (X.pn ++ pins) xe) pins' σ' H' s') (sb : Heap.SameBut C s'.heap h') : Inv X pins σ H' { s' with heap := h' } := by
  have ltC : ∀ b u, s.heap.get? b = some u → b ≠ C := fun b u e => Nat.ne_of_lt (Nat.lt_of_lt_of_le (Heap.lt_size e) hC)
  have u : Un (frs X.stack) fp H H' s.heap s'.heap := I'.base
  have hC' : H' C = none := I'.free
  refine I.call' (s' := { s' with heap := h' }) (ch := fp) I'.os ⟨fun b o e n hb hx => (sb.2 b (ltC b o e)).trans (u.keep b o e n hb hx), fun b o e n hb hx => ?_, u.free, fun b o e hx => ?_, u.tups, u.frzs, u.tbls⟩ ?_ I'.bare (fun b hb => ?_)
  · obtain ⟨sl, q⟩ := u.slot b o e n hb hx
    exact ⟨sl, (sb.2 b (ltC b o e)).trans q⟩
  · obtain ⟨o', q⟩ := u.there b o e hx
    exact ⟨o', (sb.2 b (ltC b o e)).trans q⟩
  · intro b o e
    refine (I'.hok b o e).stay (fun c v hc q => (sb.2 c ?_).trans q) (fun c q => q) fun c xs q => q
    rcases hc with z | z
    · rw [z]; intro z2; rw [z2, hC'] at e; cases e
    · intro z2; rw [z2, hC'] at z; cases z
  · obtain ⟨f0, f1, f2, f3, f4, f5⟩ := f b hb
    exact ⟨f3, f1, f4, f5⟩
theorem pe_comp (hc : X.calm = true) (O : CompOk X N' scope cl) (hi : PI X (.Name x px) iter wi) (hN : N'.Nodup) (hiw : N'[iw]? = some x) (hx : scope.names.lookup x = some .local)
    (he : ∀ (C : Addr) (s₀ : Shared) (H₀ : Hp) (ex : List Addr) (pn : List (Addr × Obj)) (xe : Value → Shared → Prop), PE (compCx X N' scope cl C s₀ H₀ ex pn xe) elt te)
    (hs : ∀ x, foldedSetIterable iter X.env x = pure x := by intro _; rfl) :
    PE X (.ListComp elt [⟨.Name x px, iter, [], 0⟩] scope pos) (tComp wi te iw (Capt X N' scope cl)) := by
  intro pins s σ H Q I h
  rw [eval_ListComp]
  refine wpAny_comprehension_free (use := none) rfl hs O.clos O.kind O.names (thn (hi pins s σ H _ I h) fun xv s1 h1 => thn h1 fun itv s2 h2 => ?_)
  obtain ⟨it, fp, tn, J, H2, e, I2, T, st2, f2, σb, cap, q⟩ := h2
  subst e
  have hfp : ∀ b ∈ fp, b < s2.heap.objs.size := fun b hb => by
    obtain ⟨o, ho, _⟩ := T.obj _ _ st2 b hb
    exact Heap.lt_size ho
  refine wpAny_newObj_type (wpAny_newFunctionEnv O.nocell (by intro y hy; simp at hy) (fun h₁ hns₁ hsb₁ => ?_) O.kind)
  dsimp only at hns₁ hsb₁ ⊢
  generalize hH2 : s2.heap.push { cls := .type "list", dict := none, data := .seq ([] : List Value).toArray } = Hq at hns₁ hsb₁ ⊢
  have hCs : Hq.objs.size = s2.heap.objs.size + 1 := by rw [← hH2, Heap.size_push]
  have hDC : s2.heap.objs.size ≠ Hq.objs.size := by omega
  have old : ∀ b o, s2.heap.get? b = some o → h₁.get? b = some o := fun b o e =>
    hsb₁.extBut b o (Nat.ne_of_lt (Nat.lt_trans (Heap.lt_size e) (by rw [hCs]; exact Nat.lt_succ_self _))) (Heap.get?_push_of_some _ (hH2 ▸ Heap.get?_push_of_some _ e))
  have hDo : h₁.get? s2.heap.objs.size = some { cls := .type "list", data := .seq #[] } := hsb₁.extBut _ _ hDC (Heap.get?_push_of_some _ (hH2 ▸ Heap.get?_push_size _ rfl))
  obtain ⟨W, ⟨m0, w0⟩, turn⟩ := q s2.heap.objs.size (I2.hok.fresh (Nat.le_refl _))
  let R : Result → Shared → Prop := compPost (model X.prog X.w) X.A X.xe none (EP X pins σ Q) (.ref s2.heap.objs.size) Hq.objs.size
  let xe : Value → Shared → Prop := notedBy (model X.prog X.w) X.A (compEnvC scope cl Hq.objs.size X.env) fun e s' => R (.error e) s'
  have I0 : Inv (compCx X N' scope cl Hq.objs.size s2 H2 fp (X.pn ++ pins) xe) [] σb (upd H2 s2.heap.objs.size (.lst [])) { s2 with heap := h₁, toks := s2.toks + ([] : List (Str × Value)).length } :=
    comp_start I2 hc O cap f2 hfp (by omega) (Nat.le_refl _) hDC old hns₁ hDo
  have st0 : tn 0 h₁ := T.keep _ _ _ st2 fun b hb o e => old b o e
  have fr0 : ∀ b ∈ fp, upd H2 s2.heap.objs.size (.lst []) b = none := fun b hb => by
    rw [upd_ne (Nat.ne_of_lt (hfp b hb))]; exact (f2 b hb).1
  have stat : ∀ {H' : Hp}, (∀ b ∈ fp, H' b = none) → ∀ b ∈ fp, FpOk (compCx X N' scope cl Hq.objs.size s2 H2 fp (X.pn ++ pins) xe) [] H' b := fun hn b hb => by
    obtain ⟨f0, f1, fb, f3, f4, f5⟩ := f2 b hb
    refine ⟨hn b hb, Nat.ne_of_lt (show b < Hq.objs.size from Nat.lt_trans (hfp b hb) (by rw [hCs]; exact Nat.lt_succ_self _)), fun z => ?_, .inl hb, fun x c e => f4 x c (O.sub x c e), fun p hp => f5 p (by
      have hp : p ∈ (X.pn ++ pins) ++ [] := hp
      simpa using hp)⟩
    rcases List.mem_cons.mp (I2.stkSub b z) with q | q
    · exact f1 q
    · exact fb q
  have hg : PG (compCx X N' scope cl Hq.objs.size s2 H2 fp (X.pn ++ pins) xe) (.Name x px) (gName iw) :=
    pg_name hN hiw (.inl (lookup_relabel_local hx)) (.inr (lookup_relabel_local hx))
  have hb := he Hq.objs.size s2 H2 fp (X.pn ++ pins) xe
  have loop : codeAny (model X.prog X.w) X.A (.compLoop (.ListComp elt [⟨.Name x px, iter, [], 0⟩] scope pos) 0 (.ref it) (.ref s2.heap.objs.size) (compEnvC scope cl Hq.objs.size X.env)) R
      { s2 with heap := h₁, toks := s2.toks + ([] : List (Str × Value)).length } := by
    refine codeAny_compLoop_tests (fun n s' => ∃ i v H', Inv (compCx X N' scope cl Hq.objs.size s2 H2 fp (X.pn ++ pins) xe) [] (σb.set iw v) H' s' ∧ tn i s'.heap ∧ (∀ b ∈ fp, H' b = none) ∧ W i n H') ?_ m0 ?_
    · rintro n s3 ⟨i, v, H3, I3, st3, fr3, w3⟩
      rcases turn i n H3 w3 with ⟨stop, qn⟩ | ⟨go, step⟩
      · refine thn (T.done (compCx X N' scope cl Hq.objs.size s2 H2 fp (X.pn ++ pins) xe) rfl rfl rfl hc i [] s3 _ H3 xe I3 (stat fr3) st3 stop) fun r s4 ⟨hr, I4⟩ => ?_
        subst hr
        obtain ⟨m, hn, _⟩ := I4.loc
        exact ⟨m, hn, fun h' sb => ⟨.ref s2.heap.objs.size, H3, comp_end I2 f2 (by omega) I4 sb, rfl, qn⟩⟩
      · refine thn (T.item (compCx X N' scope cl Hq.objs.size s2 H2 fp (X.pn ++ pins) xe) rfl rfl rfl hc i [] s3 _ H3 xe I3 (stat fr3) st3 go) fun r s4 ⟨u, hr, h4⟩ => ?_
        subst hr
        show wpAny _ _ (assign (.Name x px) (compEnvC scope cl Hq.objs.size X.env) u) _ _ s4
        have h4' : wpAny (model X.prog X.w) X.A (pure () : Sem Unit) _ xe s4 := h4
        rw [← pure_bind (m := Sem) () (fun _ => assign (.Name x px) (compEnvC scope cl Hq.objs.size X.env) u)]
        refine wpAny_bind (thn h4' fun _ s5 ⟨y, H5, I5, r5, y5, st5, fr5⟩ => ?_)
        have I5' := I5.pinned (stat fr5) (T.obj _ _ st5)
        refine thn (hg _ s5 _ H5 y u (fun σ' H' => σ' = σb.set iw (some y) ∧ H' = H5) I5' r5 ⟨by rw [List.set_set], rfl⟩) fun _ s6 ⟨σ6, H6, I6, e6, e6'⟩ => ?_
        subst e6 e6'
        rw [List.forIn_nil]
        refine wpAny_pure ?_
        rw [if_pos rfl]
        refine thn (hb _ s6 _ H6 _ I6 (step y H6 y5)) fun z s7 ⟨yv, H7, I7, r7, ys, eD, hz, m', hm, w7⟩ => ?_
        refine thn (mt_append _ s7 _ H7 (.ref s2.heap.objs.size) [yv] (.ref s2.heap.objs.size) [z] (fun _ H8 => H8 = upd H7 s2.heap.objs.size (.lst (ys ++ [yv]))) I7 rfl (.cons r7 .nil) ⟨_, ys, yv, rfl, rfl, eD, hz, rfl⟩) fun _ s8 ⟨_, H8, I8, _, e8⟩ => ?_
        subst e8
        refine ⟨m', hm, i + 1, some y, _, I8.unpinned, T.keep _ _ _ st5 fun b hb o e => (I8.pin (b, o) (List.mem_append_right _ (List.mem_append_right _ (mem_pinsAt hb e)))).1, fun b hb => ?_, w7⟩
        obtain ⟨o, e, d⟩ := T.obj _ _ st5 b hb
        exact (I8.pin (b, o) (List.mem_append_right _ (List.mem_append_right _ (mem_pinsAt hb e)))).2.1
    · refine ⟨0, (σb[iw]?).join, _, ?_, st0, fr0, w0⟩
      have e : σb.set iw (σb[iw]?).join = σb := by
        apply List.ext_getElem?
        intro j
        rw [List.getElem?_set]
        split
        · rename_i h
          subst h
          have hl : iw < σb.length := by
            rw [cap.1]
            exact (List.getElem?_eq_some_iff.mp hiw).1
          rw [if_pos hl, List.getElem?_eq_getElem hl]
          rfl
        · rfl
      rw [e]
      exact I0
  exact codeAny_compStart_list loop (T.self X.A 0 _ _ _ st0 loop)
end
end L2
end
section
namespace L2
open PySem PySem.Spec PyProof.Rows Tim
section
variable {X : Cx} {pins : List (Addr × Obj)} {σ : St} {H : Hp} {s : Shared}
def Src (X : Cx) (pins : List (Addr × Obj)) (σ : St) (H : Hp) (s : Shared) (l : Addr) (ss : List Str) : Prop :=
  ∀ (E : Value → Shared → Prop) (Q : List Value → Shared → Prop), (∀ (s' : Shared) (vs : List Value), Inv X pins σ H s' → X.s₀.heap.objs.size ≤ s'.heap.objs.size → Vals (ss.map V.str) vs → Q vs s') → wpAny (model X.prog X.w) X.A.in1 (collect (.ref l)) Q E s
end
section
variable {X : Cx}
end
def KeyCall (X : Cx) (σ : St) (f : Value) (ss : List Str) (Φ : Nat → List V → Hp → Prop) : Prop :=
  ∀ (i : Nat) (x : Str) (t : Tok) (ks : List V) (H : Hp) (s : Shared) (pins : List (Addr × Obj)), ss[i]? = some x → Inv X pins σ H s → Φ i ks H →
    wpAny (model X.prog X.w) X.A.in1.in1 (call f [.str x t]) (fun k s' => ∃ kv H', Inv X pins σ H' s' ∧ RelV kv k ∧ Φ (i + 1) (ks ++ [kv]) H') (fun _ _ => False) s
section
variable {X : Cx} {pins : List (Addr × Obj)} {σ : St} {H : Hp} {s : Shared}
end
end L2
end
section
namespace L2
open PySem PySem.Spec PyProof.Rows Tim
section
variable {X : Cx} {pins : List (Addr × Obj)} {σ : St} {H : Hp} {s : Shared}
end
def tSortLen (K : PySem.W.Frag) (ta : TA) : TE := fun σ H Q => ta σ H fun xs H1 => ∃ (l : Addr) (ss : List Str), xs = [.ref l] ∧ SqL K H1 l (ss.map V.str) ∧ ss.Pairwise Slt ∧ (∀ y ∈ ss, y.length ≤ sizeLine) ∧
  ∀ (a : Addr) (ss' : List Str), H1 a = none → ss'.Perm ss → ss'.Pairwise Wlt → Q (.ref a) (upd H1 a (.lst (ss'.map V.str)))
section
variable {X : Cx}
end
end L2
namespace L2
open PySem PySem.Spec PyProof.Rows Tim
def spLF : Sp := fun vs H Q _ => ∃ x : Str, vs = [.str x] ∧ x.length ≤ sizeLine ∧ ∀ p, H p = none → Q (.ref p) (upd H p (.tup [.int x.length, .str x]))
def tSortOwn (ta : TA) : TE := fun σ H Q => ta σ H fun xs H1 => ∃ (d : Addr) (kvs : List (Key × V)) (ss : List Str), xs = [.ref d] ∧ Rd H1 d (.dK kvs) ∧ kvs.map (fun p => kV p.1) = ss.map V.str ∧ ss.Nodup ∧ (∀ y ∈ ss, y.length ≤ sizeLine) ∧
  ∀ (a : Addr) (H2 : Hp) (ss' : List Str), H1 a = none → Same H1 H2 → H2 a = none → ss'.Perm ss → ss'.Pairwise Wlt → Q (.ref a) (upd H2 a (.lst (ss'.map V.str)))
section
variable {X : Cx}
end
end L2
end
section
namespace L2
open PySem PySem.Spec PyProof.Rows Tim
inductive Isi (H : Hp) : V → String → Bool → Prop where
  | ss (x : Str) : Isi H (.str x) "str" true
  | ii (i : Int) : Isi H (.int i) "int" true
  | ib (i : Int) : Isi H (.int i) "bool" false
  | ts {a : Addr} {xs : List V} (e : H a = some (.tup xs)) : Isi H (.ref a) "str" false
  | tt {a : Addr} {xs : List V} (e : H a = some (.tup xs)) : Isi H (.ref a) "tuple" true
  | ll {a : Addr} {xs : List V} (e : H a = some (.lst xs)) : Isi H (.ref a) "list" true
section
variable {X : Cx}
theorem call_isi : CallR X (.builtin "isinstance") (fun xs H Q => ∃ x n b, xs = [x, .ty n] ∧ Isi H x n b ∧ Q (.bl b) H) := by
  intro pins s σ H xs us Q I r h
  obtain ⟨x, n, b, rfl, hi, q⟩ := h
  obtain ⟨u, v, rfl, rx, ry⟩ := vals2 r
  cases ry
  cases hi with
  | ss x => obtain ⟨t, rfl⟩ := rx; exact PySem.IsiPair.str_str ⟨.bl true, H, I, rfl, q⟩
  | ii i => obtain ⟨t, rfl⟩ := rx; exact PySem.IsiPair.int_int ⟨.bl true, H, I, rfl, q⟩
  | ib i => obtain ⟨t, rfl⟩ := rx; exact PySem.IsiPair.int_bool ⟨.bl false, H, I.tok _, rfl, q⟩
  | @ts a xs e =>
    cases rx
    obtain ⟨_, us, ru, o, e7, e8, n, e9⟩ := (show ObjOk X.prog X.w H s.heap a (.tup xs) from I.hok a _ e)
    exact PySem.IsiPair.tuple_str e7 e8 ⟨.bl false, H, I.tok _, rfl, q⟩
  | @tt a xs e =>
    cases rx
    obtain ⟨_, us, ru, o, e7, e8, n, e9⟩ := (show ObjOk X.prog X.w H s.heap a (.tup xs) from I.hok a _ e)
    exact PySem.IsiPair.tuple_tuple e7 e8 ⟨.bl true, H, I, rfl, q⟩
  | @ll a xs e =>
    cases rx
    obtain ⟨_, us, n, ru, e7⟩ := (show ObjOk X.prog X.w H s.heap a (.lst xs) from I.hok a _ e)
    exact PySem.IsiPair.list_list e7 rfl ⟨.bl true, H, I, rfl, q⟩
theorem pe_ty {x : Str} {n : String} {pos : Pos} (hg : Gl X x) (hm : X.mg x = none) (hv : bootBuiltins x = some (.type n)) (hn : x ≠ "__name__" := by decide) (hd : (x == ("__debug__" : Str)) = false := by decide) : PE X (.Name x pos) (tC (.ty n)) :=
  pe_bltn hg hm hv rfl hn hd
theorem boot_isi : bootBuiltins "isinstance" = some (.builtin "isinstance") := by decide +kernel
end
end L2
end
section
namespace L2
open PySem PySem.Spec PyProof.Rows
def tCompIf (wi : TI) (tc : TT) (te : TE) (iw : Nat) (cap : St → St → Prop) : TE := fun σ H Q => wi σ H fun J H1 => ∃ σb : St, cap σ σb ∧ ∀ D, H1 D = none → ∃ W : Nat → Nat → Hp → Prop, (∃ m, W 0 m (upd H1 D (.lst []))) ∧
  ∀ i m H, W i m H → (J.stop i H ∧ Q (.ref D) H) ∨ (J.go i H ∧ ∀ x H', J.yld i H x H' → tc (σb.set iw (some x)) H' fun c H2 => if c = true then te (σb.set iw (some x)) H2 fun y H3 => ∃ ys, H3 D = some (.lst ys) ∧ ys.length < sizeLine ∧ ∃ m', m' < m ∧ W (i + 1) m' (upd H3 D (.lst (ys ++ [y])))
    else ∃ m', m' < m ∧ W (i + 1) m' H2)
section
variable {X : Cx} {elt iter tst : Expr} {x : Str} {px pos : Pos} {scope : Scope} {N' : List Str} {cl : List (Str × Addr)} {wi : TI} {te : TE} {tc : TT} {iw : Nat}
end
end L2
end
section
namespace L2
open PySem PySem.Spec PyProof.Rows
def rSlS : V → Option Int → Option Int → Hp → VK → Prop := fun x lo hi H Q => ∃ z, x = .str z ∧ z.length ≤ sizeLine ∧ Q (.str (Txt.slice z lo hi)) H
section
variable {X : Cx}
theorem part_ex {v : Value} {o : Option Int} (h : IsPart v o) : ∃ p : Option (Int × Tok), v = partValue p ∧ o = p.map (·.1) := by
  cases h with
  | none => exact ⟨none, rfl, rfl⟩
  | int i t => exact ⟨some (i, t), rfl, rfl⟩
theorem sl_str : SlR X rSlS := by
  intro pins s σ H x v vl vu lo hi sl Q I rx hs pl pu h
  obtain ⟨z, rfl, hz, q⟩ := h
  obtain ⟨t, rfl⟩ := rx
  obtain ⟨p1, rfl, rfl⟩ := part_ex pl
  obtain ⟨p2, rfl, rfl⟩ := part_ex pu
  refine ⟨"str", _, PySem.F.slot_str_getitem.lookup, typeIs_str _ _ _, ?_⟩
  refine wpAny_getItem_str_slice (l := p1) (u := p2) (st := none) hs rfl (post_val_or_str ⟨Nat.le_trans (Txt.slice_le z _ _) hz, fun t' k => ⟨.str (Txt.slice z (p1.map (·.1)) (p2.map (·.1))), H, I.kept (t' := k) (fun b o e => e), ⟨t', rfl⟩, q⟩⟩)
theorem sl_to {x : Str} {j : Int} (h : 0 ≤ j ∧ j ≤ x.length) : (Txt.slice x none (some j)).cps.toList = x.cps.toList.take j.toNat := by
  have h' : 0 ≤ j ∧ j ≤ (x.cps.toList.length : Int) := by
    have e : (x.cps.toList.length : Int) = x.length := by rw [Array.length_toList]; rfl
    omega
  have := eq_of_beq (slice_closes_to h')
  rw [this]
  simp
theorem sl_from {x : Str} {i : Int} (h : 0 ≤ i ∧ i ≤ x.length) : (Txt.slice x (some i) none).cps.toList = x.cps.toList.drop i.toNat := by
  have e : (x.length : Nat) = x.cps.toList.length := by rw [Array.length_toList]; rfl
  rw [slice_from_eq (b := x.length) h.1 h.2 rfl]
  show (x.cps.toList.drop i.toNat).take ((x.length : Int) - i).toNat = _
  refine List.take_of_length_le ?_
  rw [List.length_drop]
  omega
end
end L2
end
section
namespace L2
open PySem PySem.Spec PyProof.Rows Tim
section
variable {X : Cx} {pins : List (Addr × Obj)} {σ : St} {H : Hp} {s : Shared}
end
section
variable {X : Cx}
end
end L2
end
section
namespace L2
open PySem PySem.Spec PyProof.Rows Tim
theorem boot_all : bootBuiltins "all" = some (.builtin "all") := by decide +kernel
theorem boot_range : bootBuiltins "range" = some (.builtin "range") ∨ bootBuiltins "range" = some (.type "range") := by first | exact .inl (by decide +kernel) | exact .inr (by decide +kernel)
section
variable {X : Cx}
theorem call_all (hc : X.calm = true) : CallR X (.builtin "all") (fun xs H Q => ∃ (l : Addr) (bs : List Bool), xs = [.ref l] ∧ SqL X.K H l (bs.map V.bl) ∧ Q (.bl (bs.all id)) H) := by
  intro pins s σ H xs us Q I r h
  obtain ⟨l, bs, rfl, hl, q⟩ := h
  obtain ⟨u, rfl, rx⟩ := vals1 r
  cases rx
  obtain ⟨its, r, p, hz⟩ := I.list hl
  have hlt : l < s.heap.objs.size := by obtain ⟨o, n, e, _⟩ := p; exact Heap.lt_size e
  have hlen : its.length = bs.length := by rw [← r.length, List.length_map]
  have hsz : its.toArray.size = bs.length := by simp [hlen]
  refine call_all_walk (wpAny_pyIter_list p.isList ?_)
  refine ⟨_, _, _, _, _, _, fun i => bs.getD i true, rfl, Walks.list (A := X.A.in1) (I.ok.hd hc) s.heap.objs.size l (Nat.ne_of_lt hlt) its.toArray, ⟨⟨_, Heap.get?_push_size _ rfl, rfl, rfl⟩, p.isList.push _⟩, ?_, fun h' tk hk => ?_⟩
  · intro i v s' Q' E' hv h'
    have hv : its[i]? = some v := by simpa using hv
    have hi : i < bs.length := by rw [← hlen]; exact (List.getElem?_eq_some_iff.mp hv).1
    obtain ⟨u, hu, ru⟩ := r.get (i := i) (x := V.bl bs[i]) (by rw [List.getElem?_map, List.getElem?_eq_getElem hi]; rfl)
    rw [hu] at hv
    have e0 : u = v := Option.some.inj hv
    have ru : u = Value.bool bs[i] := ru
    rw [← e0, ru]
    have e : bs.getD i true = bs[i] := by simp [List.getD, List.getElem?_eq_getElem hi]
    have h' : Q' (bs.getD i true) s' := h'
    rw [e] at h'
    exact wpAny_pure h'
  · rw [hsz]
    have e : (List.range bs.length).all (fun i => bs.getD i true) = bs.all id := by
      rw [Bool.eq_iff_iff, List.all_eq_true, List.all_eq_true]
      constructor
      · intro h b hb
        obtain ⟨i, hi, rfl⟩ := List.mem_iff_getElem.mp hb
        have := h i (List.mem_range.mpr hi)
        simpa [List.getD, List.getElem?_eq_getElem hi] using this
      · intro h i hi
        have hi := List.mem_range.mp hi
        have := h bs[i] (List.getElem_mem hi)
        simpa [List.getD, List.getElem?_eq_getElem hi] using this
    rw [e]
    refine ⟨.bl (bs.all id), H, ?_, rfl, q⟩
    refine I.kept (t' := tk) fun b o e => hk b o (fun hm => ?_) (Heap.get?_push_of_some _ e)
    simp only [List.mem_cons, List.not_mem_nil, or_false] at hm
    subst hm
    exact absurd (Heap.lt_size e) (Nat.lt_irrefl _)
end
theorem comp_rng {TEx : V → Hp → VK → Prop} {QD : Hp → Prop} {H1 : Hp} {D : Addr} {lo : Int} {n : Nat} (g : Nat → V) (hz : n < sizeLine) (hD : H1 D = none)
    (he : ∀ (i : Nat) (Hx : Hp) (R : VK), i < n → Same H1 Hx → (∀ Hy, Same Hx Hy → R (g i) Hy) → TEx (.int (lo + i)) Hx R)
    (q : ∀ Hx, Same H1 Hx → Hx D = some (.lst ((List.range n).map g)) → QD Hx) :
    ∃ W : Nat → Nat → Hp → Prop, (∃ m, W 0 m (upd H1 D (.lst []))) ∧ ∀ i m H, W i m H → ((Itr lo n).stop i H ∧ QD H) ∨ ((Itr lo n).go i H ∧ ∀ x H', (Itr lo n).yld i H x H' → TEx x H' fun y H2 => ∃ ys, H2 D = some (.lst ys) ∧ ys.length < sizeLine ∧ ∃ m', m' < m ∧ W (i + 1) m' (upd H2 D (.lst (ys ++ [y])))) := by
  refine ⟨fun i m Hx => m = n - i ∧ i ≤ n ∧ Same H1 Hx ∧ Hx D = some (.lst ((List.range i).map g)), ⟨n, rfl, Nat.zero_le _, upd_same2' hD, upd_same⟩, ?_⟩
  rintro i m Hx ⟨rfl, hi, sx, xD⟩
  by_cases hlt : i < n
  · refine .inr ⟨hlt, fun x H' hy => ?_⟩
    obtain ⟨rfl, rfl⟩ := hy
    refine he i _ _ hlt sx fun Hy sy => ⟨_, sy _ _ xD, ?_, n - (i + 1), by omega, rfl, hlt, ?_, ?_⟩
    · simp; omega
    · intro b o e
      rw [upd_ne (ne_of_none e hD)]; exact sy _ _ (sx _ _ e)
    · rw [upd_same, List.range_succ, List.map_append]; rfl
  · have e : i = n := by omega
    subst e
    exact .inl ⟨Nat.le_refl _, q Hx sx xD⟩
where
  upd_same2' {H : Hp} {D : Addr} {o : HO} (h : H D = none) : Same H (upd H D o) := fun b u e => by rw [upd_ne (ne_of_none e h)]; exact e
end L2
end
section
namespace L2
open PySem PySem.Spec PyProof.Rows Tim
inductive EqV (K : PySem.W.Frag) (H : Hp) : Nat → V → V → Bool → Prop where
  | int (n : Nat) (i j : Int) : EqV K H n (.int i) (.int j) (i == j)
  | str (n : Nat) (x y : Str) : EqV K H n (.str x) (.str y) (x == y)
  | bl (n : Nat) (x y : Bool) : EqV K H n (.bl x) (.bl y) (x == y)
  | same (n : Nat) (a : Addr) : EqV K H n (.ref a) (.ref a) true
  | tup {n : Nat} {a b : Addr} {xs ys : List V} {e : Nat → Bool} (ne : a ≠ b) (ha : SqT K H a xs) (hb : SqT K H b ys) (h : ∀ (j : Nat) u v, xs[j]? = some u → ys[j]? = some v → EqV K H n u v (e j)) :
      EqV K H (n + 1) (.ref a) (.ref b) ((List.range (min xs.length ys.length)).all e && xs.length == ys.length)
section
variable {X : Cx}
theorem isTup_tuple {h : Heap} {a : Addr} {its : Array Value} (p : IsTup h a its) : h.IsTuple a its := p
theorem eqv_at {pins : List (Addr × Obj)} {σ : St} {H : Hp} {s : Shared} (I : Inv X pins σ H s) {n : Nat} {x y : V} {b : Bool} (h : EqV X.K H n x y b) : ∀ {A : Around} {u v : Value}, RelV x u → RelV y v → A.units + n < cLine → SeqAt.EqAt A s u v b := by
  induction h with
  | int n i j => intro A u v r r' _; obtain ⟨t, rfl⟩ := r; obtain ⟨t', rfl⟩ := r'; exact SeqAt.EqAt.int_int _ _ _ _
  | str n i j => intro A u v r r' _; obtain ⟨t, rfl⟩ := r; obtain ⟨t', rfl⟩ := r'; exact SeqAt.EqAt.str_str _ _ _ _
  | bl n i j => intro A u v r r' _; cases r; cases r'; exact SeqAt.EqAt.bool_bool _ _
  | same n a => intro A u v r r' _; cases r; cases r'; exact SeqAt.EqAt.same _
  | @tup n a b xs ys e ne ha hb h ih =>
    intro A u v r r' hu
    cases r
    cases r'
    obtain ⟨us1, r1, p1, _⟩ := I.tuple ha
    obtain ⟨us2, r2, p2, _⟩ := I.tuple hb
    have l1 := r1.length
    have l2 := r2.length
    have key := SeqAt.RcAt.tuples (A := A) (s := s) (e := e) (isTup_tuple p1) (isTup_tuple p2) (by omega) fun j j1 j2 => by
      have j1 : j < us1.length := by simpa using j1
      have j2 : j < us2.length := by simpa using j2
      have jx : j < xs.length := by omega
      have jy : j < ys.length := by omega
      obtain ⟨w1, e1, q1⟩ := r1.get (List.getElem?_eq_getElem jx)
      obtain ⟨w2, e2, q2⟩ := r2.get (List.getElem?_eq_getElem jy)
      rw [List.getElem?_eq_getElem j1] at e1
      rw [List.getElem?_eq_getElem j2] at e2
      have := ih j _ _ (List.getElem?_eq_getElem jx) (List.getElem?_eq_getElem jy) (A := A.in1) q1 q2 (by show A.units + 1 + n < cLine; omega)
      simp only [List.getElem_toArray]
      rw [Option.some.inj e1, Option.some.inj e2]
      exact this
    refine SeqAt.EqAt.of_refs ne ?_
    have e3 : us1.toArray.size = xs.length := by simp [l1]
    have e4 : us2.toArray.size = ys.length := by simp [l2]
    rw [e3, e4] at key
    exact key
structure Items (K : PySem.W.Frag) (H : Hp) (n : Nat) (xs ys : List V) (e : Nat → Bool) : Prop where
  h : ∀ (j : Nat) u v, xs[j]? = some u → ys[j]? = some v → EqV K H n u v (e j)
theorem items_at {pins : List (Addr × Obj)} {σ : St} {H : Hp} {s : Shared} (I : Inv X pins σ H s) {n : Nat} {xs ys : List V} {us1 us2 : List Value} {e : Nat → Bool} (h : Items X.K H n xs ys e) {A : Around} (hu : A.units + n + 1 < cLine) (r1 : Vals xs us1) (r2 : Vals ys us2) :
    ∀ j (h1 : j < us1.toArray.size) (h2 : j < us2.toArray.size), SeqAt.EqAt A.in1 s us1.toArray[j] us2.toArray[j] (e j) := fun j j1 j2 => by
  have l1 := r1.length
  have l2 := r2.length
  have j1 : j < us1.length := by simpa using j1
  have j2 : j < us2.length := by simpa using j2
  have jx : j < xs.length := by omega
  have jy : j < ys.length := by omega
  obtain ⟨w1, e1, q1⟩ := r1.get (List.getElem?_eq_getElem jx)
  obtain ⟨w2, e2, q2⟩ := r2.get (List.getElem?_eq_getElem jy)
  rw [List.getElem?_eq_getElem j1] at e1
  rw [List.getElem?_eq_getElem j2] at e2
  have := eqv_at I (h.h j _ _ (List.getElem?_eq_getElem jx) (List.getElem?_eq_getElem jy)) (A := A.in1) q1 q2 (by show A.units + 1 + n < cLine; omega)
  simp only [List.getElem_toArray]
  rw [Option.some.inj e1, Option.some.inj e2]
  exact this
def tupEq (xs ys : List V) (e : Nat → Bool) : Bool := (List.range (min xs.length ys.length)).all e && xs.length == ys.length
def lstEq (xs ys : List V) (e : Nat → Bool) : Bool := decide (xs.length = ys.length) && (List.range xs.length).all e
theorem op_neLs : OpR X (compareOp .NotEq) (fun x y H Q => ∃ a b xs ys n e, x = .ref a ∧ y = .ref b ∧ SqL X.K H a xs ∧ SqL X.K H b ys ∧ (xs.length = ys.length → Items X.K H n xs ys e) ∧ X.A.units + n + 1 < cLine ∧ Q (.bl (!lstEq xs ys e)) H) := by
  intro pins s σ H x y v u Q I rx ry h
  obtain ⟨a, b, xs, ys, n, e, rfl, rfl, ha, hb, he, hu, q⟩ := h
  cases rx
  cases ry
  obtain ⟨us1, r1, p1, _⟩ := I.list ha
  obtain ⟨us2, r2, p2, _⟩ := I.list hb
  have e3 : us1.toArray.size = xs.length := by simp [r1.length]
  have e4 : us2.toArray.size = ys.length := by simp [r2.length]
  unfold lstEq at q
  by_cases hl : xs.length = ys.length
  · have key := SeqAt.RcNeAt.lists (A := X.A) (s := s) (e := e) p1.isList p2.isList (by omega) (by omega) (items_at I (he hl) hu r1 r2)
    rw [e3] at key
    rw [decide_eq_true hl, Bool.true_and] at q
    exact key X.prog X.w _ _ ⟨.bl _, H, I, rfl, q⟩
  · have key := SeqAt.RcNeAt.lists_lengths (A := X.A) (s := s) p1.isList p2.isList (by rw [e3, e4]; simpa using hl) (by omega)
    rw [decide_eq_false hl, Bool.false_and] at q
    exact key X.prog X.w _ _ ⟨.bl true, H, I, rfl, q⟩
inductive Isi2 (H : Hp) : V → String → Bool → Prop where
  | bb (b : Bool) : Isi2 H (.bl b) "bool" true
  | tl {a : Addr} {xs : List V} (e : H a = some (.tup xs)) : Isi2 H (.ref a) "list" false
  | lt {a : Addr} {xs : List V} (e : H a = some (.lst xs)) : Isi2 H (.ref a) "tuple" false
  | st (x : Str) : Isi2 H (.str x) "tuple" false
end
def Sc (v : V) : Prop := (∃ i, v = .int i) ∨ (∃ x, v = .str x) ∨ (∃ b, v = .bl b) ∨ ∃ a, v = .ref a
theorem eqv_self {K : PySem.W.Frag} {H : Hp} {n : Nat} {v : V} (h : Sc v) : EqV K H n v v true := by
  rcases h with ⟨i, rfl⟩ | ⟨x, rfl⟩ | ⟨b, rfl⟩ | ⟨a, rfl⟩
  · have := EqV.int (K := K) (H := H) n i i; simpa using this
  · have := EqV.str (K := K) (H := H) n x x; simpa using this
  · have := EqV.bl (K := K) (H := H) n b b; simpa using this
  · exact EqV.same n a
theorem items_self {K : PySem.W.Frag} {H : Hp} {n : Nat} {xs : List V} (h : ∀ v ∈ xs, Sc v) : Items K H n xs xs (fun _ => true) := ⟨fun j u v e1 e2 => by
  rw [e1] at e2
  cases e2
  exact eqv_self (h _ (List.mem_of_getElem? e1))⟩
theorem un_of {A : Around} {k n : Nat} (hr : Room k A) (h : n ≤ 60) : A.units + n + 1 < cLine := by
  have := hr.units
  omega
end L2
end
section
namespace L2
open PySem PySem.Spec PyProof.Rows Tim
def tYes : TT := fun _ H Q => Q true H
def PIfs (X : Cx) (ifs : List Expr) (tc : TT) : Prop := ∀ (pins : List (Addr × Obj)) (s : Shared) (σ : St) (H : Hp) (Q : Bool → Hp → Prop), Inv X pins σ H s → tc σ H Q →
  wpAny (model X.prog X.w) X.A (forIn ifs true fun c r => if r = true then do let ok ← isTrue c X.env (eval c X.env); pure (ForInStep.yield ok) else pure (ForInStep.yield r)) (TP X pins σ Q) X.xe s
theorem pifs_nil {X : Cx} : PIfs X [] tYes := fun pins s σ H Q I h => by
  rw [List.forIn_nil]
  exact wpAny_pure ⟨H, I, h⟩
theorem pifs_one {X : Cx} {c : Expr} {tc : TT} (hc : PT X c tc) : PIfs X [c] tc := fun pins s σ H Q I h => by
  rw [List.forIn_cons]
  refine wpAny_bind ?_
  rw [if_pos rfl]
  refine wpAny_bind (thn (hc pins s σ H Q I h) fun b s1 q => wpAny_pure ?_)
  dsimp only
  rw [List.forIn_nil]
  exact wpAny_pure q
theorem compLoopG {prog : Program} {w : World} {A : Around} {R : Result → Shared → Prop} {s : Shared} {elt target iter : Expr} {ifs : List Expr} {scope : Scope} {pos : Pos} {it acc : Value} {env : Env} (I : Nat → Shared → Prop)
    (turn : ∀ n s, I n s → wpAny (model prog w) A (pyNext it) (fun r s₁ => match r with
      | none => R (.ok .next) s₁
      | some v => wpAny (model prog w) A (letOwnedTupleGo target it v) (fun _ s₁' => wpAny (model prog w) A (assign target env v) (fun _ s₂ =>
          wpAny (model prog w) A (forIn ifs true fun c r => if r = true then do let ok ← isTrue c env (eval c env); pure (ForInStep.yield ok) else pure (ForInStep.yield r)) (fun ok s₃ =>
            if ok = true then wpAny (model prog w) A (eval elt env) (fun x s₄ =>
              wpAny (model prog w) A (call (.builtin "list.append") [acc, x]) (fun _ s₅ => ∃ m, m < n ∧ I m s₅) (notedBy (model prog w) A env fun e s' => R (.error e) s') s₄) (notedBy (model prog w) A env fun e s' => R (.error e) s') s₃
            else ∃ m, m < n ∧ I m s₃) (notedBy (model prog w) A env fun e s' => R (.error e) s') s₂) (notedBy (model prog w) A env fun e s' => R (.error e) s') s₁') (notedBy (model prog w) A env fun e s' => R (.error e) s') s₁) (notedBy (model prog w) A env fun e s' => R (.error e) s') s)
    (n : Nat) (h : I n s) : codeAny (model prog w) A (.compLoop (.ListComp elt [⟨target, iter, ifs, 0⟩] scope pos) 0 it acc env) R s := by
  refine codeAny_loop rfl I (fun n s hI => ?_) n h
  show wpAny _ A ((compTurn (.ListComp elt [⟨target, iter, ifs, 0⟩] scope pos) 0 it acc env).onRaise (fun x => do noteFrame x env; theTreesLotGoes x)) _ _ s
  refine wpAny_noted ?_
  rw [compTurn_list]
  refine wpAny_bind (wpAny_standAt (wpAny_bind (wpAny_mono (turn n s hI) (fun r s₁ h₁ => ?_) fun _ _ h' => h')))
  cases r with
  | none => exact wpAny_pure h₁
  | some v =>
    refine wpAny_bind (wpAny_mono h₁ (fun _ s₁' h₁ => ?_) fun _ _ h' => h')
    refine wpAny_bind (wpAny_mono h₁ (fun _ s₂ h₂ => wpAny_bind (wpAny_mono h₂ (fun ok s₃ h₃ => ?_) fun _ _ h' => h')) fun _ _ h' => h')
    cases ok with
    | false => exact wpAny_pure ⟨rfl, h₃⟩
    | true =>
      exact wpAny_bind (wpAny_bind (wpAny_mono h₃ (fun x s₄ h₄ => wpAny_bind (wpAny_mono h₄ (fun _ s₅ h₅ => wpAny_pure (wpAny_pure ⟨rfl, h₅⟩)) fun _ _ h' => h')) fun _ _ h' => h'))
def tCompG (wi : TI) (g : TG) (tc : TT) (te : TE) (cap : St → St → Prop) : TE := fun σ H Q => wi σ H fun J H1 => ∃ σb : St, cap σ σb ∧ ∀ D, H1 D = none → ∃ W : Nat → Nat → St → Hp → Prop, (∃ m, W 0 m σb (upd H1 D (.lst []))) ∧
  ∀ i m σx H, W i m σx H → (J.stop i H ∧ Q (.ref D) H) ∨ (J.go i H ∧ ∀ x H', J.yld i H x H' → g x σx H' fun σ2 H2 => tc σ2 H2 fun c H3 => if c = true then te σ2 H3 fun y H4 => ∃ ys, H4 D = some (.lst ys) ∧ ys.length < sizeLine ∧ ∃ m', m' < m ∧ W (i + 1) m' σ2 (upd H4 D (.lst (ys ++ [y])))
    else ∃ m', m' < m ∧ W (i + 1) m' σ2 H3)
section
variable {X : Cx} {elt iter tg : Expr} {ifs : List Expr} {pos : Pos} {scope : Scope} {N' : List Str} {cl : List (Str × Addr)} {wi : TI} {g : TG} {te : TE} {tc : TT}
theorem comp_core {cpos : Pos} {use : Option (Value → Sem Unit)} {Qf : Value → Shared → Prop} {pins : List (Addr × Obj)} {s : Shared} {σ : St} {H : Hp} {Q : VK} (hc : X.calm = true) (O : CompOk X N' scope cl) (hi : PI X tg iter wi)
    (hg : ∀ (C : Addr) (s₀ : Shared) (H₀ : Hp) (ex : List Addr) (pn : List (Addr × Obj)) (xe : Value → Shared → Prop), PG (compCx X N' scope cl C s₀ H₀ ex pn xe) tg g)
    (ht : ∀ (C : Addr) (s₀ : Shared) (H₀ : Hp) (ex : List Addr) (pn : List (Addr × Obj)) (xe : Value → Shared → Prop), PIfs (compCx X N' scope cl C s₀ H₀ ex pn xe) ifs tc)
    (he : ∀ (C : Addr) (s₀ : Shared) (H₀ : Hp) (ex : List Addr) (pn : List (Addr × Obj)) (xe : Value → Shared → Prop), PE (compCx X N' scope cl C s₀ H₀ ex pn xe) elt te)
    (hs : ∀ x, foldedSetIterable iter X.env x = pure x)
    (hend : ∀ (D C : Addr) (s4 : Shared) (H3 : Hp) (m : Str → Option Value), s4.heap.Ns C m → H3 C = none → X.s₀.heap.objs.size ≤ C → C ≠ X.env.locals → (∀ x c, X.env.cells.lookup x = some c → c ≠ C) → (∀ p ∈ X.pn ++ pins, p.1 ≠ C) → (∀ h', Heap.SameBut C s4.heap h' → Inv X pins σ H3 { s4 with heap := h' }) → Q (.ref D) H3 → compPost (model X.prog X.w) X.A X.xe use Qf (.ref D) C (.ok .next) s4)
    (I : Inv X pins σ H s) (h : tCompG wi g tc te (Capt X N' scope cl) σ H Q) :
    wpAny (model X.prog X.w) X.A (comprehension (.ListComp elt [⟨tg, iter, ifs, 0⟩] scope pos) scope X.env cpos (newList []) false (eval iter X.env) use) Qf X.xe s := by
  refine wpAny_comprehension_free (use := use) rfl hs O.clos O.kind O.names (thn (hi pins s σ H _ I h) fun xv s1 h1 => thn h1 fun itv s2 h2 => ?_)
  obtain ⟨it, fp, tn, J, H2, e, I2, T, st2, f2, σb, cap, q⟩ := h2
  subst e
  have hfp : ∀ b ∈ fp, b < s2.heap.objs.size := fun b hb => by
    obtain ⟨o, ho, _⟩ := T.obj _ _ st2 b hb
    exact Heap.lt_size ho
  refine wpAny_newObj_type (wpAny_newFunctionEnv O.nocell (by intro y hy; simp at hy) (fun h₁ hns₁ hsb₁ => ?_) O.kind)
  dsimp only at hns₁ hsb₁ ⊢
  generalize hH2 : s2.heap.push { cls := .type "list", dict := none, data := .seq ([] : List Value).toArray } = Hq at hns₁ hsb₁ ⊢
  have hCs : Hq.objs.size = s2.heap.objs.size + 1 := by rw [← hH2, Heap.size_push]
  have hDC : s2.heap.objs.size ≠ Hq.objs.size := by omega
  have old : ∀ b o, s2.heap.get? b = some o → h₁.get? b = some o := fun b o e =>
    hsb₁.extBut b o (Nat.ne_of_lt (Nat.lt_trans (Heap.lt_size e) (by rw [hCs]; exact Nat.lt_succ_self _))) (Heap.get?_push_of_some _ (hH2 ▸ Heap.get?_push_of_some _ e))
  have hDo : h₁.get? s2.heap.objs.size = some { cls := .type "list", data := .seq #[] } := hsb₁.extBut _ _ hDC (Heap.get?_push_of_some _ (hH2 ▸ Heap.get?_push_size _ rfl))
  obtain ⟨W, ⟨m0, w0⟩, turn⟩ := q s2.heap.objs.size (I2.hok.fresh (Nat.le_refl _))
  let R : Result → Shared → Prop := compPost (model X.prog X.w) X.A X.xe use Qf (.ref s2.heap.objs.size) Hq.objs.size
  let xe : Value → Shared → Prop := notedBy (model X.prog X.w) X.A (compEnvC scope cl Hq.objs.size X.env) fun e s' => R (.error e) s'
  have I0 : Inv (compCx X N' scope cl Hq.objs.size s2 H2 fp (X.pn ++ pins) xe) [] σb (upd H2 s2.heap.objs.size (.lst [])) { s2 with heap := h₁, toks := s2.toks + ([] : List (Str × Value)).length } :=
    comp_start I2 hc O cap f2 hfp (by omega) (Nat.le_refl _) hDC old hns₁ hDo
  have st0 : tn 0 h₁ := T.keep _ _ _ st2 fun b hb o e => old b o e
  have fr0 : ∀ b ∈ fp, upd H2 s2.heap.objs.size (.lst []) b = none := fun b hb => by
    rw [upd_ne (Nat.ne_of_lt (hfp b hb))]; exact (f2 b hb).1
  have stat : ∀ {H' : Hp}, (∀ b ∈ fp, H' b = none) → ∀ b ∈ fp, FpOk (compCx X N' scope cl Hq.objs.size s2 H2 fp (X.pn ++ pins) xe) [] H' b := fun hn b hb => by
    obtain ⟨f0, f1, fb, f3, f4, f5⟩ := f2 b hb
    refine ⟨hn b hb, Nat.ne_of_lt (show b < Hq.objs.size from Nat.lt_trans (hfp b hb) (by rw [hCs]; exact Nat.lt_succ_self _)), fun z => ?_, .inl hb, fun x c e => f4 x c (O.sub x c e), fun p hp => f5 p (by
      have hp : p ∈ (X.pn ++ pins) ++ [] := hp
      simpa using hp)⟩
    rcases List.mem_cons.mp (I2.stkSub b z) with q | q
    · exact f1 q
    · exact fb q
  have hgg := hg Hq.objs.size s2 H2 fp (X.pn ++ pins) xe
  have hb := he Hq.objs.size s2 H2 fp (X.pn ++ pins) xe
  have htt := ht Hq.objs.size s2 H2 fp (X.pn ++ pins) xe
  have loop : codeAny (model X.prog X.w) X.A (.compLoop (.ListComp elt [⟨tg, iter, ifs, 0⟩] scope pos) 0 (.ref it) (.ref s2.heap.objs.size) (compEnvC scope cl Hq.objs.size X.env)) R
      { s2 with heap := h₁, toks := s2.toks + ([] : List (Str × Value)).length } := by
    refine compLoopG (fun n s' => ∃ i σx H', Inv (compCx X N' scope cl Hq.objs.size s2 H2 fp (X.pn ++ pins) xe) [] σx H' s' ∧ tn i s'.heap ∧ (∀ b ∈ fp, H' b = none) ∧ W i n σx H') ?_ m0 ⟨0, σb, _, I0, st0, fr0, w0⟩
    rintro n s3 ⟨i, σx, H3, I3, st3, fr3, w3⟩
    rcases turn i n σx H3 w3 with ⟨stop, qn⟩ | ⟨go, step⟩
    · refine thn (T.done (compCx X N' scope cl Hq.objs.size s2 H2 fp (X.pn ++ pins) xe) rfl rfl rfl hc i [] s3 _ H3 xe I3 (stat fr3) st3 stop) fun r s4 ⟨hr, I4⟩ => ?_
      subst hr
      obtain ⟨m, hn, _⟩ := I4.loc
      have hlt2 : X.s₀.heap.objs.size ≤ Hq.objs.size := by have := I2.sz; omega
      refine hend s2.heap.objs.size Hq.objs.size s4 H3 m hn I4.free hlt2 ?_ ?_ ?_ (fun h' sb => comp_end I2 f2 (by omega) I4 sb) qn
      · exact Nat.ne_of_gt (Nat.lt_of_lt_of_le I2.lt (by omega))
      · intro x c e z
        obtain ⟨v, o, ho, _⟩ := I2.cell x c e
        have := Heap.lt_size ho
        rw [z, hCs] at this
        exact absurd this (Nat.not_lt.mpr (Nat.le_succ _))
      · intro p hp z
        have := Heap.lt_size (I2.pin p hp).1
        rw [z, hCs] at this
        exact absurd this (Nat.not_lt.mpr (Nat.le_succ _))
    · refine thn (T.item (compCx X N' scope cl Hq.objs.size s2 H2 fp (X.pn ++ pins) xe) rfl rfl rfl hc i [] s3 _ H3 xe I3 (stat fr3) st3 go) fun r s4 ⟨u, hr, h4⟩ => ?_
      subst hr
      refine (thn h4 fun _ s5 ⟨y, H5, I5, r5, y5, st5, fr5⟩ => ?_)
      have I5' := I5.pinned (stat fr5) (T.obj _ _ st5)
      refine thn (hgg _ s5 _ H5 y u _ I5' r5 (step y H5 y5)) fun _ s6 ⟨σ6, H6, I6, q6⟩ => ?_
      refine thn (htt _ s6 _ H6 _ I6 q6) fun c s7 ⟨H7, I7, q7⟩ => ?_
      cases c with
      | false =>
        rw [if_neg Bool.false_ne_true] at q7 ⊢
        obtain ⟨m', hm, w7⟩ := q7
        refine ⟨m', hm, i + 1, σ6, _, I7.unpinned, T.keep _ _ _ st5 fun b hb o e => (I7.pin (b, o) (List.mem_append_right _ (List.mem_append_right _ (mem_pinsAt hb e)))).1, fun b hb => ?_, w7⟩
        obtain ⟨o, e, d⟩ := T.obj _ _ st5 b hb
        exact (I7.pin (b, o) (List.mem_append_right _ (List.mem_append_right _ (mem_pinsAt hb e)))).2.1
      | true =>
        rw [if_pos rfl] at q7 ⊢
        refine thn (hb _ s7 _ H7 _ I7 q7) fun z s8 ⟨yv, H8, I8, r8, ys, eD, hz, m', hm, w8⟩ => ?_
        refine thn (mt_append _ s8 _ H8 (.ref s2.heap.objs.size) [yv] (.ref s2.heap.objs.size) [z] (fun _ H9 => H9 = upd H8 s2.heap.objs.size (.lst (ys ++ [yv]))) I8 rfl (.cons r8 .nil) ⟨_, ys, yv, rfl, rfl, eD, hz, rfl⟩) fun _ s9 ⟨_, H9, I9, _, e9⟩ => ?_
        subst e9
        refine ⟨m', hm, i + 1, σ6, _, I9.unpinned, T.keep _ _ _ st5 fun b hb o e => (I9.pin (b, o) (List.mem_append_right _ (List.mem_append_right _ (mem_pinsAt hb e)))).1, fun b hb => ?_, w8⟩
        obtain ⟨o, e, d⟩ := T.obj _ _ st5 b hb
        exact (I9.pin (b, o) (List.mem_append_right _ (List.mem_append_right _ (mem_pinsAt hb e)))).2.1
  exact codeAny_compStart_list loop (T.self X.A 0 _ _ _ st0 loop)
theorem pe_compG (hc : X.calm = true) (O : CompOk X N' scope cl) (hi : PI X tg iter wi)
    (hg : ∀ (C : Addr) (s₀ : Shared) (H₀ : Hp) (ex : List Addr) (pn : List (Addr × Obj)) (xe : Value → Shared → Prop), PG (compCx X N' scope cl C s₀ H₀ ex pn xe) tg g)
    (ht : ∀ (C : Addr) (s₀ : Shared) (H₀ : Hp) (ex : List Addr) (pn : List (Addr × Obj)) (xe : Value → Shared → Prop), PIfs (compCx X N' scope cl C s₀ H₀ ex pn xe) ifs tc)
    (he : ∀ (C : Addr) (s₀ : Shared) (H₀ : Hp) (ex : List Addr) (pn : List (Addr × Obj)) (xe : Value → Shared → Prop), PE (compCx X N' scope cl C s₀ H₀ ex pn xe) elt te)
    (hs : ∀ x, foldedSetIterable iter X.env x = pure x := by intro _; rfl) :
    PE X (.ListComp elt [⟨tg, iter, ifs, 0⟩] scope pos) (tCompG wi g tc te (Capt X N' scope cl)) := by
  intro pins s σ H Q I h
  rw [eval_ListComp]
  exact comp_core (use := none) (Qf := EP X pins σ Q) (Q := Q) (pins := pins) (σ := σ) hc O hi hg ht he hs (fun D C s4 H3 m hn _ _ _ _ _ fin qn => ⟨m, hn, fun h' sb => ⟨.ref D, H3, fin h' sb, rfl, qn⟩⟩) I h
end
theorem filter_yes {α : Type} (l : List α) : l.filter (fun _ => true) = l := by simp
theorem lk_mem {x : Str} {k : NameKind} : ∀ {l : List (Str × NameKind)}, l.lookup x = some k → (x, k) ∈ l
  | [], h => by cases h
  | (y, j) :: r, h => by
    rw [List.lookup_cons] at h
    split at h
    · rename_i e
      cases h
      rw [eq_of_beq e]
      exact List.mem_cons_self
    · exact List.mem_cons_of_mem _ (lk_mem h)
theorem lk_has {x : Str} {l : List (Str × NameKind)} {ys : List Str} (h : l.lookup x = some .cell ∨ l.lookup x = some .free) (e : (l.filter fun p => p.2 == .cell || p.2 == .free).map (·.1) = ys) : x ∈ ys := by
  rw [← e]
  rcases h with h | h
  · exact List.mem_map.mpr ⟨_, List.mem_filter.mpr ⟨lk_mem h, rfl⟩, rfl⟩
  · exact List.mem_map.mpr ⟨_, List.mem_filter.mpr ⟨lk_mem h, rfl⟩, rfl⟩
end L2
end
section
namespace L2
open PySem PySem.Spec PyProof.Rows PySem.W PySem.Builtin PySem.Builtin.ObjectAttr PySem.Builtin.Getset_descriptor
def bmVE : List Value := [.type "ValueError", .type "Exception", .type "BaseException", .type "object"]
def excKit (K : PySem.W.Frag) (C : Addr) : Bool := excIn K C bmVE "ValueError.__new__" && (clsIn K C).isSome && findIn K (.ref C) "__getattribute__" == some (some (.builtin "BaseException.__getattribute__")) && findIn K (.ref C) "__getattr__" == some none
  && findIn K (.ref C) "__class__" == some (some (.builtin "object.__class__")) && specialIn K (.builtin "object.__class__") "__get__" == some (some (.builtin "getset_descriptor.__get__")) && takesIn K (.builtin "object.__class__") == some true
  && mroIn K C (.type "object") == some true && mroIn K C (.type "BaseException") == some true && typeIn K (.ref C) == some (.type "type")
structure ExcF (K : PySem.W.Frag) (C : Addr) : Prop where
  own : excIn K C bmVE "ValueError.__new__" = true
  cls : (clsIn K C).isSome = true
  ga : findIn K (.ref C) "__getattribute__" = some (some (.builtin "BaseException.__getattribute__"))
  gh : findIn K (.ref C) "__getattr__" = some none
  ca : findIn K (.ref C) "__class__" = some (some (.builtin "object.__class__"))
  sp : specialIn K (.builtin "object.__class__") "__get__" = some (some (.builtin "getset_descriptor.__get__"))
  tk : takesIn K (.builtin "object.__class__") = some true
  mo : mroIn K C (.type "object") = some true
  mb : mroIn K C (.type "BaseException") = some true
  ty : typeIn K (.ref C) = some (.type "type")
theorem excF_of {K : PySem.W.Frag} {C : Addr} (e : excKit K C = true) : ExcF K C := by
  unfold excKit at e
  simp only [Bool.and_eq_true, beq_iff_eq] at e
  obtain ⟨⟨⟨⟨⟨⟨⟨⟨⟨a, b⟩, c⟩, d⟩, f⟩, g⟩, h⟩, i⟩, j⟩, k⟩ := e
  exact ⟨a, b, c, d, f, g, h, i, j, k⟩
def ExAt (e C : Addr) (h : Heap) : Prop := ∃ oe vs, h.get? e = some oe ∧ oe.cls = .ref C ∧ oe.data = .fields vs
section
variable {K : PySem.W.Frag} {M : Model} {h : Heap} {x C : Addr}
theorem ExAt.type (I : ExAt x C h) : Looks M h (typeOf (.ref x)) (.ref C) := by
  obtain ⟨oe, vs, h1, h2, _⟩ := I
  exact h2 ▸ (Looks.ld h1).andThen .now
theorem looks_findD {name : Str} {a g : Value} (X : K.In h) (ha : findIn K (.ref C) name = some (some a)) (hg : specialIn K a "__get__" = some (some g)) (ht : takesIn K a = some true) : Looks M h (find (.ref x) (.ref C) name) (.bind g a) :=
  (looks_findIn (M := M) X ha).andThen ((show Looks M h (getOf (some a)) (some g) from looks_specialIn X hg).andThen ((show Looks M h (dataDescriptor? (some a) (some g)) (some (g, a)) from (looks_takesIn (M := M) X ht).andThen .now).andThen (Looks.tag .now)))
end
section
variable {prog : Program} {w : World} {A : Around} {E : Value → Shared → Prop} {s : Shared} {K : PySem.W.Frag} {x C : Addr}
theorem class_getE {tp : Value} {R : Result → Shared → Prop} (X : K.In s.heap) (I : ExAt x C s.heap) (hm : mroIn K C (.type "object") = some true)
    (h : R (.ok (.ret (.ref C))) s) : codeAny (model prog w) A (.call (.builtin "getset_descriptor.__get__") ⟨[.builtin "object.__class__", .ref x, tp], []⟩) R s := by
  obtain ⟨hh, g, dr, t, os⟩ := s
  have L0 := I.type (M := model prog w)
  have L1 := looks_mroIn (M := model prog w) X hm
  refine codeAny_call_builtin KF.slot_gs.plain KF.entry_gs (KF.slot_gs.check _ _ _ _ _ _ _ _ KF.type_class (KF.args_gs _ _ _) ?_)
  unfold Builtin.«getset_descriptor.__get__» descrGet
  rw [dga_obj]
  refine wpAny_bind (wpAny_pure ?_)
  unfold descrGetter descrCheckInstance descrNameAndClass isInstance
  simp only [KF.owner_class]
  repeat lk
  refine ⟨Code.quiet_builtin _ (by decide +kernel), codeAny_builtin KF.entry_class ?_⟩
  unfold Builtin.«object.__class__» shownTypeOf
  repeat lk
  exact h
theorem check_gaE {M : Model} {nameV : Value} {Q : Unit → Shared → Prop} (X : K.In s.heap) (I : ExAt x C s.heap) (hm : mroIn K C (.type "BaseException") = some true) (hq : Q () s) :
    wpAny M A (checkBuiltinCall "BaseException.__getattribute__" ⟨[.ref x, nameV], []⟩) Q E s := by
  have hk : builtinKind "BaseException.__getattribute__" = some .slot := by decide +kernel
  have hsplit : splitId "BaseException.__getattribute__" = some ("BaseException", "__getattribute__") := by decide +kernel
  have ha := PySem.F.args_bexc_ga (.ref x) nameV
  have L0 := I.type (M := M)
  have L1 := looks_mroIn (M := M) X hm
  have LI : Looks M s.heap (isInstance (.ref x) (.type "BaseException")) true := L0.andThen L1
  obtain ⟨hh, g, dr, t, os⟩ := s
  simp only [checkBuiltinCall, hk, hsplit]
  refine wpAny_bind (LI.at ?_)
  repeat (any_goals (first | assumption | wp_step))
theorem exc_class {Q : Option Value → Shared → Prop} (F : ExcF K C) (X : K.In s.heap) (I : ExAt x C s.heap) (h : Q (some (.ref C)) { s with toks := s.toks + 1 }) : wpAny (model prog w) A (getAttr? (.ref x) "__class__") Q E s := by
  obtain ⟨hh, g, d, t, os⟩ := s
  have L0 := I.type (M := model prog w)
  have L1 := looks_findIn (M := model prog w) X F.ga
  have L2 := looks_findIn (M := model prog w) X F.gh
  have L3 : Looks (model prog w) hh (find (.ref x) (.ref C) "__class__") _ := looks_findD X F.ca F.sp F.tk
  unfold getAttr? getAttrBy? getAttrBy
  refine wpAny_bind (wpAny_mkText (wpAny_bind (wpAny_attempt (wpAny_holding (wpAny_bind (L0.at (wpAny_bind (L1.at ?_))))))))
  show wpAny _ _ (if (onTheHeap (Value.ref C) && Value.builtin "BaseException.__getattribute__" == Value.builtin "object.__getattribute__") = true then _ else _) _ _ _
  rw [if_neg (by
    have q : (Value.builtin "BaseException.__getattribute__" == Value.builtin "object.__getattribute__") = false := by decide
    rw [q, Bool.and_false]; exact Bool.false_ne_true)]
  unfold getAttrByItsOwn hookBefore
  rw [if_pos (by rfl)]
  refine wpAny_bind (L2.at ?_)
  refine wpAny_bind (wpAny_attempt (wpAny_holding ?_))
  unfold callGetattribute
  rw [if_neg (by decide)]
  unfold boundAndCalled
  refine wpAny_bind (wpAny_of_eq (PySem.F.excAttr_ValueError.ga.bind (.ref x)) ?_)
  refine wpAny_call (codeAny_call_builtin PySem.F.excAttr_ValueError.ga.plain PySem.F.entry_bexc_ga (check_gaE (s := ⟨hh, g, d, t + 1, os⟩) X I F.mb ?_))
  unfold Builtin.«object.__getattribute__»
  refine wpAny_bind (wpAny_pure ?_)
  dsimp only
  refine wpAny_bind (wpAny_pure ?_)
  refine wpAny_bind (L0.at ?_)
  refine wpAny_bind (L3.at ?_)
  dsimp only
  show wpAny _ _ (holding [Value.builtin "object.__class__"] (call (Value.builtin "getset_descriptor.__get__") [Value.builtin "object.__class__", Value.ref x, Value.ref C]) >>= ret) _ _ _
  refine wpAny_bind (wpAny_holding (wpAny_call (class_getE (s := ⟨hh, g, d, t + 1, os⟩) X I F.mo (wpAny_pure ?_))))
  exact handed_on rfl (wpAny_pure h)
theorem kitx_exc (F : ExcF K C) : KitX K (.ref x) (.ref C) (ExAt x C) where
  ty := fun _ _ _ I => I.type
  it := fun _ _ X _ => by
    have hcD := F.cls
    unfold clsIn at hcD
    split at hcD
    · rename_i c' d' cd' sl' ho
      intro A' Q' E' s' k q
      unfold isType loadHead
      exact wpAny_bind (wpAny_loadPart (k _ _ (X _ _ ho)) (wpAny_pure q))
    · cases hcD
  ne := fun h tp dd its n sl X htp => by
    have hcD := F.cls
    refine Bool.eq_false_iff.mpr fun q => ?_
    have e : C = tp := Value.ref.inj (beq_iff_eq.mp q)
    subst e
    unfold clsIn at hcD
    split at hcD
    · rename_i c' d' cd' sl' ho
      have z := (X _ _ ho).symm.trans htp
      cases z
    · cases hcD
  ca := fun X I k => exc_class F X I k
theorem isi_exc {c : Value} {b : Bool} {Q : Value → Shared → Prop} (F : ExcF K C) (X : K.In s.heap) (I : ExAt x C s.heap) (e : kitOne K (.ref C) c = some b) (h : ∀ tk, Q (.bool b) { s with toks := tk }) :
    wpAny (model prog w) A (call (.builtin "isinstance") [.ref x, c]) Q E s := kia_one (kitx_exc F) X I e (fun z => nomatch z) h
end
end L2
end
section
namespace L2
open PySem PySem.Spec PyProof.Rows
section
variable {X : Cx} {e e1 e2 : Expr} {es : List Expr} {te : TE} {pos : Pos}
def PJ (X : Cx) (es : List Expr) (t : Str → TE) : Prop :=
  ∀ (pins : List (Addr × Obj)) (s : Shared) (σ : St) (H : Hp) (acc : Str) (Q : VK), Inv X pins σ H s → t acc σ H Q → wpAny (model X.prog X.w) X.A (joinParts acc (evalEach es X.env)) (EP X pins σ Q) X.xe s
def jNil : Str → TE := fun acc _ H Q => acc.length ≤ sizeLine ∧ Q (.str acc) H
def jCons (te : TE) (t : Str → TE) : Str → TE := fun acc σ H Q => te σ H fun v H1 => ∃ y, v = .str y ∧ (acc ++ y).length ≤ sizeLine ∧ t (acc ++ y) σ H1 Q
theorem pj_nil : PJ X [] jNil := fun pins s σ H acc Q I h => joinParts_nil ⟨.str acc, H, I.tok _, ⟨_, rfl⟩, h.2⟩ h.1
theorem pj_cons {t : Str → TE} (he : PE X e te) (hr : PJ X es t) (hs : evalEach (e :: es) X.env = eval e X.env :: evalEach es X.env := by rfl) : PJ X (e :: es) (jCons te t) := by
  intro pins s σ H acc Q I h
  rw [hs]
  refine joinParts_cons (thn (he pins s σ H _ I h) fun v s1 ⟨x, H1, I1, r1, y, e, z, q⟩ => ?_)
  subst e
  obtain ⟨t, rfl⟩ := r1
  exact ⟨z, hr pins s1 σ H1 _ _ I1 q⟩
theorem pe_join {t : Str → TE} (h : PJ X (e1 :: e2 :: es) t) : PE X (.JoinedStr (e1 :: e2 :: es) pos) (t Str.empty) := fun pins s σ H Q I hq => JoinedStr_many (h pins s σ H _ Q I hq)
def tFmt (te : TE) : TE := fun σ H Q => te σ H fun v H1 => (∃ y, v = .str y ∧ y.length ≤ sizeLine ∧ Q (.str y) H1) ∨ ∃ i : Int, v = .int i ∧ i.natAbs.log2 < 1920 ∧ Q (.str (toString i)) H1
theorem pe_fmt (he : PE X e te) : PE X (.FormattedValue e (-1) none pos) (tFmt te) := by
  intro pins s σ H Q I h
  refine wpAny_FormattedValue_plain (thn (he pins s σ H _ I h) fun v s1 ⟨x, H1, I1, r1, q⟩ => ?_)
  rcases q with ⟨y, rfl, z, q⟩ | ⟨i, rfl, z, q⟩
  · obtain ⟨t, rfl⟩ := r1
    exact formatField_str (fun t' tk => ⟨.str y, H1, I1.tok _, ⟨_, rfl⟩, q⟩) z
  · obtain ⟨t, rfl⟩ := r1
    exact formatField_int_small z ⟨.str (toString i), H1, I1.tok _, ⟨_, rfl⟩, q⟩
def tRep (te : TE) : TE := fun σ H Q => te σ H fun v H1 => ∃ y, v = .str y ∧ y.length ≤ 1000 ∧ (∀ c ∈ y.cps.toList, c < 16 ^ 8) ∧ ∀ z : Str, z.length ≤ 10002 → Q (.str z) H1
end
structure Fly (P : Program) (w : World) (outer : List Env) (H H' : Hp) (s s' : Shared) (a C : Addr) : Prop where
  os : s'.os = s.os
  bare : AllBare s'.gens
  un : Un (frs outer) [] H H' s.heap s'.heap
  hok : HOk P w H' s'.heap
  no : H' a = none
  new : s.heap.get? a = none
  fl : ∃ B a0, Heap.FlyingW B outer a (.ref C) a0 s'.heap ∧ ∀ b o, s'.heap.get? b = some o → b ∉ frs outer → (H' b ≠ none ∨ s.heap.get? b ≠ none) → B.get? b = some o
def CXE (P : Program) (w : World) : CXT := fun outer H s E e s' => ∃ a C H', e = .ref a ∧ Fly P w outer H H' s s' a C ∧ E (.ref C) none H'
theorem objThere {P : Program} {w : World} {H : Hp} {h : Heap} {a : Addr} {o : HO} (x : ObjOk P w H h a o) : ∃ u, h.get? a = some u := by
  cases o with
  | lst xs => obtain ⟨_, _, _, _, e⟩ := x; exact ⟨_, e⟩
  | tup xs => obtain ⟨_, _, _, o, e, _⟩ := x; exact ⟨o, e⟩
  | dK kvs => obtain ⟨_, _, _, _, o, _, _, e, _⟩ := x; exact ⟨o, e⟩
  | dT kvs => obtain ⟨_, _, _, _, o, _, _, e, _⟩ := x; exact ⟨o, e⟩
  | set S n => obtain ⟨o, _, _, _, e, _⟩ := x; exact ⟨o, e⟩
  | ins C dx fs => obtain ⟨_, _, _, e, _⟩ := x; exact ⟨_, e⟩
  | own y => exact x
  | xd fs => obtain ⟨_, ⟨o, _, _, e, _⟩, _⟩ := x; exact ⟨o, e⟩
  | rng lo hi => obtain ⟨_, _, _, e⟩ := x; exact ⟨_, e⟩
  | frz ob u => obtain ⟨e, _⟩ := x; exact ⟨_, e⟩
  | tbl ps => exact ⟨_, (show h.get? a = some _ from x)⟩
  | met f y => exact ⟨_, (show h.get? a = some _ from x)⟩
  | ext φ => exact x.2.1
theorem hok_by {P : Program} {w : World} {H : Hp} {h h' : Heap} (ok : HOk P w H h) (k : ∀ b o, H b ≠ none → h.get? b = some o → h'.get? b = some o) : HOk P w H h' := fun b u e =>
  (ok b u e).stay (fun c v hc q => k c v (by
    rcases hc with z | z
    · rw [z, e]; exact fun y => nomatch y
    · rw [z]; exact fun y => nomatch y) q) (fun _ q => q) fun _ _ q => q
section
variable {X : Cx} {pins : List (Addr × Obj)} {σ : St} {H H' : Hp} {s s' : Shared}
theorem fly_on {h' B : Heap} {a C : Addr} {a0 : Value} (I : Inv X pins σ H s) (I' : Inv X pins σ H' s') (hex : X.ex = []) (hst : X.stack = X.env :: X.outer) (hf : X.env.frame = some X.env.locals)
    (sm : s'.heap.UpToSlots h') (fl : Heap.FlyingW B X.outer a (.ref C) a0 h') (cov : ∀ b o, s'.heap.get? b = some o → b ∉ frs X.stack → (H' b ≠ none ∨ s.heap.get? b ≠ none) → B.get? b = some o) (no : H' a = none) (new : s.heap.get? a = none) :
    Fly X.prog X.w X.outer X.H₀ H' X.s₀ { s' with heap := h' } a C := by
  have old : ∀ b o, X.s₀.heap.get? b = some o → s.heap.get? b ≠ none := fun b o e => by
    obtain ⟨o', q⟩ := I.base.there b o e (by rw [hex]; simp)
    rw [q]; exact fun y => nomatch y
  have noL : ∀ b o, X.s₀.heap.get? b = some o → b ≠ X.env.locals := fun b o e => Nat.ne_of_lt (Nat.lt_of_lt_of_le (Heap.lt_size e) I.ok.above)
  have inS : ∀ b, b ∈ frs X.stack ↔ b = X.env.locals ∨ b ∈ X.fs := fun b => by
    rw [hst]
    unfold frs
    rw [List.filterMap_cons, hf]
    exact List.mem_cons
  have kp : ∀ b o, s'.heap.get? b = some o → b ∉ frs X.stack → (H' b ≠ none ∨ s.heap.get? b ≠ none) → h'.get? b = some o := fun b o e nb q => fl.1 _ _ (cov b o e nb q)
  have trk : ∀ b, H' b ≠ none → b ∉ frs X.stack := fun b hb z => hb (I'.stkFree b z)
  refine ⟨I'.os, I'.bare, ⟨fun b o e n hb hx => ?_, fun b o e n hb hx => ?_, fun b o e n hx => ?_, fun b o e hx => ?_, I'.base.tups, I'.base.frzs, I'.base.tbls⟩, hok_by I'.hok fun b o hb e => kp b o e (trk b hb) (.inl hb), no, ?_, B, a0, fl, fun b o e nb q => ?_⟩
  · have e1 := I'.base.keep b o e n hb (by rw [hex]; simp)
    exact kp b o e1 (fun z => ((inS b).mp z).elim (noL b o e) hb) (.inr (old b o e))
  · obtain ⟨sl, e1⟩ := I'.base.slot b o e n hb (by rw [hex]; simp)
    obtain ⟨_, o', e2, nf⟩ := I'.funs.mem hb
    rw [e1] at e2
    cases e2
    obtain ⟨sl', e3⟩ := sm b _ e1 nf
    exact ⟨sl', e3⟩
  · exact I'.base.free b o e n (by rw [hex]; simp)
  · obtain ⟨o', e1⟩ := I'.base.there b o e (by rw [hex]; simp)
    by_cases hb : b ∈ X.fs
    · obtain ⟨_, o2, e2, nf⟩ := I'.funs.mem hb
      obtain ⟨sl', e3⟩ := sm b _ e2 nf
      exact ⟨_, e3⟩
    · exact ⟨o', kp b o' e1 (fun z => ((inS b).mp z).elim (noL b o e) hb) (.inr (old b o e))⟩
  · cases z : X.s₀.heap.get? a with
    | none => rfl
    | some o => exact absurd new (old a o z)
  · rcases q with q | q
    · cases z : H' b with
      | none => exact absurd z q
      | some u =>
        obtain ⟨o', e1⟩ := objThere (I'.hok b u z)
        have e2 := cov b o' e1 (trk b q) (.inl q)
        have e3 := fl.1 _ _ e2
        rw [e] at e3
        cases e3
        exact e2
    · cases z : X.s₀.heap.get? b with
      | none => exact absurd z q
      | some o1 =>
        obtain ⟨o', e1⟩ := I'.base.there b o1 z (by rw [hex]; simp)
        have ns : b ∉ frs X.stack := fun y => ((inS b).mp y).elim (noL b o1 z) nb
        have e2 := cov b o' e1 ns (.inr (old b o1 z))
        have e3 := fl.1 _ _ e2
        rw [e] at e3
        cases e3
        exact e2
end
section
variable {P : Program} {w : World} {K : PySem.W.Frag} {mg : Str → Option Value} {base : Heap} {N : List Str} {qual : Str} {scope : Scope} {f : Addr} {cd : Value} {A : Around} {outer : List Env} {s₀ : Shared} {H₀ : Hp} {E : XK}
theorem passE : Passes (CXE P w) (cxOf (CXE P w) P w K mg base N qual scope f cd A outer s₀ H₀ E) E := by
  intro pins σ H s e s' I h
  obtain ⟨a, C, H', rfl, F, q⟩ := h
  obtain ⟨B, a0, hf, cov⟩ := F.fl
  have I' := I.call' F.os F.un F.hok F.bare (fun b z => absurd z (by simp))
  refine wpAny_leaves_onW (I.ok.frames) rfl hf fun h'' hf' sm => ?_
  exact ⟨a, C, H', rfl, fly_on I I' rfl rfl rfl sm hf' cov F.no F.new, q⟩
structure ExcAt (K : PySem.W.Frag) (mg : Str → Option Value) (x : Str) (C : Addr) : Prop where
  m : mg x = some (.ref C)
  f : ExcF K C
theorem excAt_mk {h : Heap} {x : Str} {C : Addr} (X : K.In h) (G : h.Ns mainGlobals mg) (a : PySem.W.nsIn K mainGlobals x = some (some (.ref C))) (b : excKit K C = true) : ExcAt K mg x C := ⟨PySem.W.mg_of X G a, excF_of b⟩
abbrev ExcIs (K : PySem.W.Frag) (C : Addr) (v : Value) (b : Bool) : Prop := PySem.W.kitOne K (.ref C) v = some b
theorem ExcF.own' {h : Heap} {C : Addr} (F : ExcF K C) (X : K.In h) : ∃ bm N nm q bs hdct sn sub ab col dd k0 k1 k2 k3 k5 mN, h.get? C = some (excClassObj nm q C N bs bm hdct sn sub ab col dd k0 k1 k2 k3 k5 "ValueError.__new__") ∧ h.Ns N mN ∧ mN "__init__" = none ∧ OwnTail h bmVE bm := by
  have q := F.own
  unfold PySem.W.excIn at q
  split at q
  · rename_i dd cd sl ho
    split at q
    · rename_i C' bm k0 k1 k2 k3 n k5 hm hs
      simp only [Bool.and_eq_true, beq_iff_eq, Bool.not_eq_true'] at q
      obtain ⟨⟨⟨⟨⟨rfl, rfl⟩, hdel⟩, ht⟩, hok⟩, hni⟩ := q
      obtain ⟨nm, bs, mro, ns, qn, hd, sn, sub, ab, col, del⟩ := cd
      dsimp only at hm hdel hok hni
      subst hm hdel
      have hsl : sl = #[k0, k1, k2, k3, some (.builtin "ValueError.__new__"), k5] := by
        obtain ⟨l⟩ := sl
        simp only at hs
        rw [hs]
      subst hsl
      exact ⟨bm, ns, nm, qn, bs, hd, sn, sub, ab, col, dd, k0, k1, k2, k3, k5, _, X _ _ ho, .of_isNs (PySem.W.isNs_of_in X hok), PySem.W.nsMap_none_of_in X hok hni, PySem.W.tail_of_in X ht⟩
    · cases q
  · cases q
end
def tRaise (C : Addr) (E : XK) (t : TA) : TS := fun _ σ H => t σ H fun vs H1 => vs.length ≤ sizeLine ∧ E (.ref C) none H1
section
variable {P : Program} {w : World} {K : PySem.W.Frag} {mg : Str → Option Value} {base : Heap} {N : List Str} {qual : Str} {scope : Scope} {f C : Addr} {cd : Value} {A : Around} {outer : List Env} {s₀ : Shared} {H₀ : Hp} {E : XK} {x : Str} {np cpos pos : Pos} {e : Expr} {es : List Expr} {t : TA}
theorem ps_raise (hr : (A.deeper (envOfC qual scope s₀.heap.objs.size f cd)).handled = none) (O : ExcAt K mg x C) (hg : Gl (cxOf (CXE P w) P w K mg base N qual scope f cd A outer s₀ H₀ E) x) (ha : PA (cxOf (CXE P w) P w K mg base N qual scope f cd A outer s₀ H₀ E) (e :: es) t)
    (hdb : (x == ("__debug__" : Str)) = false := by decide)
    (he : starEach (e :: es) (envOfC qual scope s₀.heap.objs.size f cd) = (false, eval e (envOfC qual scope s₀.heap.objs.size f cd)) :: starEach es (envOfC qual scope s₀.heap.objs.size f cd) := by rfl) (hpl : (backTo cpos (starEach es (envOfC qual scope s₀.heap.objs.size f cd))).any (·.1) = false := by rfl) :
    PS (cxOf (CXE P w) P w K mg base N qual scope f cd A outer s₀ H₀ E) (.Raise (some (.Call (.Name x np) (e :: es) [] cpos)) none pos) (tRaise C E t) := by
  intro pins s σ H D I h
  obtain ⟨bm, N', nm, q, bs, hdct, sn, sub, ab, col, dd, k0, k1, k2, k3, k5, mN, hC, hN, hni, T⟩ := O.f.own' I.mod.kin
  refine wpAny_Raise_call_subT (C := C) (nm := nm) (q := q) (N := N') (bs := bs) (bm := bm) (hdct := hdct) (sn := sn) (sub := sub) (ab := ab) (col := col) (dd := dd) (k0 := k0) (k1 := k1) (k2 := k2) (k3 := k3) (k5 := k5)
    PySem.F.excBase_ValueError (mN := mN) (T.hasType PySem.F.excBase_ValueError.hasBase) hr (by show (backTo cpos (starEach (e :: es) (envOfC qual scope s₀.heap.objs.size f cd))).any (·.1) = false; rw [he]; show (false || (backTo cpos (starEach es (envOfC qual scope s₀.heap.objs.size f cd))).any (·.1)) = false; rw [hpl]; rfl) hni (ld_glob I hg O.m ⟨rfl, ?_⟩ hdb)
  have hs := ha cpos pins s σ H _ I h
  have hs : wpAny (model P w) (A.deeper (envOfC qual scope s₀.heap.objs.size f cd)) (spliced (backTo cpos (starEach (e :: es) (envOfC qual scope s₀.heap.objs.size f cd)))) _ _ s := hs
  show wpAny (model P w) (A.deeper (envOfC qual scope s₀.heap.objs.size f cd)) (evalArgs _ true (backTo cpos (starEach (e :: es) (envOfC qual scope s₀.heap.objs.size f cd))) []) _ _ s
  rw [he] at hs ⊢
  refine Calls.evalArgs_plain (wpAny_mono hs (fun vs s2 h2 => ?_) fun _ _ y => y)
  obtain ⟨xs, H2, I2, r2, hl, hE⟩ := h2
  refine ⟨rfl, by show vs.length ≤ _; rw [← r2.length]; exact hl, I2.bk _ _ hC, hN.keeps I2.bk, T.keeps I2.bk, fun h' a hm => ?_⟩
  have hstk : frs (envOfC qual scope s₀.heap.objs.size f cd :: outer) = s₀.heap.objs.size :: frs outer := rfl
  have hfun := I2.stack
  have hin : ∀ env ∈ (envOfC qual scope s₀.heap.objs.size f cd :: outer), ∀ b, env.frame = some b → b ∈ frs (envOfC qual scope s₀.heap.objs.size f cd :: outer) := fun env he b hb => List.mem_filterMap.mpr ⟨env, he, hb⟩
  have hfun' : s2.heap.FunFrames (PySem.W.hideAll s2.heap (frs (envOfC qual scope s₀.heap.objs.size f cd :: outer))) (envOfC qual scope s₀.heap.objs.size f cd :: outer) := PySem.W.funFrames_hide hfun hin
  refine wpAny_leaves_madeW (h := s2.heap) (I2.ok.frames) rfl (fun b o q => PySem.W.of_hideAll _ q) hfun' hm fun h'' t fl _ _ sm => ?_
  have I3 : Inv (cxOf (CXE P w) P w K mg base N qual scope f cd A outer s₀ H₀ E) pins σ H2 { s2 with heap := h' } := I2.kept (t' := s2.toks) hm.keeps
  have na : H2 a = none := by
    cases z : H2 a with
    | none => rfl
    | some u =>
      obtain ⟨o, e⟩ := objThere (I2.hok a u z)
      rw [hm.new] at e; cases e
  refine ⟨a, C, H2, rfl, fly_on I2 I3 rfl rfl rfl sm fl (fun b o e nb q => ?_) na hm.new, hE⟩
  obtain ⟨o', e1⟩ : ∃ o', s2.heap.get? b = some o' := by
    rcases q with q | q
    · cases z : H2 b with
      | none => exact absurd z q
      | some u => exact objThere (I2.hok b u z)
    · cases z : s2.heap.get? b with
      | none => exact absurd z q
      | some o' => exact ⟨o', rfl⟩
  have e2 := hm.keeps _ _ e1
  have e : h'.get? b = some o := e
  rw [e2] at e
  cases e
  exact PySem.W.hideAll_get _ e1 nb
end
end L2
end
section
namespace L2
open PySem PySem.Spec PyProof.Rows
theorem fly_move {P : Program} {w : World} {outer : List Env} {H H' : Hp} {s s' : Shared} {a C : Addr} {B h6 : Heap} {a0 a1 : Value} (F : Fly P w outer H H' s s' a C)
    (fl : Heap.FlyingW B outer a (.ref C) a0 s'.heap) (cov : ∀ b o, s'.heap.get? b = some o → b ∉ frs outer → (H' b ≠ none ∨ s.heap.get? b ≠ none) → B.get? b = some o)
    (fl6 : Heap.FlyingW B outer a (.ref C) a1 h6) (sm : s'.heap.UpToSlots h6) (trk : ∀ b ∈ frs outer, H' b = none) : Fly P w outer H H' s { s' with heap := h6 } a C := by
  have kp : ∀ b o, s'.heap.get? b = some o → b ∉ frs outer → (H' b ≠ none ∨ s.heap.get? b ≠ none) → h6.get? b = some o := fun b o e nb q => fl6.1 _ _ (cov b o e nb q)
  have ne : ∀ {b : Addr} {o : Obj}, s.heap.get? b = some o → s.heap.get? b ≠ none := fun e => by rw [e]; exact fun y => nomatch y
  refine ⟨F.os, F.bare, ⟨fun b o e n hb hx => ?_, fun b o e n hb hx => ?_, fun b o e n hx => F.un.free b o e n hx, fun b o e hx => ?_, F.un.tups, F.un.frzs, F.un.tbls⟩, hok_by F.hok fun b o hb e => kp b o e (fun z => hb (trk b z)) (.inl hb), F.no, F.new, B, a1, fl6, fun b o e nb q => ?_⟩
  · exact kp b o (F.un.keep b o e n hb hx) hb (.inr (ne e))
  · obtain ⟨sl, e1⟩ := F.un.slot b o e n hb hx
    obtain ⟨_, o', e2, nf⟩ := fl.2.2.1.mem hb
    rw [e1] at e2
    cases e2
    obtain ⟨sl', e3⟩ := sm b _ e1 nf
    exact ⟨sl', e3⟩
  · obtain ⟨o', e1⟩ := F.un.there b o e hx
    by_cases hb : b ∈ frs outer
    · obtain ⟨_, o2, e2, nf⟩ := fl.2.2.1.mem hb
      obtain ⟨sl', e3⟩ := sm b _ e2 nf
      exact ⟨_, e3⟩
    · exact ⟨o', kp b o' e1 hb (.inr (ne e))⟩
  · obtain ⟨o', e1⟩ : ∃ o', s'.heap.get? b = some o' := by
      rcases q with q | q
      · cases z : H' b with
        | none => exact absurd z q
        | some u => exact objThere (F.hok b u z)
      · cases z : s.heap.get? b with
        | none => exact absurd z q
        | some o1 => exact F.un.there b o1 z (by simp)
    have e2 := cov b o' e1 nb q
    have e3 := fl6.1 _ _ e2
    have e : h6.get? b = some o := e
    rw [e] at e3
    cases e3
    exact e2
abbrev Cx.with2 (X : Cx) (pn : List (Addr × Obj)) (xe : Value → Shared → Prop) : Cx := { X with pn := pn, xe := xe }
abbrev Cx.suite (X : Cx) (pn : List (Addr × Obj)) (a : Addr) : Cx := { X with A := X.A.mark (some (.ref a)), calm := false, pn := pn, xe := fun _ _ => False }
theorem Cx.Ok.with2 {X : Cx} (ok : X.Ok) (pn : List (Addr × Obj)) (xe : Value → Shared → Prop) : (X.with2 pn xe).Ok :=
  ⟨ok.mod, ok.kind, ok.glob, ok.blt, ok.above, ok.inj, ok.has, ok.cab, ok.hd, ok.frames, ok.stk, ok.exf, ok.bs, ok.bsz, ok.noex, ok.exfs, ok.funs, ok.frf⟩
theorem Cx.Ok.unwith2 {X : Cx} {pn : List (Addr × Obj)} {xe : Value → Shared → Prop} (ok : (X.with2 pn xe).Ok) : X.Ok :=
  ⟨ok.mod, ok.kind, ok.glob, ok.blt, ok.above, ok.inj, ok.has, ok.cab, ok.hd, ok.frames, ok.stk, ok.exf, ok.bs, ok.bsz, ok.noex, ok.exfs, ok.funs, ok.frf⟩
theorem Cx.Ok.suite {X : Cx} (ok : X.Ok) (pn : List (Addr × Obj)) (a : Addr) : (X.suite pn a).Ok :=
  ⟨ok.mod, ok.kind, ok.glob, ok.blt, ok.above, ok.inj, ok.has, ok.cab, fun z => (Bool.false_ne_true z).elim, ok.frames, ok.stk, ok.exf, ok.bs, ok.bsz, ok.noex, ok.exfs, ok.funs, ok.frf⟩
section
variable {X : Cx} {pins pn : List (Addr × Obj)} {σ : St} {H : Hp} {s : Shared} {xe : Value → Shared → Prop}
theorem Inv.with2 (I : Inv X pins σ H s) (xe : Value → Shared → Prop) : Inv (X.with2 (X.pn ++ pins) xe) [] σ H s :=
  ⟨I.ok.with2 _ _, I.os, I.bare, I.base, I.loc, I.cell, I.free, I.freeC, fun p hp => I.pin p (by simpa using hp), I.hok, I.len⟩
theorem Inv.unwith2 {pins' : List (Addr × Obj)} (ok : X.Ok) (I : Inv (X.with2 (X.pn ++ pins) xe) pins' σ H s) : Inv X pins σ H s :=
  ⟨ok, I.os, I.bare, I.base, I.loc, I.cell, I.free, I.freeC, fun p hp => I.pin p (List.mem_append_left _ hp), I.hok, I.len⟩
theorem Inv.suite (I : Inv X pins σ H s) (a : Addr) (oe : Obj) (h1 : s.heap.get? a = some oe) (h2 : H a = none) (h3 : a ≠ X.env.locals) (h4 : a ∉ X.fs) (h5 : ∀ v, oe.data ≠ .cell v) : Inv (X.suite ((a, oe) :: (X.pn ++ pins)) a) [] σ H s :=
  ⟨I.ok.suite _ _, I.os, I.bare, I.base, I.loc, I.cell, I.free, I.freeC, fun p hp => by
    have hp : p ∈ (a, oe) :: (X.pn ++ pins) := by simpa using hp
    rcases List.mem_cons.mp hp with rfl | hp
    · exact ⟨h1, h2, h3, h4, h5⟩
    · exact I.pin p hp, I.hok, I.len⟩
theorem Inv.unsuite {a : Addr} {oe : Obj} (ok : X.Ok) (I : Inv (X.suite ((a, oe) :: (X.pn ++ pins)) a) [] σ H s) : Inv X pins σ H s :=
  ⟨ok, I.os, I.bare, I.base, I.loc, I.cell, I.free, I.freeC, fun p hp => I.pin p (by simpa using Or.inr (by simpa using hp)), I.hok, I.len⟩
theorem goes_ok {M : Model} {A : Around} {E : Value → Shared → Prop} {i : Nat} {n : Str} {pos : Pos} {Q : Unit → Shared → Prop} (I : Inv X pins σ H s) (hN : X.N.Nodup) (hi : X.N[i]? = some n) (hk : X.env.scope.names.lookup n = some .local)
    (h : ∀ s', Inv X pins (σ.set i none) H s' → Q () s') : wpAny M A (do bindName X.env n .none; unbindBehindTheSuite X.env n pos) Q E s := by
  obtain ⟨m, hn, hl⟩ := id I.loc
  have hcls : (X.env.scope.kind == .class || (X.env.scope.kind == .module && X.env.locals != X.env.globals)) = false := by rw [I.ok.kind]; rfl
  refine wpAny_nameGoes_keeps hk hn hcls fun h' v hn' hs => ?_
  obtain ⟨oL, _, _, hoL, _⟩ := id hn
  have cne := I.cne
  have tracked : HOk X.prog X.w H h' := fun b ob e => by
    refine (I.hok b ob e).stay (fun c w' hc q => (hs.2 c ?_).trans q) (fun _ q => q) fun _ _ q => q
    rintro rfl
    rcases hc with rfl | hc
    · rw [I.free] at e; cases e
    · rw [I.free] at hc; cases hc
  refine h _ ⟨I.ok, I.os, I.bare, ⟨fun b o e n hb hx => ?_, fun b o e n hb hx => ?_, I.base.free, fun b o e hx => ?_, I.base.tups, I.base.frzs, I.base.tbls⟩, ⟨_, hn', fun j y v' e1 e2 e3 => ?_⟩, fun y c e => ?_, I.free, I.freeC, fun p hp => ?_, tracked, by simpa using I.len⟩
  · exact (hs.2 b (Nat.ne_of_lt (Nat.lt_of_lt_of_le (Heap.lt_size e) I.ok.above))).trans (I.base.keep b o e n hb hx)
  · obtain ⟨sl, e1⟩ := I.base.slot b o e n hb hx
    exact ⟨sl, (hs.2 b (Nat.ne_of_lt (Nat.lt_of_lt_of_le (Heap.lt_size e) I.ok.above))).trans e1⟩
  · obtain ⟨o', e1⟩ := I.base.there b o e hx
    exact ⟨o', (hs.2 b (Nat.ne_of_lt (Nat.lt_of_lt_of_le (Heap.lt_size e) I.ok.above))).trans e1⟩
  · by_cases hj : j = i
    · subst hj
      rw [List.getElem?_set] at e2
      simp at e2
    · rw [List.getElem?_set_ne (Ne.symm hj)] at e2
      obtain ⟨u', r', q⟩ := hl j y v' e1 e2 e3
      refine ⟨u', r', ?_⟩
      rcases q with ⟨k, e⟩ | ⟨k, c, e, z⟩
      · refine .inl ⟨k, ?_⟩
        have : y ≠ n := fun e => hj (nodup_ix hN e1 (e ▸ hi))
        simp [this, e]
      · exact .inr ⟨k, c, e, z.sameBut hs (cne y c e)⟩
  · obtain ⟨w', z⟩ := I.cell y c e
    exact ⟨w', z.sameBut hs (cne y c e)⟩
  · obtain ⟨e, n, ne, nf, d⟩ := I.pin p hp
    exact ⟨(hs.2 p.1 ne).trans e, n, ne, nf, d⟩
end
theorem match_ok {M : Model} {A : Around} {E : Value → Shared → Prop} {K : PySem.W.Frag} {s : Shared} {e C Tw : Addr} {Q : Bool → Shared → Prop} (X : K.In s.heap) (I : ExAt e C s.heap) (F : ExcF K Tw) (hm : PySem.W.mroIn K C (.ref Tw) = some true) (h : Q true s) :
    wpAny M A (excMatches (.ref e) (.ref Tw)) Q E s := by
  have L0 := I.type (M := M)
  have L1 := PySem.W.looks_mroIn (M := M) X hm
  have L2 := PySem.W.looks_mroIn (M := M) X F.mb
  have L3 := PySem.W.looks_typeIn (M := M) X F.ty
  have L4 : PySem.W.Looks M s.heap (isInstance (.ref Tw) (.type "tuple")) false := L3.andThen (PySem.W.Looks.of_pure tc_notTuple)
  have L5 := (kitx_exc (x := e) F).it M s.heap X
  have L6 : PySem.W.Looks M s.heap (isType (.ref Tw)) true := by
    have hcD := F.cls
    unfold PySem.W.clsIn at hcD
    split at hcD
    · rename_i c' d' cd' sl' ho
      intro A' Q' E' s' k q
      unfold isType loadHead
      exact wpAny_bind (wpAny_loadPart (k _ _ (X _ _ ho)) (wpAny_pure q))
    · cases hcD
  obtain ⟨hh, g, d, t, os⟩ := s
  unfold excMatches
  refine wpAny_bind (L4.at ?_)
  simp only [Bool.false_eq_true, if_false]
  refine wpAny_bind (wpAny_pure ?_)
  simp only [List.forIn_cons, List.forIn_nil]
  unfold isExcClass
  refine wpAny_bind (wpAny_bind (wpAny_bind (wpAny_bind (L6.at ?_))))
  simp only [if_true]
  refine L2.at ?_
  simp only [Bool.not_true, Bool.false_eq_true, if_false]
  refine wpAny_pure (wpAny_pure ?_)
  refine wpAny_bind (L0.at ?_)
  refine wpAny_bind (wpAny_bind (wpAny_bind (L1.at ?_)))
  simp only [if_true]
  exact wpAny_pure (wpAny_pure (wpAny_pure h))
def tCallS (sp : Sp) (E : St → XK) (t : TA) : TE := fun σ H Q => t σ H fun vs H1 => sp vs H1 Q (E σ)
def PassS (CX : CXT) (X : Cx) (E : St → XK) : Prop := ∀ (pins : List (Addr × Obj)) (σ : St) (H : Hp) (s : Shared) (e : Value) (s' : Shared), Inv X pins σ H s → CX X.stack H s (E σ) e s' → X.xe e s'
section
variable {X : Cx} {CX : CXT} {k : Nat} {f : Addr} {fd : FuncData} {ps : List Str} {sp : Sp} {E : St → XK} {x : Str} {p pos : Pos} {e : Expr} {es : List Expr} {t : TA}
theorem pe_callS (F : FnOk X.prog X.w X.K X.mg X.base CX k f fd ps sp) (hr : Room k X.A) (hg : Gl X x) (hm : X.mg x = some (.ref f)) (hk : PySem.W.keepIn X.K (.ref f) = true) (hb : Binds X.K fd ps []) (hx : PassS CX X E)
    (ha : PA X (e :: es) t) (hdb : (x == ("__debug__" : Str)) = false := by decide) (he : starEach (e :: es) X.env = (false, eval e X.env) :: starEach es X.env := by rfl) (hpl : (backTo pos (starEach es X.env)).any (·.1) = false := by rfl) :
    PE X (.Call (.Name x p) (e :: es) [] pos) (tCallS sp E t) := by
  intro pins s σ H Q I h
  refine wpAny_Call_Name_kw (ld_glob I hg hm ?_ hdb)
  refine PySem.W.callWith_K (h₀ := X.base) I.ok.mod.kin hk (thn (ha pos pins s σ H _ I h) fun us s1 ⟨vs, H1, I1, r, q⟩ => ⟨I1.kIn, ?_⟩) he hpl
  have hl : us.length = ps.length := by rw [← r.length]; exact F.len _ _ _ _ q
  have bb := hb s1 us I1.kIn (by rw [List.append_nil]; exact hl)
  rw [List.append_nil] at bb
  refine wpAny_call (codeAny_mono (F.run X.A X.stack s1 H1 ⟨us, []⟩ us vs Q (E σ) hr I1.env0 bb r q) fun r s' hq => ?_)
  cases r with
  | error e => exact hx pins σ H1 s1 e s' I1 hq
  | ok fl =>
    cases fl with
    | ret u => exact I1.after hq
    | next => exact False.elim hq
    | brk => exact False.elim hq
    | cont => exact False.elim hq
end
def tTry (K : PySem.W.Frag) (i : Nat) (Tw : Addr) (tb : (St → XK) → TS) (ts : Addr → Addr → TS) : TS := fun D σ H =>
  tb (fun σ' cls _ H' => ∃ C, cls = .ref C ∧ ExcF K C ∧ PySem.W.mroIn K C (.ref Tw) = some true ∧ ∀ a, H' a = none → ts a C { nx := fun σ2 H2 => D.nx (σ2.set i none) H2, rt := D.rt, bk := fun σ2 H2 => D.bk (σ2.set i none) H2, ct := fun σ2 H2 => D.ct (σ2.set i none) H2 } (σ'.set i (some (.ref a))) H') D σ H
theorem ps_try {X : Cx} {i : Nat} {n x : Str} {Tw : Addr} {tb : (St → XK) → TS} {ts : Addr → Addr → TS} {body : List Stmt} {b₀ : Stmt} {suite : List Stmt} {np hpos pos : Pos}
    (hst : X.stack = X.env :: X.outer) (hf : X.env.frame = some X.env.locals) (hN : X.N.Nodup) (hi : X.N[i]? = some n) (hk : X.env.scope.names.lookup n = some .local) (hg : Gl X x) (hm : X.mg x = some (.ref Tw)) (hT : ExcF X.K Tw)
    (hb : ∀ pn xe Eσ, PassS (CXE X.prog X.w) (X.with2 pn xe) Eσ → PSs (X.with2 pn xe) body (tb Eσ))
    (hs : ∀ pn a C oe vs, (a, oe) ∈ pn → oe.cls = .ref C → oe.data = .fields vs → PSs (X.suite pn a) (b₀ :: suite) (ts a C)) (hdb : (x == ("__debug__" : Str)) = false := by decide) :
    PS X (.Try body [.ExceptHandler (some (.Name x np)) (some n) (b₀ :: suite) hpos] [] [] pos) (tTry X.K i Tw tb ts) := by
  intro pins s σ H D I h
  have ok := I.ok
  let Eσ : St → XK := fun σ' cls _ H' => ∃ C, cls = .ref C ∧ ExcF X.K C ∧ PySem.W.mroIn X.K C (.ref Tw) = some true ∧ ∀ a, H' a = none → ts a C { nx := fun σ2 H2 => D.nx (σ2.set i none) H2, rt := D.rt, bk := fun σ2 H2 => D.bk (σ2.set i none) H2, ct := fun σ2 H2 => D.ct (σ2.set i none) H2 } (σ'.set i (some (.ref a))) H'
  let xe1 : Value → Shared → Prop := fun e s' => ∃ a C Hc H' σ' sc, e = .ref a ∧ Inv X pins σ' Hc sc ∧ Fly X.prog X.w X.stack Hc H' sc s' a C ∧ Eσ σ' (.ref C) none H'
  have hp : PassS (CXE X.prog X.w) (X.with2 (X.pn ++ pins) xe1) Eσ := by
    intro pins' σ' H' s' e s'' I1 h1
    obtain ⟨a, C, H'', rfl, F, q⟩ := h1
    exact ⟨a, C, H', H'', σ', s', rfl, I1.unwith2 ok, F, q⟩
  have hbody := hb (X.pn ++ pins) xe1 Eσ hp [] s σ H D (I.with2 xe1) h
  refine wpAny_Try_except (wpAny_mono hbody (fun f s1 q => ?_) fun e s1 q => ?_)
  · cases f with
    | next => obtain ⟨σ', H', I', q⟩ := q; exact wpAny_execs_nil ⟨σ', H', I'.unwith2 ok, q⟩
    | brk => obtain ⟨σ', H', I', q⟩ := q; exact ⟨σ', H', I'.unwith2 ok, q⟩
    | cont => obtain ⟨σ', H', I', q⟩ := q; exact ⟨σ', H', I'.unwith2 ok, q⟩
    | ret u => obtain ⟨v, σ', H', I', r, q⟩ := q; exact ⟨v, σ', H', I'.unwith2 ok, r, q⟩
  obtain ⟨a, C, Hc, H', σ', sc, rfl, Ic, F, C', eC, FC, mC, q⟩ := q
  cases eC
  obtain ⟨B, a0, fl, cov⟩ := F.fl
  have I1 : Inv X pins σ' H' s1 := Ic.call' F.os F.un F.hok F.bare (fun b z => absurd z (by simp))
  have hfr : X.A.frames = some (X.env :: X.outer) := hst ▸ ok.frames
  rw [hst] at fl
  refine wpAny_looks_onW hfr hf fl fun h4 hh4 sm4 => ?_
  refine wpAny_landsW hh4 fun h5 fl5 sm5 => ?_
  have F5 : Fly X.prog X.w X.stack Hc H' sc { s1 with heap := h5 } a C := by
    rw [hst]
    refine fly_move (hst ▸ F) fl (hst ▸ cov) fl5 (sm4.trans sm5) fun b hb => I1.stkFree b (hst ▸ hb)
  have I5 : Inv X pins σ' H' { s1 with heap := h5 } := Ic.call' F5.os F5.un F5.hok F5.bare (fun b z => absurd z (by simp))
  obtain ⟨oe5, ve5, he5, hc5, hd5, _⟩ := fl5.first
  have na : a ≠ X.env.locals := fun z => by
    obtain ⟨m, ⟨o, _, _, ho, _⟩, _⟩ := Ic.loc
    have := F.new
    rw [z, ho] at this; cases this
  have nf : a ∉ X.fs := fun z => by
    obtain ⟨_, o, ho, _⟩ := Ic.funs.mem z
    have := F.new
    rw [ho] at this; cases this
  have J5 := I5.suite a oe5 he5 F.no na nf (fun v z => by rw [hd5] at z; cases z)
  refine wpAny_handleBy_cons (codeAny_handlers_test (ld_glob (X := X.suite ((a, oe5) :: (X.pn ++ pins)) a) J5 hg hm (match_ok (K := X.K) J5.kIn ⟨oe5, ve5, he5, hc5, hd5⟩ hT mC ?_) hdb)) (by intro q; cases q)
  refine codeAny_handlers_suite_as ?_
  refine lands_againW fl5 fun h6 fl6 sm6 => ?_
  obtain ⟨B5, a5, fl5', cov5⟩ := F5.fl
  have F6 : Fly X.prog X.w X.stack Hc H' sc { s1 with heap := h6 } a C := by
    rw [hst]
    exact fly_move (hst ▸ F) fl (hst ▸ cov) fl6 ((sm4.trans sm5).trans sm6) fun b hb => I1.stkFree b (hst ▸ hb)
  have I6 : Inv X pins σ' H' { s1 with heap := h6 } := Ic.call' F6.os F6.un F6.hok F6.bare (fun b z => absurd z (by simp))
  obtain ⟨oe, ve, he, hc, hd, _⟩ := fl6.first
  have J6 := I6.suite a oe he F.no na nf (fun v z => by rw [hd] at z; cases z)
  refine store_ok (X := X.suite ((a, oe) :: (X.pn ++ pins)) a) (v := .ref a) J6 hN hi (Or.inl hk) rfl (fun s7 J7 => ?_) (Or.inr hk)
  have run := hs ((a, oe) :: (X.pn ++ pins)) a C oe ve (List.mem_cons_self) hc hd [] s7 _ H' _ J7 (q a F.no)
  refine wpAny_mono run (fun f s8 q8 => ?_) fun _ _ z => False.elim z
  cases f with
  | next =>
    obtain ⟨σ8, H8, J8, q8⟩ := q8
    exact goes_ok (J8.unsuite ok) hN hi hk fun s9 I9 => ⟨_, H8, I9, q8⟩
  | brk =>
    obtain ⟨σ8, H8, J8, q8⟩ := q8
    exact goes_ok (J8.unsuite ok) hN hi hk fun s9 I9 => ⟨_, H8, I9, q8⟩
  | cont =>
    obtain ⟨σ8, H8, J8, q8⟩ := q8
    exact goes_ok (J8.unsuite ok) hN hi hk fun s9 I9 => ⟨_, H8, I9, q8⟩
  | ret u =>
    obtain ⟨v, σ8, H8, J8, r, q8⟩ := q8
    exact goes_ok (J8.unsuite ok) hN hi hk fun s9 I9 => ⟨v, _, H8, I9, r, q8⟩
theorem Fun.okE {P : Program} {w : World} {K : PySem.W.Frag} {mg : Str → Option Value} {base : Heap} {x qual : Str} {st : Stmt} {f : Addr} {fd : FuncData} {N ps : List Str} {k : Nat} {sp : Sp} (F : Fun K x qual st f fd) (S : FnScope N ps (defScope st)) (len : ∀ vs H Q E, sp vs H Q E → vs.length = ps.length)
    (hbody : ∀ (cdv : Value) (A : Around) (outer : List Env) (s : Shared) (H : Hp) (vs : List V) (Q : VK) (E : XK), Room k (A.deeper (envOfC qual (defScope st) s.heap.objs.size f cdv)) → sp vs H Q E →
      ∃ t, PSs (cxOf (CXE P w) P w K mg base N qual (defScope st) f cdv A outer s H E) (defBody st) t ∧ t { nx := fun _ H' => Q .non H', rt := Q } (start N vs) H) : FnOk P w K mg base (CXE P w) (k + 1) f fd ps sp := by
  obtain ⟨oc, od, kV, doc, pm, an, cdv, ct, osl, rfl, lk, hcd⟩ := F.ex
  exact fn_of lk hcd S len fun A outer s H vs Q E hr hsp => hbody cdv A outer s H vs Q E hr hsp
theorem pe_isiE {X : Cx} {pn : List (Addr × Obj)} {a C : Addr} {oe : Obj} {vs : Array Value} {b : Bool} {i : Nat} {y z : Str} {c : Value} {p p1 p2 pos : Pos} (hin : (a, oe) ∈ pn) (hc : oe.cls = .ref C) (hd : oe.data = .fields vs) (F : ExcF X.K C) (e : PySem.W.kitOne X.K (.ref C) c = some b)
    (hx : Gl (X.suite pn a) "isinstance") (hm : X.mg "isinstance" = none) (hi : PE (X.suite pn a) (.Name y p1) (tVar i))
    (hy : ∀ (pins : List (Addr × Obj)) (s : Shared) (σ : St) (H : Hp) (Q : Value → Shared → Prop), Inv (X.suite pn a) pins σ H s → Q c s → wpAny (model X.prog X.w) (X.A.mark (some (.ref a))) (eval (.Name z p2) X.env) Q (fun _ _ => False) s)
    (he : starEach [.Name y p1, .Name z p2] X.env = (false, eval (.Name y p1) X.env) :: starEach [.Name z p2] X.env := by rfl) (he2 : starEach [.Name z p2] X.env = (false, eval (.Name z p2) X.env) :: starEach [] X.env := by rfl) (hpl : (backTo pos (starEach [.Name z p2] X.env)).any (·.1) = false := by rfl) :
    PE (X.suite pn a) (.Call (.Name "isinstance" p) [.Name y p1, .Name z p2] [] pos) (fun σ H Q => σ[i]? = some (some (.ref a)) ∧ Q (.bl b) H) := by
  intro pins s σ H Q I h
  refine wpAny_Call_Name_kw (ld_blt I hx hm boot_isi ?_ (by decide) (by decide))
  refine PyProof.Rows.callWith_builtin1 ?_ he hpl
  show wpAny _ _ (spliced (backTo pos (starEach [.Name y p1, .Name z p2] X.env))) _ _ s
  rw [he]
  refine Calls.spliced_cons (thn (hi pins s σ H (fun v H1 => v = .ref a ∧ H1 = H) I ⟨.ref a, h.1, rfl, rfl⟩) fun u s1 ⟨v, H1, I1, r1, e1, e2⟩ => ?_)
  subst e1 e2
  cases r1
  show wpAny _ _ (spliced (backTo pos (starEach [.Name z p2] X.env))) _ _ s1
  rw [he2]
  refine Calls.spliced_cons (hy pins s1 σ H1 _ I1 ?_)
  refine Calls.spliced_nil ?_
  have pin := I1.pin (a, oe) (List.mem_append_left _ hin)
  exact isi_exc F I1.kIn ⟨oe, vs, pin.1, hc, hd⟩ e fun tk => ⟨.bl b, H1, I1.tok _, rfl, h.2⟩
theorem pss_when {X : Cx} {p : Prop} {st : List Stmt} {t : TS} (h : p → PSs X st t) : PSs X st (fun D σ H => p ∧ t D σ H) := fun pins s σ H D I hh => h hh.1 pins s σ H D I hh.2
theorem pe_isiC {X : Cx} {pn : List (Addr × Obj)} {a C B : Addr} {oe : Obj} {vs : Array Value} {b : Bool} {i : Nat} {y z : Str} {p p1 p2 pos : Pos} (hin : (a, oe) ∈ pn) (hc : oe.cls = .ref C) (hd : oe.data = .fields vs) (F : ExcF X.K C) (e : PySem.W.kitOne X.K (.ref C) (.ref B) = some b)
    (hx : Gl (X.suite pn a) "isinstance") (hm : X.mg "isinstance" = none) (hi : PE (X.suite pn a) (.Name y p1) (tVar i)) (hg : Gl (X.suite pn a) z) (hz : X.mg z = some (.ref B)) (hdb : (z == ("__debug__" : Str)) = false := by decide)
    (he : starEach [.Name y p1, .Name z p2] X.env = (false, eval (.Name y p1) X.env) :: starEach [.Name z p2] X.env := by rfl) (he2 : starEach [.Name z p2] X.env = (false, eval (.Name z p2) X.env) :: starEach [] X.env := by rfl) (hpl : (backTo pos (starEach [.Name z p2] X.env)).any (·.1) = false := by rfl) :
    PE (X.suite pn a) (.Call (.Name "isinstance" p) [.Name y p1, .Name z p2] [] pos) (fun σ H Q => σ[i]? = some (some (.ref a)) ∧ Q (.bl b) H) :=
  pe_isiE hin hc hd F e hx hm hi (fun pins s σ H Q I h => ld_glob I hg hz h hdb) he he2 hpl
theorem pe_isiT {X : Cx} {pn : List (Addr × Obj)} {a C : Addr} {oe : Obj} {vs : Array Value} {b : Bool} {i : Nat} {y z : Str} {T : String} {p p1 p2 pos : Pos} (hin : (a, oe) ∈ pn) (hc : oe.cls = .ref C) (hd : oe.data = .fields vs) (F : ExcF X.K C) (e : PySem.W.kitOne X.K (.ref C) (.type T) = some b)
    (hx : Gl (X.suite pn a) "isinstance") (hm : X.mg "isinstance" = none) (hi : PE (X.suite pn a) (.Name y p1) (tVar i)) (hg : Gl (X.suite pn a) z) (hz : X.mg z = none) (hv : bootBuiltins z = some (.type T)) (hn : z ≠ "__name__" := by decide) (hdb : (z == ("__debug__" : Str)) = false := by decide)
    (he : starEach [.Name y p1, .Name z p2] X.env = (false, eval (.Name y p1) X.env) :: starEach [.Name z p2] X.env := by rfl) (he2 : starEach [.Name z p2] X.env = (false, eval (.Name z p2) X.env) :: starEach [] X.env := by rfl) (hpl : (backTo pos (starEach [.Name z p2] X.env)).any (·.1) = false := by rfl) :
    PE (X.suite pn a) (.Call (.Name "isinstance" p) [.Name y p1, .Name z p2] [] pos) (fun σ H Q => σ[i]? = some (some (.ref a)) ∧ Q (.bl b) H) :=
  pe_isiE hin hc hd F e hx hm hi (fun pins s σ H Q I h => ld_blt I hg hz hv h hn hdb) he he2 hpl
end L2
end
section
namespace HT
open PySem PySem.Spec PyProof.Rows
section
variable {prog : Program} {w : World} {A : Around} {E : Value → Shared → Prop} {s : Shared}
theorem getItem_tuple_all {t sl : Addr} {items : Array Value} {vl vu : Value} {lo hi : Option Int} {Q : Value → Shared → Prop} (ht : IsTup s.heap t items) (hs : s.heap.IsSliceOf sl vl vu .none) (pl : IsPart vl lo) (pu : IsPart vu hi)
    (hw : sIx items.size 0 lo = 0 ∧ sIx items.size items.size hi = items.size) (h : Q (.ref t) s) : wpAny (model prog w) A (getItem (.ref t) (.ref sl)) Q E s := by
  obtain ⟨os, hos, hcs, hds⟩ := id hs
  have hTs : s.TypeIs (.ref sl) "slice" := ⟨os, hos, hcs⟩
  unfold getItem
  try with_reducible refine wpAny_holding ?_
  first | refine wpAny_bind (wpAny_pure ?_) | skip
  refine wpAny_bind (wpAny_sequenceKey ht.typeIs (by decide) ?_)
  refine wpAny_bind (wpAny_callSpecial?_slot (name := Str.ofString "__getitem__") ht.typeIs PyProof.Rows.slot_tuple_getitem
    (wpAny_call_entry PyProof.Rows.slot_tuple_getitem ht.typeIs entry_tuple_getitem ?_ (args_tuple_getitem _ _)))
  show wpAny _ _ (Builtin.Tuple.tupleItemsOf (.ref t) >>= _) _ _ s
  refine wpAny_bind (tupleItemsOf_ ht ?_)
  refine wpAny_bind (wpAny_typeOf hTs ?_)
  rw [if_pos (by decide)]
  refine wpAny_bind (sliceApplied_gen hs pl pu ?_)
  have hno : (((sIx items.size 0 lo : Nat) : Int) == 0 && (1 : Int) == 1 && (sIx items.size items.size hi - sIx items.size 0 lo) == items.size) = true := by
    rw [hw.1, hw.2]
    simp
  show wpAny _ _ (if (((sIx items.size 0 lo : Nat) : Int) == 0 && (1 : Int) == 1 && (sIx items.size items.size hi - sIx items.size 0 lo) == items.size) = true then _ else _) _ _ s
  rw [if_pos hno]
  refine wpAny_bind (wpAny_bind (m := typeOf (.ref t)) (wpAny_typeOf ht.typeIs (wpAny_pure ?_)))
  rw [if_pos (by decide)]
  exact wpAny_bind (wpAny_rule (wpAny_pure ⟨_, rfl, wpAny_pure h⟩))
end
end HT
namespace L2
open PySem PySem.Spec PyProof.Rows Tim
section
variable {X : Cx}
def rSlA (K : PySem.W.Frag) : V → Option Int → Option Int → Hp → VK → Prop := fun x lo hi H Q => ∃ a xs, x = .ref a ∧ SqT K H a xs ∧ (HT.sIx xs.length 0 lo = 0 ∧ HT.sIx xs.length xs.length hi = xs.length) ∧ Q (.ref a) H
theorem sl_tupA : SlR X (rSlA X.K) := by
  intro pins s σ H x v vl vu lo hi sl Q I rx hs pl pu h
  obtain ⟨a, xs, rfl, hx, hw, q⟩ := h
  cases rx
  obtain ⟨its, r, ht, hz⟩ := I.tuple hx
  have hlen : its.toArray.size = xs.length := by rw [List.size_toArray]; exact r.length.symm
  refine ⟨"tuple", _, PyProof.Rows.slot_tuple_getitem.lookup, ht.typeIs, ?_⟩
  exact HT.getItem_tuple_all ht hs pl pu (by rw [hlen]; exact hw) ⟨.ref a, H, I, rfl, q⟩
theorem passF {P : Program} {w : World} : Passes (CXE P w) X (fun _ _ _ => False) := fun _ _ _ _ _ _ _ h => by
  obtain ⟨a, C, H', _, _, q⟩ := h
  exact q.elim
def Its (x : Str) : It := ⟨fun i _ => i < x.length, fun i H v H' => H' = H ∧ ∃ c, x.cps[i]? = some c ∧ v = .str ⟨#[c]⟩, fun i _ => x.length ≤ i⟩
theorem turn_str {P : Program} {w : World} {K : PySem.W.Frag} {tg : Expr} (x : Str) (t : Tok) (it : Addr) : Turn P w K tg (Its x) [it] it (fun i h => h.IsStrIter it "str_ascii_iterator" x t i) where
  mem := by simp
  obj := fun i h st b hb => by
    have e : b = it := by simpa using hb
    subst e
    obtain ⟨o, e, c, d⟩ := st
    exact ⟨o, e, fun v z => by rw [d] at z; cases z⟩
  keep := fun i h h' st k => by
    obtain ⟨o, e, r⟩ := st
    exact ⟨o, k it (by simp) o e, r⟩
  item := by
    intro X hP hw hK hc i pins s σ H E I hf st hg
    subst hP hw hK
    obtain ⟨f0, f1, f2, f3, f4, f5⟩ := hf it (by simp)
    have hg : i < x.cps.size := hg
    have hx : x.cps[i]? = some x.cps[i] := by simp [hg]
    refine wpAny_pyNext_ascii_item st hx fun h' st' sb => ?_
    have I1 : Inv X pins σ H { s with heap := h', toks := s.toks + 1 } := I.turned (t' := s.toks + 1) (fun b o hb e => (sb.2 b hb).trans e) f0 f1 f3 f4 f5
    obtain ⟨o, e, c, d⟩ := id st'
    exact ⟨_, rfl, go_of (s := { s with heap := h', toks := s.toks + 1 }) e c d (by decide) ⟨.str ⟨#[x.cps[i]]⟩, H, I1, ⟨_, rfl⟩, ⟨rfl, _, hx, rfl⟩, st', fun b hb => (hf b hb).1⟩⟩
  done := by
    intro X hP hw hK hc i pins s σ H E I hf st hg
    subst hP hw hK
    obtain ⟨f0, f1, f2, f3, f4, f5⟩ := hf it (by simp)
    have hg : x.cps.size ≤ i := hg
    exact wpAny_pyNext_ascii_end (I.ok.hd hc) st (by simp; omega) fun h' eb => ⟨rfl, I.turned (t' := s.toks) (fun b o hb e => eb b o hb e) f0 f1 f3 f4 f5⟩
  self := fun _ _ _ _ _ st h => wpAny_pyIter_striter_ascii st h
def iStr (tl : TE) : TI := fun σ H R => tl σ H fun v H1 => ∃ x, v = .str x ∧ x.cps.all (· < 128) = true ∧ R (Its x) H1
theorem pi_str {tg l : Expr} {tl : TE} (hl : PE X l tl) : PI X tg l (iStr tl) := by
  intro pins s σ H R I h
  refine thn (hl pins s σ H _ I h) fun v s1 ⟨x, H1, I1, r1, q1⟩ => ?_
  obtain ⟨y, e, ha, q⟩ := q1
  subst e
  obtain ⟨t, rfl⟩ := r1
  refine wpAny_pyIter_ascii ha ?_
  refine ⟨s1.heap.objs.size, [s1.heap.objs.size], _, _, H1, rfl, I1.kept (t' := s1.toks) fun b o e => Heap.get?_push_of_some _ e, turn_str y t _, ⟨_, Heap.get?_push_size _ rfl, rfl, rfl⟩, fun b hb => ?_, q⟩
  have e : b = s1.heap.objs.size := by simpa using hb
  subst e
  exact I1.fpOk (Nat.le_refl _) (I1.hok.fresh (Nat.le_refl _))
end
structure Items1 (J : It) (H1 : Hp) (n : Nat) (x : Nat → V) : Prop where
  go : ∀ i Hx, i < n → Same H1 Hx → J.go i Hx
  stop : ∀ Hx, Same H1 Hx → J.stop n Hx
  yld : ∀ i Hx v H', i < n → Same H1 Hx → J.yld i Hx v H' → H' = Hx ∧ v = x i
theorem items1_list {K : PySem.W.Frag} {H1 : Hp} {a : Addr} {xs : List V} {x : Nat → V} (hS : SqL K H1 a xs) (hx : ∀ i, i < xs.length → xs[i]? = some (x i)) : Items1 (Itl K a) H1 xs.length x :=
  ⟨fun i Hx hi sx => ⟨xs, _, sx.seq hS, hx i hi⟩, fun Hx sx => ⟨xs, sx.seq hS, Nat.le_refl _⟩, fun i Hx v H' hi sx hy => ⟨hy.1, by
    have := hy.2 _ (sx.seq hS)
    rw [hx i hi] at this
    exact (Option.some.inj this).symm⟩⟩
theorem items1_str {H1 : Hp} {z : Str} : Items1 (Its z) H1 z.length (fun i => .str ⟨#[z.cps.toList.getD i 0]⟩) :=
  ⟨fun i Hx hi sx => hi, fun Hx sx => Nat.le_refl _, fun i Hx v H' hi sx hy => ⟨hy.1, by
    obtain ⟨_, c, hc, rfl⟩ := hy
    have : z.cps.toList[i]? = some c := by rw [Array.getElem?_toList]; exact hc
    rw [List.getD_eq_getElem?_getD, this]; rfl⟩⟩
theorem comp_anyG {J : It} {tc : TT} {te : TE} {QD : Hp → Prop} {H1 : Hp} {D : Addr} {n iw : Nat} {σb : St} (x : Nat → V) (g : Nat → V) (p : Nat → Bool) (hJ : Items1 J H1 n x) (hz : n < sizeLine) (hD : H1 D = none)
    (ht : ∀ (i : Nat) (Hx : Hp) (R : Bool → Hp → Prop), i < n → Same H1 Hx → (∀ Hy, Same Hx Hy → R (p i) Hy) → tc (σb.set iw (some (x i))) Hx R)
    (he : ∀ (i : Nat) (Hx : Hp) (R : VK), i < n → p i = true → Same H1 Hx → (∀ Hy, Same Hx Hy → R (g i) Hy) → te (σb.set iw (some (x i))) Hx R)
    (q : ∀ Hx, Same H1 Hx → Hx D = some (.lst (((List.range n).filter p).map g)) → QD Hx) :
    ∃ W : Nat → Nat → St → Hp → Prop, (∃ m, W 0 m σb (upd H1 D (.lst []))) ∧ ∀ i m σx H, W i m σx H → (J.stop i H ∧ QD H) ∨ (J.go i H ∧ ∀ x H', J.yld i H x H' → gName iw x σx H' fun σ2 H2 => tc σ2 H2 fun c H3 => if c = true then te σ2 H3 fun y H4 => ∃ ys, H4 D = some (.lst ys) ∧ ys.length < sizeLine ∧ ∃ m', m' < m ∧ W (i + 1) m' σ2 (upd H4 D (.lst (ys ++ [y]))) else ∃ m', m' < m ∧ W (i + 1) m' σ2 H3) := by
  refine ⟨fun i m σx Hx => (∀ y, σx.set iw y = σb.set iw y) ∧ m = n - i ∧ i ≤ n ∧ Same H1 Hx ∧ Hx D = some (.lst (((List.range i).filter p).map g)), ⟨n, fun _ => rfl, rfl, Nat.zero_le _, comp_rng.upd_same2' hD, upd_same⟩, ?_⟩
  rintro i m σx Hx ⟨eσ, rfl, hi, sx, xD⟩
  by_cases hlt : i < n
  · refine .inr ⟨hJ.go i Hx hlt sx, fun v H' hy => ?_⟩
    obtain ⟨rfl, rfl⟩ := hJ.yld i _ _ _ hlt sx hy
    show tc (σx.set iw _) _ _
    rw [eσ]
    have eσ' : ∀ y, (σb.set iw (some (x i))).set iw y = σb.set iw y := fun y => by rw [List.set_set]
    refine ht i _ _ hlt sx fun Hy sy => ?_
    by_cases hp : p i = true
    · rw [hp]
      refine iteT (he i _ _ hlt hp (fun b o e => sy _ _ (sx _ _ e)) fun Hz sz => ⟨_, sz _ _ (sy _ _ xD), ?_, n - (i + 1), by omega, eσ', rfl, hlt, ?_, ?_⟩)
      · have := List.length_filter_le p (List.range i)
        simp at this ⊢; omega
      · intro b o e
        rw [upd_ne (ne_of_none e hD)]; exact sz _ _ (sy _ _ (sx _ _ e))
      · rw [upd_same, List.range_succ, List.filter_append, List.map_append]
        simp [hp]
    · have hp : p i = false := by simpa using hp
      rw [hp]
      refine iteF ⟨n - (i + 1), by omega, eσ', rfl, hlt, fun b o e => sy _ _ (sx _ _ e), ?_⟩
      rw [sy _ _ xD, List.range_succ, List.filter_append]
      simp [hp]
  · have e : i = n := by omega
    subst e
    exact .inl ⟨hJ.stop Hx sx, q Hx sx xD⟩
theorem range_pick {α β : Type} (l : List α) (d : α) (p : α → Bool) (f : α → β) : ((List.range l.length).filter (fun i => p (l.getD i d))).map (fun i => f (l.getD i d)) = (l.filter p).map f := by
  have e : l = (List.range l.length).map (fun i => l.getD i d) := by
    apply List.ext_getElem?
    intro i
    by_cases hi : i < l.length
    · rw [List.getElem?_map, List.getElem?_range hi, List.getElem?_eq_getElem hi]
      simp [List.getD_eq_getElem?_getD, hi]
    · rw [List.getElem?_eq_none (by omega), List.getElem?_eq_none (by simp; omega)]
  conv => rhs; rw [e]
  rw [List.filter_map, List.map_map]
  rfl
def TupK (K : PySem.W.Frag) (a : Addr) (ss : List Str) : Prop := ∃ (o : Obj) (its : Array Value) (n : Nat), K.lookup a = some o ∧ o.cls = .type "tuple" ∧ o.data = .seq its n ∧ its.size ≤ sizeLine ∧ Vals (ss.map V.str) its.toList
def strsB : List Value → List Str → Bool
  | [], [] => true
  | .str x _ :: us, y :: ss => decide (x = y) && strsB us ss
  | _, _ => false
def tupKit (K : PySem.W.Frag) (a : Addr) (ss : List Str) : Bool := match K.lookup a with
  | none => false
  | some o => (match o.cls with | .type n => n == "tuple" | _ => false) && match o.data with | .seq its _ => strsB its.toList ss && decide (its.toList.length ≤ 100) | _ => false
theorem strsB_vals : ∀ {us : List Value} {ss : List Str}, strsB us ss = true → Vals (ss.map V.str) us
  | [], [], _ => .nil
  | [], _ :: _, h => by cases h
  | u :: us, [], h => by cases u <;> cases h
  | u :: us, y :: ss, h => by
    cases u <;> first
      | cases h
      | (rename_i x t
         have h : (decide (x = y) && strsB us ss) = true := h
         rw [Bool.and_eq_true] at h
         have e := of_decide_eq_true h.1
         subst e
         exact .cons ⟨t, rfl⟩ (strsB_vals h.2))
theorem tupK_mk {K : PySem.W.Frag} {a : Addr} {ss : List Str} (h : tupKit K a ss = true) : TupK K a ss := by
  unfold tupKit at h
  cases e : K.lookup a with
  | none => rw [e] at h; cases h
  | some o =>
    rw [e] at h
    have h : ((match o.cls with | .type n => n == "tuple" | _ => false) && match o.data with | .seq its _ => strsB its.toList ss && decide (its.toList.length ≤ 100) | _ => false) = true := h
    rw [Bool.and_eq_true] at h
    obtain ⟨h1, h2⟩ := h
    have c : o.cls = .type "tuple" := by
      split at h1
      · rename_i n z; rw [z, eq_of_beq h1]
      · cases h1
    split at h2
    · rename_i its n z
      rw [Bool.and_eq_true] at h2
      have hz := sizeLine_eq
      refine ⟨o, its, n, e, c, z, ?_, strsB_vals h2.1⟩
      have := of_decide_eq_true h2.2
      rw [Array.length_toList] at this
      omega
    · cases h2
theorem TupK.sq {K : PySem.W.Frag} {a : Addr} {ss : List Str} (h : TupK K a ss) (H : Hp) : SqT K H a (ss.map V.str) := .inr h
structure PEW (X : Cx) (e : Expr) (t : TE) : Prop where
  h : PE X e t
structure PAW (X : Cx) (es : List Expr) (t : TA) : Prop where
  h : PA X es t
structure PSW (X : Cx) (st : Stmt) (t : TS) : Prop where
  h : PS X st t
structure PSsW (X : Cx) (st : List Stmt) (t : TS) : Prop where
  h : PSs X st t
section
variable {X : Cx}
theorem PSsW.out {st : List Stmt} {t : TS} (h : PSsW X st t) : PSs X st t := h.h
theorem w_cons {st : Stmt} {rest : List Stmt} {t u : TS} (h1 : PSW X st t) (h2 : PSsW X rest u) : PSsW X (st :: rest) (tSeq t u) := ⟨pss_cons h1.h h2.h⟩
theorem w_one {st : Stmt} {t : TS} (h1 : PSW X st t) : PSsW X [st] t := ⟨pss_one h1.h⟩
theorem w_set {i : Nat} {x : Str} {e : Expr} {te : TE} {pos pos' : Pos} (hN : X.N.Nodup) (hi : X.N[i]? = some x) (hx : Loc X.env.scope x) (he : PEW X e te) (hs : swapsWith e (some (.Name x pos')) pos.line X.env = pure false := by rfl) (hf : X.fn x = true ∨ X.env.scope.names.lookup x = some .local := by first | exact .inl rfl | exact .inr rfl) :
    PSW X (.Assign [.Name x pos'] e pos) (tAsg te (gName i)) := ⟨ps_set hN hi hx he.h hs hf⟩
theorem w_lst {es : List Expr} {t : TA} {pos : Pos} (h : PAW X es t) : PEW X (.List es pos) (tLst t) := ⟨pe_lst h.h⟩
theorem w_tup {es : List Expr} {t : TA} {k : Nat} {pos : Pos} (h : PAW X es t) : PEW X (.Tuple es k pos) (tTup t) := ⟨pe_tup h.h⟩
theorem wa_nil : PAW X [] tNil := ⟨pa_nil⟩
theorem wa_cons {e : Expr} {es : List Expr} {te : TE} {t : TA} (h1 : PEW X e te) (h2 : PAW X es t) (hs : starEach (e :: es) X.env = (false, eval e X.env) :: starEach es X.env := by rfl) : PAW X (e :: es) (tCons te t) := ⟨pa_cons h1.h h2.h hs⟩
end
end L2
end
section
namespace MW
abbrev W := List Nat
theorem lt_cases {x y : W} (h : x < y) : (∃ t, t ≠ [] ∧ y = x ++ t) ∨ ∃ p a b s t, x = p ++ a :: s ∧ y = p ++ b :: t ∧ a < b := by
  induction x generalizing y with
  | nil =>
    cases y with
    | nil => exact absurd h (List.lt_irrefl _)
    | cons b t => exact .inl ⟨b :: t, by simp, rfl⟩
  | cons a s ih =>
    cases y with
    | nil => exact absurd h (List.not_lt_nil _)
    | cons b t =>
      rcases List.cons_lt_cons_iff.mp h with q | ⟨rfl, q⟩
      · exact .inr ⟨[], a, b, s, t, rfl, rfl, q⟩
      · rcases ih q with ⟨u, hu, rfl⟩ | ⟨p, a', b', s', t', rfl, rfl, q'⟩
        · exact .inl ⟨u, hu, rfl⟩
        · exact .inr ⟨a :: p, a', b', s', t', rfl, rfl, q'⟩
theorem lt_append_left {p x y : W} : p ++ x < p ++ y ↔ x < y := by
  induction p with
  | nil => exact Iff.rfl
  | cons a p ih => rw [List.cons_append, List.cons_append, List.cons_lt_cons_iff]; simp [ih]
theorem diff_lt {p : W} {a b : Nat} {s t : W} (h : a < b) : p ++ a :: s < p ++ b :: t := lt_append_left.mpr (List.cons_lt_cons_iff.mpr (.inl h))
theorem lt_trans {x y z : W} (a : x < y) (b : y < z) : x < z := List.lt_trans a b
theorem lt_irrefl (x : W) : ¬ x < x := List.lt_irrefl x
theorem lt_asymm {x y : W} (a : x < y) : ¬ y < x := fun b => lt_irrefl x (lt_trans a b)
theorem tri (x y : W) : x < y ∨ x = y ∨ y < x := by
  by_cases h : x < y
  · exact .inl h
  · by_cases g : y < x
    · exact .inr (.inr g)
    · exact .inr (.inl (List.le_antisymm (List.not_lt.mp g) (List.not_lt.mp h)))
theorem lt_more {x y : W} (h : x < y) (hl : y.length ≤ x.length) (s t : W) : x ++ s < y ++ t := by
  rcases lt_cases h with ⟨u, hu, rfl⟩ | ⟨p, a, b, s', t', rfl, rfl, q⟩
  · have : u.length = 0 := by simp at hl; omega
    exact absurd (List.length_eq_zero_iff.mp this) hu
  · simpa using diff_lt q
theorem lt_of_more {x y s t : W} (h : x ++ s < y ++ t) (hl : x.length = y.length) : x < y ∨ (x = y ∧ s < t) := by
  rcases tri x y with q | q | q
  · exact .inl q
  · subst q; exact .inr ⟨rfl, lt_append_left.mp h⟩
  · exact absurd h (lt_asymm (lt_more q (by omega) t s))
def Pl (w : W) : Prop := w ≠ [] ∧ ∀ i, 0 < i → i < w.length → w < w.drop i
def PlT (w : W) : Prop := w ≠ [] ∧ ∀ i, 0 < i → i < w.length → w < w.drop i ++ w.take i
theorem plT_of {w : W} (h : Pl w) : PlT w := ⟨h.1, fun i h0 h1 => by
  have := lt_more (h.2 i h0 h1) (by simp) [] (w.take i)
  simpa using this⟩
theorem pl_of {w : W} (h : PlT w) : Pl w := ⟨h.1, fun i h0 h1 => by
  have hr := h.2 i h0 h1
  rcases tri w (w.drop i) with q | q | q
  · exact q
  · have := congrArg List.length q
    simp at this; omega
  · exfalso
    rcases lt_cases q with ⟨t, ht, e⟩ | ⟨p, a, b, s, t, e1, e2, q'⟩
    · -- the end is a beginning too
      have hlt : t.length = i := by have := congrArg List.length e; simp at this; omega
      have e3 : w = w.take i ++ w.drop i := (List.take_append_drop i w).symm
      have h2 := h.2 (w.drop i).length (by simp; omega) (by simp; omega)
      have d1' : ∀ v : W, w = v ++ t → w.drop v.length = t ∧ w.take v.length = v := fun v e => by subst e; exact ⟨List.drop_left, List.take_left⟩
      have d1 : w.drop (w.drop i).length = t := (d1' _ e).1
      have d2 : w.take (w.drop i).length = w.drop i := (d1' _ e).2
      rw [d1, d2] at h2
      have h3 : w.take i < t := by
        have : w.take i ++ w.drop i < t ++ w.drop i := by rw [← e3]; exact h2
        rcases lt_of_more this (by rw [hlt, List.length_take]; omega) with z | ⟨_, z⟩
        · exact z
        · exact absurd z (lt_irrefl _)
      have h4 : t < w.take i := by
        have : w.drop i ++ t < w.drop i ++ w.take i := by rw [← e]; exact hr
        exact lt_append_left.mp this
      exact lt_asymm h3 h4
    · have : w.drop i ++ w.take i < w := by
        conv => rhs; rw [e2]
        rw [e1]
        simpa using diff_lt q'
      exact lt_asymm hr this⟩
def pl (w : W) : Bool := decide (w ≠ []) && (List.range (w.length - 1)).all fun i => decide (w < w.drop (1 + i))
theorem pl_true {w : W} : pl w = true ↔ Pl w := by
  unfold pl Pl
  rw [Bool.and_eq_true, List.all_eq_true]
  constructor
  · rintro ⟨a, b⟩
    refine ⟨of_decide_eq_true a, fun i h0 h1 => ?_⟩
    have := of_decide_eq_true (b (i - 1) (List.mem_range.mpr (by omega)))
    rwa [show 1 + (i - 1) = i by omega] at this
  · rintro ⟨a, b⟩
    exact ⟨decide_eq_true a, fun i hi => decide_eq_true (b (1 + i) (by omega) (by have := List.mem_range.mp hi; omega))⟩
instance (w : W) : Decidable (Pl w) := decidable_of_iff _ pl_true
def CutAt (w : W) (i : Nat) : Prop := 0 < i ∧ i < w.length ∧ Pl (w.drop i) ∧ ∀ j, 0 < j → j < i → ¬ Pl (w.drop j)
end MW
end
section
namespace MH
abbrev W := List Nat
def Wf (ls : List Nat) : Nat → List W
  | 0 => [[]]
  | n + 1 => ls.flatMap fun l => (Wf ls n).map fun w => l :: w
def Wb (ls : List Nat) : Nat → List W
  | 0 => [[]]
  | n + 1 => (Wb ls n).flatMap fun w => ls.map fun l => w ++ [l]
theorem flatMap_map' {α β γ : Type} (l : List α) (f : α → β) (g : β → List γ) : (l.map f).flatMap g = l.flatMap fun x => g (f x) := by
  induction l with
  | nil => rfl
  | cons a r ih => rw [List.map_cons, List.flatMap_cons, List.flatMap_cons, ih]
theorem flatMap_flatMap' {α β γ : Type} (l : List α) (f : α → List β) (g : β → List γ) : (l.flatMap f).flatMap g = l.flatMap fun x => (f x).flatMap g := by
  induction l with
  | nil => rfl
  | cons a r ih => rw [List.flatMap_cons, List.flatMap_append, List.flatMap_cons, ih]
theorem map_flatMap' {α β γ : Type} (l : List α) (f : α → List β) (g : β → γ) : (l.flatMap f).map g = l.flatMap fun x => (f x).map g := by
  induction l with
  | nil => rfl
  | cons a r ih => rw [List.flatMap_cons, List.map_append, List.flatMap_cons, ih]
theorem wf_wb (ls : List Nat) : ∀ n, Wf ls n = Wb ls n
  | 0 => rfl
  | 1 => by
    have : ∀ l : List Nat, (l.map fun l => [[l]]).flatten = l.map fun l => [l] := fun l => by
      induction l with
      | nil => rfl
      | cons a r ih => rw [List.map_cons, List.flatten_cons, ih]; rfl
    simp [Wf, Wb, List.flatMap]
    exact this ls
  | n + 2 => by
    have h1 := wf_wb ls (n + 1)
    show ls.flatMap (fun l => (Wf ls (n + 1)).map fun w => l :: w) = (Wb ls (n + 1)).flatMap fun w => ls.map fun l => w ++ [l]
    rw [← h1]
    conv => rhs; rw [Wf]
    rw [flatMap_flatMap']
    congr 1
    funext l
    rw [flatMap_map', h1]
    show ((Wb ls n).flatMap fun w => ls.map fun l => w ++ [l]).map (fun w => l :: w) = _
    rw [map_flatMap', wf_wb ls n]
    congr 1
    funext w
    rw [List.map_map]
    rfl
theorem wf_len (ls : List Nat) : ∀ n, (Wf ls n).length = ls.length ^ n
  | 0 => rfl
  | n + 1 => by
    rw [Wf, List.length_flatMap]
    have : (ls.map fun l => ((Wf ls n).map fun w => l :: w).length) = ls.map fun _ => (Wf ls n).length := by
      apply List.map_congr_left
      intro a _
      rw [List.length_map]
    rw [this, wf_len ls n, Nat.pow_succ, List.map_const', List.sum_replicate_nat, Nat.mul_comm]
theorem wf_mem {ls : List Nat} : ∀ {n : Nat} {w : W}, w ∈ Wf ls n → w.length = n ∧ ∀ c ∈ w, c ∈ ls
  | 0, w, h => by
    have : w = [] := by simpa [Wf] using h
    subst this
    exact ⟨rfl, fun c h => by cases h⟩
  | n + 1, w, h => by
    rw [Wf, List.mem_flatMap] at h
    obtain ⟨l, hl, h⟩ := h
    obtain ⟨v, hv, rfl⟩ := List.mem_map.mp h
    obtain ⟨e, g⟩ := wf_mem hv
    refine ⟨by rw [List.length_cons, e], fun c hc => ?_⟩
    rcases List.mem_cons.mp hc with z | z
    · rw [z]; exact hl
    · exact g c z
def psL : Nat → Int → Int → Int → Int
  | 0, _, sign, _ => sign
  | k + 1, p, sign, rest => if rest % p = 0 then (if rest / p % p = 0 then 0 else psL k (p + 1) (-sign) (rest / p)) else psL k (p + 1) sign rest
def ps (n : Nat) : Int := psL (n - 1) 2 1 n
theorem psL_le : ∀ (k : Nat) (p s r : Int), -1 ≤ s → s ≤ 1 → -1 ≤ psL k p s r ∧ psL k p s r ≤ 1
  | 0, p, s, r, h1, h2 => ⟨h1, h2⟩
  | k + 1, p, s, r, h1, h2 => by
    unfold psL
    split
    · split
      · exact ⟨by decide, by decide⟩
      · exact psL_le k _ _ _ (by omega) (by omega)
    · exact psL_le k _ _ _ h1 h2
theorem ps_le (n : Nat) : -1 ≤ ps n ∧ ps n ≤ 1 := psL_le _ _ _ _ (by decide) (by decide)
def hmS (k n : Nat) : Nat → Int
  | 0 => 0
  | i + 1 => if n % (i + 1) = 0 then hmS k n i + ps (i + 1) * ((k ^ (n / (i + 1)) : Nat) : Int) else hmS k n i
def hm (k n : Nat) : Int := hmS k n n / n
def smS (k n : Nat) : Nat → Int
  | 0 => 0
  | i + 1 => if n % (i + 1) = 0 then smS k n i + ((i + 1 : Nat) : Int) * hm k (i + 1) else smS k n i
def abc : List Nat := [97, 98, 99]
theorem sums : ∀ k ∈ [1, 2, 3], ∀ n ∈ List.range 60, smS k (n + 1) (n + 1) = ((k ^ (n + 1) : Nat) : Int) := by decide +kernel
theorem counts2 : ∀ k ∈ [1, 2], ∀ n ∈ List.range 8, hm k (n + 1) = (((Wf (abc.take k) (n + 1)).filter MW.pl).length : Int) := by decide +kernel
theorem counts3 : ∀ n ∈ List.range 6, hm 3 (n + 1) = (((Wf (abc.take 3) (n + 1)).filter MW.pl).length : Int) := by decide +kernel
theorem counts {k n : Nat} (h1 : 1 ≤ k) (h3 : k ≤ 3) (n1 : 1 ≤ n) (h8 : n ≤ 8) (h6 : k = 3 → n ≤ 6) : hm k n = (((Wf (abc.take k) n).filter MW.pl).length : Int) := by
  obtain ⟨m, rfl⟩ : ∃ m, n = m + 1 := ⟨n - 1, by omega⟩
  by_cases e : k = 3
  · subst e
    exact counts3 m (List.mem_range.mpr (by have := h6 rfl; omega))
  · exact counts2 k (by have : k = 1 ∨ k = 2 := by omega
                        rcases this with z | z <;> rw [z] <;> decide) m (List.mem_range.mpr (by omega))
theorem sum_all {k n : Nat} (h1 : 1 ≤ k) (h3 : k ≤ 3) (n1 : 1 ≤ n) (h60 : n ≤ 60) : smS k n n = ((k ^ n : Nat) : Int) := by
  obtain ⟨m, rfl⟩ : ∃ m, n = m + 1 := ⟨n - 1, by omega⟩
  refine sums k ?_ m (List.mem_range.mpr (by omega))
  have : k = 1 ∨ k = 2 ∨ k = 3 := by omega
  rcases this with z | z | z <;> rw [z] <;> decide
end MH
end
section
namespace Wm
variable {α : Type} [DecidableEq α] {op : α → α → α} {ℓ : α → Nat}
def AllW (R : α → Prop) (d : D α) : Prop := ∀ w ∈ keys d, R w
def Br.ok (R : α → Prop) : Br α → Prop
  | .leaf x => R x
  | .node a b => a.ok R ∧ b.ok R
end Wm
namespace K01
open PySem PySem.Spec PyProof.Rows Tim L2 Wm
abbrev cat : Str → Str → Str := fun x y => x ++ y
def dk (d : D Str) : List (Key × V) := d.map fun p => (Sum.inr p.1, V.int p.2)
def SX (x : Addr) (H H' : Hp) : Prop := ∀ b o, b ≠ x → H b = some o → H' b = some o
theorem _root_.L2.Same.sx {H H' : Hp} {x : Addr} (h : Same H H') : SX x H H' := fun b o _ e => h b o e
theorem SX.trans {H H1 H2 : Hp} {x : Addr} (a : SX x H H1) (b : SX x H1 H2) : SX x H H2 := fun c o n e => b c o n (a c o n e)
theorem SX.same {H H1 H2 : Hp} {x : Addr} (a : Same H H1) (hx : H x = none) (b : SX x H1 H2) : Same H H2 := fun c o e => b c o (ne_of_none e hx) (a c o e)
theorem new_same {H : Hp} {p : Addr} (h : H p = none) (o : HO) : Same H (upd H p o) := fun b u q => by rw [upd_ne (ne_of_none q h)]; exact q
def Abc (x : Str) : Prop := ∀ c ∈ x.cps.toList, c = 97 ∨ c = 98 ∨ c = 99
def BrV (H : Hp) : Br Str → V → Prop
  | .leaf x, v => v = .str x ∧ x.length = 1 ∧ Abc x
  | .node a b, v => ∃ p u w, v = .ref p ∧ H p = some (.tup [u, w]) ∧ BrV H a u ∧ BrV H b w
theorem BrV.same {H H' : Hp} (s : Same H H') : ∀ {b : Br Str} {v : V}, BrV H b v → BrV H' b v
  | .leaf x, v, h => h
  | .node a b, v, ⟨p, u, w, e, h, h1, h2⟩ => ⟨p, u, w, e, s _ _ h, h1.same s, h2.same s⟩
theorem BrV.ok {H : Hp} : ∀ {b : Br Str} {v : V}, BrV H b v → b.ok (fun x => x.length = 1)
  | .leaf x, v, h => h.2.1
  | .node a b, v, ⟨p, u, w, e, h, h1, h2⟩ => ⟨h1.ok, h2.ok⟩
theorem BrV.abc {H : Hp} : ∀ {b : Br Str} {v : V}, BrV H b v → b.ok Abc
  | .leaf x, v, h => h.2.2
  | .node a b, v, ⟨p, u, w, e, h, h1, h2⟩ => ⟨h1.abc, h2.abc⟩
end K01
end
section
namespace K01
open PySem PySem.Spec PyProof.Rows Tim L2 Wm
def top (i : Nat) : Stmt := PySem.Challenge.pw_twistbrackets_k04_how_many.main.body.getD i (.Pass ⟨0, 0, 0, 0⟩)
end K01
end
section
namespace K01
open PySem PySem.Spec PyProof.Rows Tim L2 Wm
structure Blt (mg : Str → Option Value) : Prop where
  isi : mg "isinstance" = none
  str : mg "str" = none
  len : mg "len" = none
  lst : mg "list" = none
  tup : mg "tuple" = none
  int : mg "int" = none
  bool : mg "bool" = none
  srt : mg "sorted" = none
  rng : mg "range" = none
  zip : mg "zip" = none
  all : mg "all" = none
  min : mg "min" = none
  max : mg "max" = none
  dict : mg "dict" = none
  abs : mg "abs" = none
  sum : mg "sum" = none
  set : mg "set" = none
  enm : mg "enumerate" = none
  rev : mg "reversed" = none
  ve : mg "ValueError" = none
theorem bt_str : bootBuiltins "str" = some (.type "str") := by decide +kernel
theorem bt_int : bootBuiltins "int" = some (.type "int") := by decide +kernel
theorem bt_bool : bootBuiltins "bool" = some (.type "bool") := by decide +kernel
theorem bt_list : bootBuiltins "list" = some (.type "list") := by decide +kernel
structure At (K : PySem.W.Frag) (mg : Str → Option Value) (x : Str) (st : Stmt) (ps : List Str) (f : Addr) (fd : FuncData) : Prop where
  fn : Fun K x x st f fd
  b : Binds K fd ps []
  m : mg x = some (.ref f)
theorem At.k {K : PySem.W.Frag} {mg : Str → Option Value} {x : Str} {st : Stmt} {ps : List Str} {f : Addr} {fd : FuncData} (a : At K mg x st ps f fd) : PySem.W.keepIn K (.ref f) = true := a.fn.kp
section
variable {P : Program} {w : World} {K : PySem.W.Frag} {mg : Str → Option Value} {base : Heap} {f : Addr} {fd : FuncData}
end
end K01
end
section
namespace K01
open PySem PySem.Spec PyProof.Rows Tim L2 Wm
theorem mod_lt {i j : Int} (h : 0 < j) : 0 ≤ i % j ∧ i % j < j := ⟨Int.emod_nonneg _ (by omega), Int.emod_lt_of_pos _ h⟩
theorem p64 : (2 : Int) ^ 64 = 18446744073709551616 := by decide
theorem cmul_r {i j : Int} (h0 : 0 ≤ j) (h : j < 18446744073709551616) : CMul i j := by
  have := p64
  exact .inr ⟨by omega, by omega⟩
theorem cmul_l {i j : Int} (h0 : 0 ≤ i) (h : i < 18446744073709551616) : CMul i j := (cmul_r (i := j) h0 h).symm
theorem p62 : (2 : Int) ^ 62 = 4611686018427387904 := by decide
section
variable {P : Program} {w : World} {K : PySem.W.Frag} {mg : Str → Option Value} {base : Heap} {f fs fr fb fm fd' fc : Addr} {fd sd rd bd md dd cd : FuncData}
def spStir : Sp := fun vs H Q _ => ∃ c : Int, vs = [.int c] ∧ ∀ (i : Int) H', Same H H' → Q (.int i) H'
theorem scStir : FnScope ["cell", "found", "factor", "mixed"] ["cell"] (defScope (top 16)) := ⟨rfl, rfl, rfl, by decide +kernel, rfl, by decide +kernel, by decide +kernel⟩
def spCell (K : PySem.W.Frag) : Sp := fun vs H Q _ => ∃ (a : Addr) (ns : List Int) (k : Int), vs = [.ref a, .int k] ∧ SqL K H a (ns.map V.int) ∧ 0 ≤ k ∧ ∀ (i : Int) H', Same H H' → Q (.int i) H'
theorem scCell : FnScope ["script", "k"] ["script", "k"] (defScope (top 17)) := ⟨rfl, rfl, rfl, by decide +kernel, rfl, by decide +kernel, by decide +kernel⟩
def spRaw (K : PySem.W.Frag) : Sp := fun vs H Q _ => ∃ (a : Addr) (ns : List Int) (k : Int), vs = [.ref a, .int k] ∧ SqL K H a (ns.map V.int) ∧ 0 ≤ k ∧ ∀ i : Int, Q (.int i) H
end
end K01
end
section
namespace K01
open PySem PySem.Spec PyProof.Rows Tim L2 Wm
def stirM (c z : Int) : Int := (c * z + 7919) % 2147483647
def stirN (c z : Int) : Int := stirM c z * stirM c z % 2147483647 * 40692 % 2147483399
def stirS (c g z : Int) : Int := g * 10 ^ (9 : Nat) + stirN c z / 7
def stirL : List Int := [48271, 69621, 39373, 44488]
def stirV (c : Int) : Int := stirL.foldl (stirS c) 0
def cellV (ns : List Int) (k : Nat) : Int := stirV (ns.getD k 0)
section
variable {P : Program} {w : World} {K : PySem.W.Frag} {mg : Str → Option Value} {base : Heap} {f fs : Addr} {fd sd : FuncData}
def spStirD : Sp := fun vs H Q _ => ∃ c : Int, vs = [.int c] ∧ ∀ H', Same H H' → Q (.int (stirV c)) H'
theorem ok_stirD (F : At K mg "_law_stir" (top 16) ["cell"] f fd) : FnOk P w K mg base CX0 1 f fd ["cell"] spStirD := by
  refine F.fn.ok scStir (fun vs H Q E h => ?_) (fun cdv A outer s H vs Q E hr h => ?_)
  · obtain ⟨c, rfl, _⟩ := h
    rfl
  obtain ⟨c, rfl, q⟩ := h
  refine ⟨_, pss_cons (ps_set (i := 1) scStir.nd rfl (Or.inl rfl) pe_int)
    (pss_cons (ps_for PassesOwn.never rfl (pi_list (pe_lst (pa_cons pe_int (pa_cons pe_int (pa_cons pe_int (pa_cons pe_int pa_nil)))))) (pg_name (i := 2) scStir.nd rfl (Or.inl rfl))
      (pss_cons (ps_set (i := 3) scStir.nd rfl (Or.inl rfl) (pe_op op_mod (pe_op op_add (pe_op op_mul (pv 0) (pv 2)) pe_int) pe_int))
      (pss_cons (ps_set (i := 3) scStir.nd rfl (Or.inl rfl) (pe_op op_mod (pe_op op_mul (pe_op op_mod (pe_op op_mul (pv 3) (pv 3)) pe_int) pe_int) pe_int))
      (pss_one (ps_set (i := 1) scStir.nd rfl (Or.inl rfl) (pe_op op_add (pe_op op_mul (pv 1) (pe_op op_pow pe_int pe_int)) (pe_op op_fdiv (pv 3) pe_int)))))))
    (pss_one (ps_ret (pv 1)))), ?_⟩
  refine ⟨by show 4 ≤ sizeLine; decide, fun p np => ?_⟩
  refine ⟨p, rfl, ⟨_, .inl (.inl upd_same)⟩, for_list (K := K) (a := p) (xs := stirL.map V.int) (fun i σ Hx => ∃ (x2 x3 : Option V), σ = [some (.int c), some (.int ((stirL.take i).foldl (stirS c) 0)), x2, x3] ∧ Hx = upd H p (.lst [.int 48271, .int 69621, .int 39373, .int 44488])) ⟨none, none, rfl, rfl⟩ ?_ ?_ ?_⟩
  · rintro i σ Hx _ ⟨x2, x3, rfl, rfl⟩
    exact .inl (.inl upd_same)
  · rintro i v σ Hx hi ⟨x2, x3, rfl, rfl⟩
    obtain ⟨z, hz, rfl⟩ : ∃ z : Int, stirL[i]? = some z ∧ V.int z = v := by
      rw [List.getElem?_map] at hi
      cases y : stirL[i]? with
      | none => rw [y] at hi; cases hi
      | some z => rw [y] at hi; cases hi; exact ⟨z, rfl, rfl⟩
    have zb : 0 ≤ z ∧ z < 100000 := by
      have := List.mem_of_getElem? hz
      have h : z = 48271 ∨ z = 69621 ∨ z = 39373 ∨ z = 44488 := by simpa [stirL] using this
      omega
    have m1 := mod_lt (i := c * z + 7919) (j := 2147483647) (by decide)
    refine ⟨_, rfl, _, rfl, _, _, rfl, rfl, cmul_r zb.1 (by omega), _, _, rfl, rfl, _, _, rfl, rfl, (by show (0 : Int) < _; decide), ?_⟩
    refine ⟨_, rfl, _, rfl, _, _, rfl, rfl, cmul_r m1.1 (by omega), _, _, rfl, rfl, (by show (0 : Int) < _; decide), _, _, rfl, rfl, cmul_r (by decide) (by decide), _, _, rfl, rfl, (by show (0 : Int) < _; decide), ?_⟩
    refine ⟨_, rfl, _, _, rfl, rfl, ⟨by decide, by decide, by decide⟩, _, _, rfl, rfl, cmul_r (by decide) (by decide), _, rfl, _, _, rfl, rfl, ⟨by decide, by decide⟩, _, _, rfl, rfl, ?_⟩
    refine ⟨some (.int z), some (.int (stirN c z)), ?_, rfl⟩
    rw [List.take_add_one, hz, List.foldl_append]
    rfl
  · rintro σ Hx ⟨x2, x3, rfl, rfl⟩
    exact ⟨_, rfl, q _ (new_same np _)⟩
def spCellD (K : PySem.W.Frag) : Sp := fun vs H Q _ => ∃ (a : Addr) (ns : List Int) (k : Nat), vs = [.ref a, .int k] ∧ SqL K H a (ns.map V.int) ∧ ∀ H', Same H H' → Q (.int (cellV ns k)) H'
theorem ok_cellD (T : Blt mg) (F : At K mg "_law_cell" (top 17) ["script", "k"] f fd) (FS : At K mg "_law_stir" (top 16) ["cell"] fs sd) : FnOk P w K mg base CX0 2 f fd ["script", "k"] (spCellD K) := by
  have GS : FnOk P w K mg base CX0 1 fs sd ["cell"] spStirD := ok_stirD FS
  refine F.fn.ok scCell (fun vs H Q E h => ?_) (fun cdv A outer s H vs Q E hr h => ?_)
  · obtain ⟨a, ns, k, rfl, _⟩ := h
    rfl
  obtain ⟨a, ns, k, rfl, hS, q⟩ := h
  refine ⟨_, pss_cons (ps_if (pt_cmpR op_lt (pv 1) (pe_callB call_len_seq rfl T.len PySem.boot_len (pa_cons (pv 0) pa_nil)) (nomark _)) (pss_one (ps_ret (pe_call GS hr rfl FS.m FS.k FS.b .nil pass0 (pa_cons (pe_ix ix_list (pv 0) (pv 1) (fun _ _ => rfl)) pa_nil)))) pss_nil)
    (pss_one (ps_ret (pe_call GS hr rfl FS.m FS.k FS.b .nil pass0 (pa_cons pe_int pa_nil)))), ?_⟩
  refine ⟨_, rfl, _, rfl, a, _, rfl, .inl hS, _, _, rfl, rfl, _, rfl, ?_⟩
  refine ite2 (fun c => ?_) (fun c => ?_)
  · have c : (k : Int) < (((ns.map V.int).length : Nat) : Int) := of_decide_eq_true c
    rw [List.length_map] at c
    have hk : k < ns.length := by omega
    have hv : atI (ns.map V.int) ((k : Nat) : Int) = some (.int ns[k]) := atI_nat (by rw [List.getElem?_map, List.getElem?_eq_getElem hk] <;> rfl)
    have e : cellV ns k = stirV ns[k] := by unfold cellV; rw [List.getD_eq_getElem?_getD, List.getElem?_eq_getElem hk]; rfl
    rw [e] at q
    exact ⟨_, rfl, _, rfl, a, _, _, _, rfl, rfl, hS, hv, _, rfl, q⟩
  · have c : ¬ (k : Int) < (((ns.map V.int).length : Nat) : Int) := fun y => c (decide_eq_true y)
    rw [List.length_map] at c
    have e : cellV ns k = stirV 0 := by unfold cellV; rw [List.getD_eq_getElem?_getD, List.getElem?_eq_none (by omega)]; rfl
    rw [e] at q
    exact ⟨_, rfl, q⟩
end
end K01
end
section
namespace K01
open PySem PySem.Spec PyProof.Rows Tim L2 Wm
abbrev Ls (x : Str) : List Nat := x.cps.toList
def mk (l : List Nat) : Str := ⟨l.toArray⟩
theorem Ls_mk (l : List Nat) : Ls (mk l) = l := by simp [Ls, mk]
theorem mk_Ls (x : Str) : mk (Ls x) = x := by cases x; simp [mk, Ls]
theorem str_ext {x y : Str} (h : Ls x = Ls y) : x = y := by rw [← mk_Ls x, ← mk_Ls y, h]
theorem len_Ls (x : Str) : (Ls x).length = x.length := by rw [Array.length_toList]; rfl
theorem len_mk (l : List Nat) : (mk l).length = l.length := by rw [← len_Ls, Ls_mk]
theorem Ls_cat (x y : Str) : Ls (x ++ y) = Ls x ++ Ls y := by
  show (x.cps ++ y.cps).toList = _
  simp
theorem slice_from {x : Str} {i : Nat} (h : i ≤ x.length) : Txt.slice x (some (i : Int)) none = mk ((Ls x).drop i) := by
  apply str_ext
  rw [Ls_mk]
  have := sl_from (x := x) (i := (i : Int)) ⟨by omega, by omega⟩
  simpa using this
theorem slice_to {x : Str} {i : Nat} (h : i ≤ x.length) : Txt.slice x none (some (i : Int)) = mk ((Ls x).take i) := by
  apply str_ext
  rw [Ls_mk]
  have := sl_to (x := x) (j := (i : Int)) ⟨by omega, by omega⟩
  simpa using this
theorem empty_iff {z : Str} : z = Str.ofString "" ↔ Ls z = [] := by
  constructor
  · intro h; rw [h]; decide +kernel
  · intro h; exact str_ext (by rw [h]; decide +kernel)
theorem lk2 {x a b c : Str} {k : NameKind} (h : List.lookup x [(a, NameKind.local), (b, NameKind.local), (c, NameKind.cell)] = some k) (hk : k ≠ .local) : x = c := by
  rw [List.lookup_cons] at h
  split at h
  · cases h; exact absurd rfl hk
  · rw [List.lookup_cons] at h
    split at h
    · cases h; exact absurd rfl hk
    · rw [List.lookup_cons] at h
      split at h
      · rename_i e; exact eq_of_beq e
      · cases h
section
variable {P : Program} {w : World} {K : PySem.W.Frag} {mg : Str → Option Value} {base : Heap} {f fa fn ft fp fr : Addr} {fd ad nd td pd rd : FuncData}
def spPl : Sp := fun vs H Q _ => ∃ z : Str, vs = [.str z] ∧ z.length ≤ 1000 ∧ ∀ H', Same H H' → Q (.bl (MW.pl (Ls z))) H'
theorem scPl : FnScope ["word"] ["word"] (defScope (top 8)) := ⟨rfl, rfl, rfl, by decide +kernel, rfl, by decide +kernel, by decide +kernel⟩
def cPl : Scope := { kind := .function, names := [(Str.ofString ".0", .local), (Str.ofString "start", .local), (Str.ofString "word", .free)], isGenerator := false, isCoroutine := false, more := [] }
theorem ok_pl (T : Blt mg) (F : At K mg "is_plain" (top 8) ["word"] f fd) : FnOk P w K mg base CX0 1 f fd ["word"] spPl := by
  refine F.fn.ok scPl (fun vs H Q E h => ?_) (fun cdv A outer s H vs Q E hr h => ?_)
  · obtain ⟨z, rfl, _⟩ := h
    rfl
  obtain ⟨z, rfl, hz, q⟩ := h
  have O : CompOk (cxOf CX0 P w K mg base ["word"] "is_plain" (defScope (top 8)) f cdv A outer s H E).nox ["start", "word"] cPl [(Str.ofString "word", s.heap.objs.size + 1)] := {
    clos := rfl
    nocell := by decide +kernel
    kind := rfl
    names := by decide +kernel
    sub := fun x c e => e
    has := fun x h => by
      have e : x = Str.ofString "word" := by
        rcases h with h | h
        · exact lk2 h (by decide)
        · exact lk2 h (by decide)
      subst e
      exact ⟨_, rfl⟩ }
  refine ⟨_, pss_cons (ps_if (pt_cmpR op_eq (pv 0) pe_str (nomark _)) (pss_one (ps_ret pe_bl)) pss_nil)
    (pss_one (ps_ret (pe_callB (call_all rfl) rfl T.all L2.boot_all (pa_cons (pe_comp (N' := ["start", "word"]) (iw := 0) rfl O (pi_range2 rfl T.rng (pa_cons pe_int (pa_cons (pe_callB call_len_str rfl T.len PySem.boot_len (pa_cons (pv 0) pa_nil)) pa_nil))) (by decide +kernel) rfl rfl
      (fun C s₀ H₀ ex pn xe => pe_cmpR op_lt_str (pv 1) (pe_slice sl_str (pv 1) (po_some (pv 0)) po_none) (nomark _))) pa_nil)))), ?_⟩
  have hzl := sizeLine_eq
  refine ⟨_, rfl, rfl, _, rfl, ?_⟩
  refine ite2 (fun e => ?_) (fun e => ?_)
  · have e : z = Str.ofString "" := by
      have e := of_decide_eq_true e
      exact V.str.inj e
    have : MW.pl (Ls z) = false := by rw [empty_iff.mp e]; rfl
    rw [this] at q
    exact q H (Same.refl _)
  · have e : Ls z ≠ [] := fun y => e (by rw [empty_iff.mpr y]; rfl)
    have hl : 0 < z.length := by rw [← len_Ls]; exact List.length_pos_iff.mpr e
    refine ⟨_, rfl, z, rfl, by omega, 1, _, rfl, ⟨by decide, by decide, by omega, by omega⟩, ?_⟩
    refine ⟨[none, some (.str z)], ⟨rfl, ?_⟩, fun D nD => ?_⟩
    · intro i x v e1 e2
      match i, e1, e2 with
      | 0, e1, e2 => cases e2
      | 1, e1, e2 =>
        cases e1
        cases e2
        exact ⟨0, rfl, rfl, rfl, rfl⟩
      | i + 2, e1, e2 => cases e1
    refine comp_rng (g := fun i => .bl (decide (Ls z < (Ls z).drop (1 + i)))) (by omega) nD (fun i Hx R hi sx hR => ?_) fun Hx sx xD => ?_
    · refine ⟨_, rfl, _, rfl, _, rfl, _, rfl, z, rfl, by omega, z, _, rfl, rfl, ?_⟩
      have e : (1 : Int) + (i : Int) = ((1 + i : Nat) : Int) := by omega
      rw [e, slice_from (by omega)]
      have := hR Hx (Same.refl _)
      show R (V.bl (decide (Ls z < Ls (mk _)))) Hx
      rw [Ls_mk]
      exact this
    · refine ⟨D, (List.range ((z.length : Int) - 1).toNat).map (fun i => decide (Ls z < (Ls z).drop (1 + i))), rfl, .inl (.inl (by rw [xD, List.map_map]; rfl)), ?_⟩
      have : ((List.range ((z.length : Int) - 1).toNat).map (fun i => decide (Ls z < (Ls z).drop (1 + i)))).all id = MW.pl (Ls z) := by
        unfold MW.pl
        rw [List.all_map, decide_eq_true e, Bool.true_and, len_Ls]
        congr 2
        omega
      rw [this]
      exact q Hx sx
def spRf (C : Addr) : Sp := fun vs H Q E => ∃ z : Str, vs = [.str z] ∧ z.length ≤ 1000 ∧ Abc z ∧ (MW.Pl (Ls z) → ∀ H', Same H H' → Q .non H') ∧ (¬ MW.Pl (Ls z) → ∀ H', Same H H' → E (.ref C) none H')
def spCut (C : Addr) : Sp := fun vs H Q E => ∃ z : Str, vs = [.str z] ∧ z.length ≤ 1000 ∧ Abc z ∧
  (MW.Pl (Ls z) → 2 ≤ z.length → ∀ p i H', MW.CutAt (Ls z) i → H p = none → Same H H' → H' p = some (.tup [.str (mk ((Ls z).take i)), .str (mk ((Ls z).drop i))]) → Q (.ref p) H') ∧ (¬ (MW.Pl (Ls z) ∧ 2 ≤ z.length) → ∀ H', Same H H' → E (.ref C) none H')
end
end K01
end
section
namespace K01
open PySem PySem.Spec PyProof.Rows Tim L2 Wm
section
variable {P : Program} {w : World} {K : PySem.W.Frag} {mg : Str → Option Value} {base : Heap} {f fp ft fa fn fb fl : Addr} {fd pd td ad nd bd ld : FuncData}
def spWh : Sp := fun vs H Q _ => ∃ i : Int, vs = [.int i] ∧ Q (.bl true) H
theorem scWh : FnScope ["found"] ["found"] (defScope (top 18)) := ⟨rfl, rfl, rfl, by decide +kernel, rfl, by decide +kernel, by decide +kernel⟩
theorem ok_wh (T : Blt mg) (F : At K mg "_law_whole" (top 18) ["found"] f fd) : FnOk P w K mg base CX0 1 f fd ["found"] spWh := by
  refine F.fn.ok scWh (fun vs H Q E h => ?_) (fun cdv A outer s H vs Q E hr h => ?_)
  · obtain ⟨i, rfl, _⟩ := h
    rfl
  obtain ⟨i, rfl, q⟩ := h
  refine ⟨_, pss_one (ps_ret (pe_and (pe_callB call_isi rfl T.isi boot_isi (pa_cons (pv 0) (pa_cons (pe_ty rfl T.int bt_int) pa_nil))) (pe_one (pe_not (pe_callB call_isi rfl T.isi boot_isi (pa_cons (pv 0) (pa_cons (pe_ty rfl T.bool bt_bool) pa_nil))))))), ?_⟩
  exact ⟨_, rfl, _, _, _, rfl, .ii i, _, rfl, iteT ⟨_, rfl, _, _, _, rfl, .ib i, _, rfl, q⟩⟩
end
end K01
end
section
namespace K01
open PySem PySem.Spec PyProof.Rows Tim L2 Wm
section
variable {P : Program} {w : World} {K : PySem.W.Frag} {mg : Str → Option Value} {base : Heap} {f fa fn ft fp fr fs fc : Addr} {fd ad nd td pd rd sd cd : FuncData}
theorem scLp : FnScope ["word", "at"] ["word"] (defScope (top 19)) := ⟨rfl, rfl, rfl, by decide +kernel, rfl, by decide +kernel, by decide +kernel⟩
theorem ok_lp (T : Blt mg) (F : At K mg "_law_is_plain" (top 19) ["word"] f fd) : FnOk P w K mg base CX0 1 f fd ["word"] spPl := by
  refine F.fn.ok scLp (fun vs H Q E h => ?_) (fun cdv A outer s H vs Q E hr h => ?_)
  · obtain ⟨z, rfl, _⟩ := h
    rfl
  obtain ⟨z, rfl, hz, q⟩ := h
  refine ⟨_, pss_cons (ps_for PassesOwn.never rfl (pi_range2 rfl T.rng (pa_cons pe_int (pa_cons (pe_callB call_len_str rfl T.len PySem.boot_len (pa_cons (pv 0) pa_nil)) pa_nil))) (pg_name (i := 1) scLp.nd rfl (Or.inl rfl))
      (pss_one (ps_if (pt_not (pt_cmpR op_lt_str (pv 0) (pe_op op_add_str (pe_slice sl_str (pv 0) (po_some (pv 1)) po_none) (pe_slice sl_str (pv 0) po_none (po_some (pv 1)))) (nomark _))) (pss_one (ps_ret pe_bl)) pss_nil)))
    (pss_one (ps_ret (pe_cmpR op_ne (pv 0) pe_str (nomark _)))), ?_⟩
  have hzl := sizeLine_eq
  have h62 := p62
  refine ⟨_, rfl, z, rfl, by omega, 1, _, rfl, ⟨by omega, by omega, by omega, by omega⟩, ?_⟩
  refine for_range (lo := 1) (n := ((z.length : Int) - 1).toNat) (fun i σ Hx => ∃ x1, σ = [some (.str z), x1] ∧ Hx = H ∧ ∀ j, 0 < j → j ≤ i → Ls z < (Ls z).drop j ++ (Ls z).take j) ⟨none, rfl, rfl, fun j a b => by omega⟩ ?_ ?_
  · rintro i σ Hx hi ⟨x1, rfl, rfl, hp⟩
    have e : (1 : Int) + (i : Int) = ((1 + i : Nat) : Int) := by omega
    have hil : 1 + i ≤ z.length := by omega
    refine ⟨_, rfl, _, rfl, _, rfl, _, rfl, z, rfl, by omega, _, rfl, _, rfl, _, rfl, z, rfl, by omega, mk ((Ls z).drop (1 + i)), mk ((Ls z).take (1 + i)), by rw [e, slice_from hil], by rw [e, slice_to hil], ?_, z, _, rfl, rfl, _, rfl, ?_⟩
    · rw [len_mk, len_mk, List.length_drop, List.length_take, len_Ls]; omega
    · have eL : (mk ((Ls z).drop (1 + i)) ++ mk ((Ls z).take (1 + i))).cps.toList = (Ls z).drop (1 + i) ++ (Ls z).take (1 + i) := by
        have := Ls_cat (mk ((Ls z).drop (1 + i))) (mk ((Ls z).take (1 + i)))
        rw [Ls_mk, Ls_mk] at this
        exact this
      rw [eL]
      refine ite2 (fun c => ?_) (fun c => ?_)
      · have c : ¬ Ls z < (Ls z).drop (1 + i) ++ (Ls z).take (1 + i) := by simpa using c
        have np : ¬ MW.Pl (Ls z) := fun y => c ((MW.plT_of y).2 (1 + i) (by omega) (by rw [len_Ls]; omega))
        have : MW.pl (Ls z) = false := Bool.eq_false_iff.mpr fun y => np (MW.pl_true.mp y)
        rw [this] at q
        exact q _ (Same.refl _)
      · have c : Ls z < (Ls z).drop (1 + i) ++ (Ls z).take (1 + i) := by simpa using c
        refine ⟨_, rfl, rfl, fun j a b => ?_⟩
        by_cases y : j = 1 + i
        · rw [y]; exact c
        · exact hp j a (by omega)
  · rintro σ Hx ⟨x1, rfl, rfl, hp⟩
    refine ⟨_, rfl, rfl, ?_⟩
    by_cases e : z = Str.ofString ""
    · have e1 : MW.pl (Ls z) = false := by rw [empty_iff.mp e]; rfl
      have e2 : (!decide (V.str z = V.str (Str.ofString ""))) = false := by rw [e]; simp
      rw [e1] at q
      show Q (V.bl (!decide (V.str z = V.str (Str.ofString "")))) _
      rw [e2]; exact q _ (Same.refl _)
    · have ne : Ls z ≠ [] := fun y => e (empty_iff.mpr y)
      have pp : MW.Pl (Ls z) := MW.pl_of ⟨ne, fun j a b => hp j a (by rw [len_Ls] at b; omega)⟩
      have e2 : (!decide (V.str z = V.str (Str.ofString ""))) = true := by
        rw [decide_eq_false (fun y => e (V.str.inj y))]; rfl
      rw [MW.pl_true.mpr pp] at q
      show Q (V.bl (!decide (V.str z = V.str (Str.ofString "")))) _
      rw [e2]; exact q _ (Same.refl _)
def spWd (K : PySem.W.Frag) : Sp := fun vs H Q _ => ∃ (a : Addr) (ns : List Int) (k m : Int), vs = [.ref a, .int k, .int m] ∧ SqL K H a (ns.map V.int) ∧ 0 ≤ k ∧ 0 ≤ m ∧ m ≤ 12 ∧ ∀ (z : Str) H', Same H H' → Abc z → (z.length : Int) ≤ m → Q (.str z) H'
end
end K01
end
section
namespace K01
open PySem PySem.Spec PyProof.Rows Tim L2 Wm
section
variable {P : Program} {w : World} {K : PySem.W.Frag} {mg : Str → Option Value} {base : Heap} {f fp fr fs fw : Addr} {fd pd rd sd wd : FuncData}
def spPs : Sp := fun vs H Q _ => ∃ n : Nat, vs = [.int n] ∧ 1 ≤ n ∧ n ≤ 60 ∧ Q (.int (MH.ps n)) H
theorem scPs : FnScope ["number", "sign", "rest", "prime"] ["number"] (defScope (top 13)) := ⟨rfl, rfl, rfl, by decide +kernel, rfl, by decide +kernel, by decide +kernel⟩
theorem ok_ps (T : Blt mg) (F : At K mg "prime_sign" (top 13) ["number"] f fd) : FnOk P w K mg base CX0 1 f fd ["number"] spPs := by
  refine F.fn.ok scPs (fun vs H Q E h => ?_) (fun cdv A outer s H vs Q E hr h => ?_)
  · obtain ⟨z, rfl, _⟩ := h
    rfl
  obtain ⟨n, rfl, n1, n60, q⟩ := h
  refine ⟨_, pss_cons (ps_set (i := 1) scPs.nd rfl (Or.inl rfl) pe_int)
    (pss_cons (ps_set (i := 2) scPs.nd rfl (Or.inl rfl) (pv 0))
    (pss_cons (ps_for PassesOwn.never rfl (pi_range2 rfl T.rng (pa_cons pe_int (pa_cons (pe_op op_add (pv 0) pe_int) pa_nil))) (pg_name (i := 3) scPs.nd rfl (Or.inl rfl))
      (pss_one (ps_if (pt_cmpR op_eq (pe_op op_mod (pv 2) (pv 3)) pe_int (nomark _))
        (pss_cons (ps_set (i := 2) scPs.nd rfl (Or.inl rfl) (pe_op op_fdiv (pv 2) (pv 3)))
        (pss_cons (ps_set (i := 1) scPs.nd rfl (Or.inl rfl) (pe_un un_neg (pv 1)))
        (pss_one (ps_if (pt_cmpR op_eq (pe_op op_mod (pv 2) (pv 3)) pe_int (nomark _)) (pss_one (ps_ret pe_int)) pss_nil)))) pss_nil)))
    (pss_one (ps_ret (pv 1))))), ?_⟩
  have h62 := p62
  refine ⟨_, rfl, _, rfl, _, _, rfl, rfl, 2, _, rfl, ⟨by omega, by omega, by omega, by omega⟩, ?_⟩
  refine for_range (lo := 2) (n := ((n : Int) + 1 - 2).toNat) (fun i σ Hx => ∃ (sg r : Int) (x3 : Option V), σ = [some (.int n), some (.int sg), some (.int r), x3] ∧ Hx = H ∧ MH.psL (n - 1 - i) (2 + i) sg r = MH.ps n) ⟨1, n, none, rfl, rfl, rfl⟩ ?_ ?_
  · rintro i σ Hx hi ⟨sg, r, x3, rfl, rfl, hp⟩
    have ek : n - 1 - i = (n - 1 - (i + 1)) + 1 := by omega
    have e2 : (2 : Int) + ((i + 1 : Nat) : Int) = 2 + (i : Int) + 1 := by omega
    rw [ek, MH.psL] at hp
    refine ⟨_, rfl, _, rfl, _, _, rfl, rfl, (by show 0 < (2 : Int) + i; omega), rfl, _, rfl, ?_⟩
    refine ite2 (fun c => ?_) (fun c => ?_)
    · have c : r % (2 + (i : Int)) = 0 := V.int.inj (of_decide_eq_true c)
      rw [if_pos c] at hp
      refine ⟨_, rfl, _, rfl, _, _, rfl, rfl, ⟨by omega, by omega⟩, _, rfl, _, rfl, _, rfl, _, rfl, _, _, rfl, rfl, (by show 0 < (2 : Int) + i; omega), rfl, _, rfl, ?_⟩
      refine ite2 (fun d => ?_) (fun d => ?_)
      · have d : r / (2 + (i : Int)) % (2 + (i : Int)) = 0 := V.int.inj (of_decide_eq_true d)
        rw [if_pos d] at hp
        rw [← hp] at q
        exact q
      · have d : ¬ r / (2 + (i : Int)) % (2 + (i : Int)) = 0 := fun y => d (decide_eq_true (congrArg V.int y))
        rw [if_neg d] at hp
        exact ⟨_, _, _, rfl, rfl, by rw [e2]; exact hp⟩
    · have c : ¬ r % (2 + (i : Int)) = 0 := fun y => c (decide_eq_true (congrArg V.int y))
      rw [if_neg c] at hp
      exact ⟨_, _, _, rfl, rfl, by rw [e2]; exact hp⟩
  · rintro σ Hx ⟨sg, r, x3, rfl, rfl, hp⟩
    have ek : n - 1 - ((n : Int) + 1 - 2).toNat = 0 := by omega
    rw [ek, MH.psL] at hp
    rw [← hp] at q
    exact ⟨_, rfl, q⟩
def spPw : Sp := fun vs H Q _ => ∃ k n : Nat, vs = [.int k, .int n] ∧ k ≤ 3 ∧ n ≤ 60 ∧ Q (.int ((k ^ n : Nat) : Int)) H
theorem scPw : FnScope ["base", "exponent", "product", "step"] ["base", "exponent"] (defScope (top 14)) := ⟨rfl, rfl, rfl, by decide +kernel, rfl, by decide +kernel, by decide +kernel⟩
theorem ok_pw (T : Blt mg) (F : At K mg "power" (top 14) ["base", "exponent"] f fd) : FnOk P w K mg base CX0 1 f fd ["base", "exponent"] spPw := by
  refine F.fn.ok scPw (fun vs H Q E h => ?_) (fun cdv A outer s H vs Q E hr h => ?_)
  · obtain ⟨k, n, rfl, _⟩ := h
    rfl
  obtain ⟨k, n, rfl, k3, n60, q⟩ := h
  refine ⟨_, pss_cons (ps_set (i := 2) scPw.nd rfl (Or.inl rfl) pe_int)
    (pss_cons (ps_for PassesOwn.never rfl (pi_range1 rfl T.rng (pa_cons (pv 1) pa_nil)) (pg_name (i := 3) scPw.nd rfl (Or.inl rfl))
      (pss_one (ps_set (i := 2) scPw.nd rfl (Or.inl rfl) (pe_op op_mul (pv 2) (pv 0)))))
    (pss_one (ps_ret (pv 2)))), ?_⟩
  have h62 := p62
  refine ⟨_, rfl, _, rfl, by omega, by omega, ?_⟩
  refine for_range (lo := 0) (n := (n : Int).toNat) (fun i σ Hx => ∃ (x3 : Option V), σ = [some (.int k), some (.int n), some (.int ((k ^ i : Nat) : Int)), x3] ∧ Hx = H) ⟨none, rfl, rfl⟩ ?_ ?_
  · rintro i σ Hx hi ⟨x3, rfl, rfl⟩
    refine ⟨_, rfl, _, rfl, _, _, rfl, rfl, cmul_r (by omega) (by omega), some (.int (0 + (i : Int))), ?_, rfl⟩
    rw [Nat.pow_succ, Int.natCast_mul]
    rfl
  · rintro σ Hx ⟨x3, rfl, rfl⟩
    exact ⟨_, rfl, q⟩
def In (k n m : Int) : Prop := 1 ≤ k ∧ k ≤ 3 ∧ 1 ≤ n ∧ n ≤ m
def spWi (C : Addr) : Sp := fun vs H Q E => ∃ k n m : Int, vs = [.int k, .int n, .int m] ∧ (m = 8 ∨ m = 60) ∧ (In k n m → Q .non H) ∧ (¬ In k n m → E (.ref C) none H)
theorem scWi : FnScope ["letters", "length", "longest"] ["letters", "length", "longest"] (defScope (top 12)) := ⟨rfl, rfl, rfl, by decide +kernel, rfl, by decide +kernel, by decide +kernel⟩
def Abc3 : List Str := [Str.ofString "a", Str.ofString "b", Str.ofString "c"]
theorem ok_wi {C aL : Addr} (T : Blt mg) (F : At K mg "refuse_unless_within" (top 12) ["letters", "length", "longest"] f fd) (XC : ExcAt K mg "NoNumber" C) (hL : mg "LETTERS" = some (.ref aL)) (tL : TupK K aL Abc3) :
    FnOk P w K mg base (CXE P w) 1 f fd ["letters", "length", "longest"] (spWi C) := by
  refine F.fn.okE scWi (fun vs H Q E h => ?_) (fun cdv A outer s H vs Q E hr h => ?_)
  · obtain ⟨k, n, m, rfl, _⟩ := h
    rfl
  obtain ⟨k, n, m, rfl, hm, q1, q2⟩ := h
  refine ⟨_, pss_cons (ps_if (PW.pt (pw_or (pt_cmpR op_lt (pv 0) pe_int (nomark _)) (pw_or1 (pt_cmpR op_gt (pv 0) (pe_callB call_len_seq rfl T.len PySem.boot_len (pa_cons (pe_glob (v := .ref aL) rfl hL rfl) pa_nil)) (nomark _)))))
      (pss_one (ps_raise hr.hd XC rfl (pa_cons pe_str pa_nil))) pss_nil)
    (pss_one (ps_if (PW.pt (pw_or (pt_cmpR op_lt (pv 1) pe_int (nomark _)) (pw_or1 (pt_cmpR op_gt (pv 1) (pv 2) (nomark _)))))
      (pss_one (ps_raise hr.hd XC rfl (pa_cons (pe_join (pj_cons pe_str (pj_cons (pe_fmt (pv 2)) pj_nil))) pa_nil))) pss_nil)), ?_⟩
  have hz := sizeLine_eq
  refine ⟨_, rfl, _, _, rfl, rfl, _, rfl, ?_⟩
  refine ite2 (fun c => iteT ⟨by show 1 ≤ sizeLine; omega, q2 fun y => ?_⟩) (fun c => ?_)
  · have c : k < 1 := of_decide_eq_true c
    have := y.1
    omega
  have c : ¬ k < 1 := fun y => c (decide_eq_true y)
  refine ⟨_, rfl, aL, _, rfl, .inr (tL.sq H), _, _, rfl, rfl, _, rfl, ?_⟩
  refine ite2 (fun d => ⟨by show 1 ≤ sizeLine; omega, q2 fun y => ?_⟩) (fun d => ?_)
  · have d : (3 : Int) < k := of_decide_eq_true d
    have := y.2.1
    omega
  have d : ¬ (3 : Int) < k := fun y => d (decide_eq_true y)
  have fin : ¬ In k n m → tRaise C E (tCons (jCons (tC (V.str (Str.ofString "the length is not 1 to "))) (jCons (tFmt (tVar 2)) jNil) Str.empty) tNil)
      { nx := fun x H' => Q V.non H', rt := Q } (L2.start [Str.ofString "letters", Str.ofString "length", Str.ofString "longest"] [V.int k, V.int n, V.int m]) H := fun h => by
    refine ⟨_, rfl, by decide +kernel, _, rfl, .inr ⟨m, rfl, ?_, _, rfl, ?_, ?_, by show 1 ≤ sizeLine; omega, q2 h⟩⟩
    · rcases hm with rfl | rfl <;> decide
    · rcases hm with rfl | rfl <;> decide +kernel
    · rcases hm with rfl | rfl <;> decide +kernel
  refine ⟨_, rfl, _, _, rfl, rfl, _, rfl, ?_⟩
  refine ite2 (fun e => iteT (fin fun y => ?_)) (fun e => ?_)
  · have e : n < 1 := of_decide_eq_true e
    have := y.2.2.1
    omega
  have e : ¬ n < 1 := fun y => e (decide_eq_true y)
  refine ⟨_, rfl, _, rfl, _, _, rfl, rfl, _, rfl, ?_⟩
  refine ite2 (fun g => fin fun y => ?_) (fun g => q1 ?_)
  · have g : m < n := of_decide_eq_true g
    have := y.2.2.2
    omega
  · have g : ¬ m < n := fun y => g (decide_eq_true y)
    exact ⟨by omega, by omega, by omega, by omega⟩
def spHm (C : Addr) : Sp := fun vs H Q E => ∃ k n : Int, vs = [.int k, .int n] ∧ (∀ k' n' : Nat, k = k' → n = n' → 1 ≤ k' → k' ≤ 3 → 1 ≤ n' → n' ≤ 60 → Q (.int (MH.hm k' n')) H) ∧ (¬ In k n 60 → E (.ref C) none H)
theorem scHm : FnScope ["letters", "length", "total", "divisor"] ["letters", "length"] (defScope (top 11)) := ⟨rfl, rfl, rfl, by decide +kernel, rfl, by decide +kernel, by decide +kernel⟩
theorem ok_hm {C aL : Addr} {tC : Tok} (T : Blt mg) (F : At K mg "how_many" (top 11) ["letters", "length"] f fd) (FP : At K mg "power" (top 14) ["base", "exponent"] fp pd) (FS : At K mg "prime_sign" (top 13) ["number"] fs sd)
    (FW : At K mg "refuse_unless_within" (top 12) ["letters", "length", "longest"] fw wd) (XC : ExcAt K mg "NoNumber" C) (hL : mg "LETTERS" = some (.ref aL)) (tL : TupK K aL Abc3) (hC : mg "LONGEST_COUNTED" = some (.int 60 tC)) :
    FnOk P w K mg base (CXE P w) 2 f fd ["letters", "length"] (spHm C) := by
  have GP : FnOk P w K mg base CX0 1 fp pd ["base", "exponent"] spPw := ok_pw T FP
  have GS : FnOk P w K mg base CX0 1 fs sd ["number"] spPs := ok_ps T FS
  have GW : FnOk P w K mg base (CXE P w) 1 fw wd ["letters", "length", "longest"] (spWi C) := ok_wi T FW XC hL tL
  refine F.fn.okE scHm (fun vs H Q E h => ?_) (fun cdv A outer s H vs Q E hr h => ?_)
  · obtain ⟨k, n, rfl, _⟩ := h
    rfl
  obtain ⟨k, n, rfl, q1, q2⟩ := h
  refine ⟨_, pss_cons (ps_expr (pe_call GW hr rfl FW.m FW.k FW.b .nil passE (pa_cons (pv 0) (pa_cons (pv 1) (pa_cons (pe_glob (v := .int 60) rfl hC ⟨tC, rfl⟩) pa_nil)))))
    (pss_cons (ps_set (i := 2) scHm.nd rfl (Or.inl rfl) pe_int)
    (pss_cons (ps_for PassesOwn.leaving rfl (pi_range2 rfl T.rng (pa_cons pe_int (pa_cons (pe_op op_add (pv 1) pe_int) pa_nil))) (pg_name (i := 3) scHm.nd rfl (Or.inl rfl))
      (pss_one (ps_if (pt_cmpR op_eq (pe_op op_mod (pv 1) (pv 3)) pe_int (nomark _))
        (pss_one (ps_set (i := 2) scHm.nd rfl (Or.inl rfl) (pe_op op_add (pv 2) (pe_op op_mul (pe_call GS hr rfl FS.m FS.k FS.b .nil pass0 (pa_cons (pv 3) pa_nil)) (pe_call GP hr rfl FP.m FP.k FP.b .nil pass0 (pa_cons (pv 0) (pa_cons (pe_op op_fdiv (pv 1) (pv 3)) pa_nil))))))) pss_nil)))
    (pss_one (ps_ret (pe_op op_fdiv (pv 2) (pv 1)))))), ?_⟩
  have h62 := p62
  refine ⟨_, rfl, _, rfl, k, n, 60, rfl, .inr rfl, fun hin => ?_, q2⟩
  obtain ⟨k1, k3, n1, n60⟩ := hin
  obtain ⟨k', rfl⟩ : ∃ k' : Nat, k = k' := ⟨k.toNat, by omega⟩
  obtain ⟨n', rfl⟩ : ∃ n' : Nat, n = n' := ⟨n.toNat, by omega⟩
  have q := q1 k' n' rfl rfl (by omega) (by omega) (by omega) (by omega)
  refine ⟨_, rfl, _, _, rfl, rfl, 1, _, rfl, ⟨by omega, by omega, by omega, by omega⟩, ?_⟩
  have ec : ((n' : Int) + 1 - 1).toNat = n' := by omega
  rw [ec]
  refine for_range (lo := 1) (n := n') (fun i σ Hx => ∃ (x3 : Option V), σ = [some (.int k'), some (.int n'), some (.int (MH.hmS k' n' i)), x3] ∧ Hx = H) ⟨none, rfl, rfl⟩ ?_ ?_
  · rintro i σ Hx hi ⟨x3, rfl, rfl⟩
    have e1 : (1 : Int) + (i : Int) = ((i + 1 : Nat) : Int) := by omega
    refine ⟨_, rfl, _, rfl, _, _, rfl, rfl, (by show 0 < (1 : Int) + i; omega), rfl, _, rfl, ?_⟩
    rw [e1]
    have em : (n' : Int) % ((i + 1 : Nat) : Int) = ((n' % (i + 1) : Nat) : Int) := rfl
    refine ite2 (fun c => ?_) (fun c => ?_)
    · have c : (n' : Int) % ((i + 1 : Nat) : Int) = 0 := V.int.inj (of_decide_eq_true c)
      have c' : n' % (i + 1) = 0 := by rw [em] at c; omega
      have bp := MH.ps_le (i + 1)
      refine ⟨_, rfl, _, rfl, i + 1, rfl, by omega, by omega, _, rfl, _, rfl, _, rfl, _, _, rfl, rfl, ⟨by omega, by omega⟩, k', n' / (i + 1), rfl, by omega, ?_, _, _, rfl, rfl, ?_, _, _, rfl, rfl, some (.int ((i + 1 : Nat) : Int)), ?_, rfl⟩
      · have := Nat.div_le_self n' (i + 1); omega
      · exact .inl ⟨by have : (2 : Int) ^ 64 = 18446744073709551616 := p64
                       omega, by have : (2 : Int) ^ 64 = 18446744073709551616 := p64
                                 omega⟩
      · rw [MH.hmS, if_pos c']; rfl
    · have c : ¬ (n' : Int) % ((i + 1 : Nat) : Int) = 0 := fun y => c (decide_eq_true (congrArg V.int y))
      have c' : ¬ n' % (i + 1) = 0 := fun y => c (by rw [em, y]; rfl)
      refine ⟨some (.int ((i + 1 : Nat) : Int)), ?_, rfl⟩
      rw [MH.hmS, if_neg c']; rfl
  · rintro σ Hx ⟨x3, rfl, rfl⟩
    exact ⟨_, rfl, _, rfl, _, _, rfl, rfl, ⟨by omega, by omega⟩, q⟩
end
end K01
end
section
namespace K01
open PySem PySem.Spec PyProof.Rows Tim L2 Wm
theorem mk_cat (a b : List Nat) : mk a ++ mk b = mk (a ++ b) := str_ext (by rw [Ls_cat, Ls_mk, Ls_mk, Ls_mk])
def ws (l : List (List Nat)) : List V := l.map fun w => .str (mk w)
theorem ws_cat (a b : List (List Nat)) : ws a ++ ws b = ws (a ++ b) := List.map_append.symm
theorem ws_len (a : List (List Nat)) : (ws a).length = a.length := List.length_map _
theorem ws_at {l : List (List Nat)} {i : Nat} (h : i < (ws l).length) : (ws l)[i]? = some (.str (mk (l.getD i []))) := by
  rw [ws_len] at h
  unfold ws
  rw [List.getElem?_map, List.getElem?_eq_getElem h, List.getD_eq_getElem?_getD, List.getElem?_eq_getElem h]
  rfl
theorem abc3_take {k : Nat} (h1 : 1 ≤ k) (h3 : k ≤ 3) : Abc3.take k = (MH.abc.take k).map fun c => mk [c] := by
  have : k = 1 ∨ k = 2 ∨ k = 3 := by omega
  rcases this with z | z | z <;> rw [z] <;> decide +kernel
theorem abc_take_len {k : Nat} (h3 : k ≤ 3) : (MH.abc.take k).length = k := by
  rw [List.length_take]
  have : MH.abc.length = 3 := rfl
  omega
theorem pow_small {k n : Nat} (h3 : k ≤ 3) (h8 : n ≤ 8) : k ^ n ≤ 6561 := by
  have h1 : k ^ n ≤ 3 ^ n := Nat.pow_le_pow_left h3 n
  have h2 : 3 ^ n ≤ 3 ^ 8 := Nat.pow_le_pow_right (by omega) h8
  have : (3 : Nat) ^ 8 = 6561 := by decide
  omega
theorem wf_small {k n : Nat} (h3 : k ≤ 3) (h8 : n ≤ 8) : (MH.Wf (MH.abc.take k) n).length ≤ 6561 := by
  rw [MH.wf_len, abc_take_len h3]
  exact pow_small h3 h8
theorem abc_letters {k c : Nat} (h : c ∈ MH.abc.take k) : c = 97 ∨ c = 98 ∨ c = 99 := by
  have := List.mem_of_mem_take h
  simpa [MH.abc] using this
theorem but_tup {K : PySem.W.Frag} {H H' : Hp} {a l : Addr} {xs ys : List V} (h : SqT K H a xs) (e : H l = some (.lst ys)) (k : ∀ b o, b ≠ l → H b = some o → H' b = some o) : SqT K H' a xs := by
  rcases h with h | h
  · refine .inl ?_
    rcases h with h | ⟨o, h⟩
    · exact .inl (k a _ (fun z => by rw [z, e] at h; cases h) h)
    · exact .inr ⟨o, k a _ (fun z => by rw [z, e] at h; cases h) h⟩
  · exact .inr h
theorem flat_take {α β : Type} (l : List α) (f : α → List β) {i : Nat} {x : α} (h : l[i]? = some x) : (l.take (i + 1)).flatMap f = (l.take i).flatMap f ++ f x := by
  rw [List.take_add_one, h, List.flatMap_append]
  simp
theorem flat_le {α β : Type} (l : List α) (f : α → List β) (i : Nat) : ((l.take i).flatMap f).length ≤ (l.flatMap f).length := by
  conv => rhs; rw [← List.take_append_drop i l, List.flatMap_append, List.length_append]
  omega
section
variable {P : Program} {w : World} {K : PySem.W.Frag} {mg : Str → Option Value} {base : Heap} {f fp fr fs fw fa : Addr} {fd pd rd sd wd ad : FuncData}
theorem slice_abc {H : Hp} {aL : Addr} {k : Nat} {R : VK} (tL : TupK K aL Abc3) (h1 : 1 ≤ k) (h3 : k ≤ 3) (q : ∀ a H', Same H H' → (∀ b, H b ≠ none → H' b = H b) → SqT K H' a (((MH.abc.take k).map fun c => V.str (mk [c]))) → R (.ref a) H') :
    rSlT K (.ref aL) none (some (k : Int)) H R ∨ rSlA K (.ref aL) none (some (k : Int)) H R := by
  have hl : (Abc3.map V.str).length = 3 := rfl
  have hm : (MH.abc.take k).map (fun c => V.str (mk [c])) = (Abc3.map V.str).take k := by rw [← List.map_take, abc3_take h1 h3, List.map_map]; rfl
  by_cases e : k = 3
  · subst e
    refine .inr ⟨aL, _, rfl, tL.sq H, ⟨rfl, rfl⟩, q aL H (Same.refl _) (fun _ _ => rfl) ?_⟩
    rw [hm]
    exact tL.sq H
  · refine .inl ⟨aL, _, rfl, tL.sq H, fun y => e ?_, fun p np => q p _ (new_same np _) (fun b hb => upd_ne (fun z => hb (by rw [z]; exact np))) (.inl (.inl ?_))⟩
    · have y := y.2
      rw [hl, HT.sIx_nat] at y
      omega
    · rw [upd_same, hm]
      unfold cutV
      rw [hl, HT.sIx_nat, HT.sIx_none]
      have : min k 3 - 0 = k := by omega
      rw [this]
      rfl
def spAw (m : Nat) : Sp := fun vs H Q _ => ∃ k n : Nat, vs = [.int k, .int n] ∧ 1 ≤ k ∧ k ≤ 3 ∧ n ≤ m ∧ n ≤ 8 ∧ ∀ p H', H p = none → Same H H' → H' p = some (.lst (ws (MH.Wf (MH.abc.take k) n))) → Q (.ref p) H'
theorem scAw : FnScope ["letters", "length", "shorter", "words", "letter"] ["letters", "length"] (defScope (top 10)) := ⟨rfl, rfl, rfl, by decide +kernel, rfl, by decide +kernel, by decide +kernel⟩
def cAw : Scope := { kind := .function, names := [(Str.ofString ".0", .local), (Str.ofString "word", .local), (Str.ofString "letter", .free)], isGenerator := false, isCoroutine := false, more := [] }
theorem aw_step {aL : Addr} {m : Nat} {spG : Sp} (T : Blt mg) (F : At K mg "all_words" (top 10) ["letters", "length"] f fd) (hL : mg "LETTERS" = some (.ref aL)) (tL : TupK K aL Abc3)
    (G : FnOk P w K mg base CX0 m f fd ["letters", "length"] spG) (hG : ∀ (k n : Nat) (j : Int) H Q E, j = n → n < m → n ≤ 8 → 1 ≤ k → k ≤ 3 → (∀ p H', H p = none → Same H H' → H' p = some (.lst (ws (MH.Wf (MH.abc.take k) n))) → Q (.ref p) H') → spG [.int k, .int j] H Q E) :
    FnOk P w K mg base CX0 (m + 1) f fd ["letters", "length"] (spAw m) := by
  refine F.fn.ok scAw (fun vs H Q E h => ?_) (fun cdv A outer s H vs Q E hr h => ?_)
  · obtain ⟨k, n, rfl, _⟩ := h
    rfl
  obtain ⟨k, n, rfl, k1, k3, hn, n8, q⟩ := h
  have O : CompOk (cxOf CX0 P w K mg base ["letters", "length", "shorter", "words", "letter"] "all_words" (defScope (top 10)) f cdv A outer s H E).nox ["word", "letter"] cAw [(Str.ofString "letter", s.heap.objs.size + 1)] := {
    clos := rfl
    nocell := by decide +kernel
    kind := rfl
    names := by decide +kernel
    sub := fun x c e => e
    has := fun x h => by
      have e : x = Str.ofString "letter" := List.mem_singleton.mp (lk_has (l := [(Str.ofString ".0", .local), (Str.ofString "word", .local), (Str.ofString "letter", .cell)]) h (by decide +kernel))
      subst e
      exact ⟨_, rfl⟩ }
  refine ⟨_, pss_cons (ps_if (pt_cmpR op_eq (pv 1) pe_int (nomark _)) (pss_one (ps_ret (pe_lst (pa_cons pe_str pa_nil)))) pss_nil)
    (pss_cons (ps_set (i := 2) scAw.nd rfl (Or.inl rfl) (pe_call G hr rfl F.m F.k F.b .nil pass0 (pa_cons (pv 0) (pa_cons (pe_op op_sub (pv 1) pe_int) pa_nil))))
    (pss_cons (ps_set (i := 3) scAw.nd rfl (Or.inl rfl) (pe_lst pa_nil))
    (pss_cons (ps_for PassesOwn.never rfl (pi_tup (pe_slice (SlR.or sl_tup sl_tupA) (pe_glob (v := .ref aL) rfl hL rfl) po_none (po_some (pv 0)))) (pg_name (i := 4) scAw.nd rfl (Or.inr rfl))
      (pss_one (ps_expr (pe_bm PySem.F.plainAttrs_list PySem.F.slot_list_extend PySem.F.type_list_extend mt_extend (pv 3) (pa_cons
        (pe_compG (N' := ["word", "letter"]) rfl O (pi_list (pv 2)) (fun C s₀ H₀ ex pn xe => pg_name (i := 0) (by show List.Nodup [Str.ofString "word", Str.ofString "letter"]; decide +kernel) rfl (.inl rfl) (.inr rfl))
            (fun _ _ _ _ _ _ => pifs_nil) (fun _ _ _ _ _ _ => pe_op op_add_str (pv 1) (pv 0))) pa_nil)))))
    (pss_one (ps_ret (pv 3)))))), ?_⟩
  have hz := sizeLine_eq
  refine ⟨_, rfl, rfl, _, rfl, ?_⟩
  refine ite2 (fun c => ?_) (fun c => ?_)
  · have c : (n : Int) = 0 := V.int.inj (of_decide_eq_true c)
    have c : n = 0 := by omega
    subst c
    exact ⟨(by show 1 ≤ sizeLine; omega), fun p np => q p _ np (new_same np _) (by rw [upd_same]; exact congrArg (fun z => some (HO.lst [V.str z])) (by decide +kernel))⟩
  have c : ¬ (n : Int) = 0 := fun y => c (decide_eq_true (congrArg V.int y))
  obtain ⟨n, rfl⟩ : ∃ n', n = n' + 1 := ⟨n - 1, by omega⟩
  have en : ((n + 1 : Nat) : Int) - 1 = (n : Int) := by omega
  refine ⟨_, rfl, _, rfl, _, _, rfl, rfl, ?_⟩
  refine hG k n _ _ _ _ en (by omega) (by omega) k1 k3 fun sh H1 nsh s1 e1 => ?_
  refine ⟨(by show 0 ≤ sizeLine; omega), fun wd nwd => ?_⟩
  have s2 := new_same nwd (.lst [])
  have e2 : upd H1 wd (.lst []) sh = some (.lst (ws (MH.Wf (MH.abc.take k) n))) := s2 _ _ e1
  refine ⟨_, rfl, _, rfl, slice_abc tL k1 k3 fun a Hb sb kb hT => ⟨a, rfl, ⟨_, hT⟩, ?_⟩⟩
  have eb : Hb wd = some (.lst []) := sb _ _ upd_same
  have esh : Hb sh = some (.lst (ws (MH.Wf (MH.abc.take k) n))) := sb _ _ e2
  have nH : H wd = none := s1.free nwd
  have hb : Same H Hb := s1.trans (s2.trans sb)
  have nsw : sh ≠ wd := fun z => by rw [z, nwd] at e1; cases e1
  have wl := wf_small (k := k) (n := n + 1) k3 n8
  have wl' := wf_small (k := k) (n := n) k3 (by omega)
  refine for_tup (K := K) (a := a) (xs := (MH.abc.take k).map fun c => V.str (mk [c])) (fun i σ Hx => ∃ x4 : Option V, σ = [some (.int k), some (.int ((n + 1 : Nat) : Int)), some (.ref sh), some (.ref wd), x4] ∧ (∀ b o, b ≠ wd → Hb b = some o → Hx b = some o) ∧
      Hx wd = some (.lst (ws (((MH.abc.take k).take i).flatMap fun l => (MH.Wf (MH.abc.take k) n).map fun w => l :: w)))) ⟨none, rfl, fun _ _ _ h => h, eb⟩ ?_ ?_ ?_
  · rintro i σ Hx hi ⟨x4, rfl, hk, ew⟩
    exact but_tup hT eb hk
  · rintro i v σ Hx hi ⟨x4, rfl, hk, ew⟩
    obtain ⟨l, hl, rfl⟩ : ∃ l, (MH.abc.take k)[i]? = some l ∧ V.str (mk [l]) = v := by
      rw [List.getElem?_map] at hi
      cases z : (MH.abc.take k)[i]? with
      | none => rw [z] at hi; cases hi
      | some l => rw [z] at hi; cases hi; exact ⟨l, rfl, rfl⟩
    have eshx : Hx sh = some (.lst (ws (MH.Wf (MH.abc.take k) n))) := hk _ _ nsw esh
    refine ⟨_, rfl, .inl ⟨rfl, _, .inl (.inl ew)⟩, _, rfl, sh, rfl, ⟨_, .inl (.inl eshx)⟩, [none, some (.str (mk [l]))], ⟨rfl, ?_⟩, fun D nD => ?_⟩
    · intro i x v e1 e2
      match i, e1, e2 with
      | 0, e1, e2 => cases e2
      | 1, e1, e2 =>
        cases e1
        cases e2
        exact ⟨4, rfl, rfl, rfl, rfl⟩
      | i + 2, e1, e2 => cases e1
    refine comp_anyG (n := (ws (MH.Wf (MH.abc.take k) n)).length) (fun i => .str (mk ((MH.Wf (MH.abc.take k) n).getD i []))) (fun i => .str (mk (l :: (MH.Wf (MH.abc.take k) n).getD i []))) (fun _ => true) (items1_list (.inl (.inl eshx)) fun i hi => ws_at hi) (by rw [ws_len]; omega) nD
      (fun i Hx' R hi sx hR => hR Hx' (Same.refl _)) (fun i Hx' R hi _ sx hR => ?_) fun Hy sy xD => ?_
    · refine ⟨_, rfl, _, rfl, _, _, rfl, rfl, ?_, ?_⟩
      · rw [len_mk, len_mk]
        rw [ws_len] at hi
        have : (MH.Wf (MH.abc.take k) n).getD i [] ∈ MH.Wf (MH.abc.take k) n := by
          rw [List.getD_eq_getElem?_getD, List.getElem?_eq_getElem hi]
          exact List.getElem_mem hi
        have := (MH.wf_mem this).1
        rw [this]
        show 1 + n ≤ sizeLine
        omega
      · rw [mk_cat]
        exact hR Hx' (Same.refl _)
    · rw [ws_len, range_pick (MH.Wf (MH.abc.take k) n) [] (fun _ => true) (fun w => V.str (mk (l :: w))), filter_yes] at xD
      have ewy := sy _ _ ew
      have ft := flat_take (MH.abc.take k) (fun l => (MH.Wf (MH.abc.take k) n).map fun w => l :: w) hl
      have exD : (MH.Wf (MH.abc.take k) n).map (fun w => V.str (mk (l :: w))) = ws ((MH.Wf (MH.abc.take k) n).map fun w => l :: w) := by unfold ws; rw [List.map_map]; rfl
      rw [exD] at xD
      have fl := flat_le (MH.abc.take k) (fun l => (MH.Wf (MH.abc.take k) n).map fun w => l :: w) (i + 1)
      refine ⟨wd, D, _, _, rfl, rfl, ewy, xD, ?_, ?_⟩
      · rw [← List.length_append, ws_cat, ws_len, ← ft]
        have : (MH.Wf (MH.abc.take k) (n + 1)) = (MH.abc.take k).flatMap fun l => (MH.Wf (MH.abc.take k) n).map fun w => l :: w := rfl
        rw [this] at wl
        omega
      · refine ⟨_, rfl, fun b o nb e => ?_, ?_⟩
        · rw [upd_ne nb]; exact sy _ _ (hk _ _ nb e)
        · rw [upd_same, ws_cat, ← ft]
  · rintro σ Hx ⟨x4, rfl, hk, ew⟩
    refine ⟨_, rfl, q wd Hx nH (fun b o e => hk b o (fun z => by rw [z, nH] at e; cases e) (hb _ _ e)) ?_⟩
    rw [ew, List.length_map, List.take_length]
    rfl
theorem ok_aw {aL : Addr} (T : Blt mg) (F : At K mg "all_words" (top 10) ["letters", "length"] f fd) (hL : mg "LETTERS" = some (.ref aL)) (tL : TupK K aL Abc3) : ∀ m : Nat, FnOk P w K mg base CX0 (m + 1) f fd ["letters", "length"] (spAw m)
  | 0 => aw_step T F hL tL (m := 0) (spG := fun _ _ _ _ => False) ⟨fun vs H Q E h => h.elim, fun A outer s H args us vs Q E _ _ _ _ h => h.elim⟩ fun k n j H Q E e h => by omega
  | m + 1 => aw_step T F hL tL (m := m + 1) (ok_aw T F hL tL m) fun k n j H Q E e h h8 h1 h3 q => ⟨k, n, by rw [e], h1, h3, by omega, h8, q⟩
end
end K01
end
section
namespace K01
open PySem PySem.Spec PyProof.Rows Tim L2 Wm
theorem ws_pl (l : List (List Nat)) : ((List.range l.length).filter (fun i => MW.pl (l.getD i []))).map (fun i => V.str (mk (l.getD i []))) = ws (l.filter MW.pl) := range_pick l [] MW.pl fun w => V.str (mk w)
theorem getD_mem {α : Type} {l : List α} {i : Nat} {d : α} (h : i < l.length) : l.getD i d ∈ l := by
  rw [List.getD_eq_getElem?_getD, List.getElem?_eq_getElem h]
  exact List.getElem_mem h
theorem abc_str : Ls (Str.ofString "abc") = MH.abc := by decide +kernel
theorem abc_slice {k : Nat} (h3 : k ≤ 3) : Txt.slice (Str.ofString "abc") none (some (k : Int)) = mk (MH.abc.take k) := by
  have : (Str.ofString "abc").length = 3 := by decide +kernel
  rw [slice_to (by omega), abc_str]
theorem abc_ascii {k : Nat} : (mk (MH.abc.take k)).cps.all (· < 128) = true := by
  rw [Array.all_eq_true']
  intro c hc
  have hc : c ∈ Ls (mk (MH.abc.take k)) := Array.mem_def.mp hc
  rw [Ls_mk] at hc
  rcases abc_letters hc with z | z | z <;> rw [z] <;> decide
section
variable {P : Program} {w : World} {K : PySem.W.Frag} {mg : Str → Option Value} {base : Heap} {f fp fr fs fw fa : Addr} {fd pd rd sd wd ad : FuncData}
def spPlw (C : Addr) : Sp := fun vs H Q E => ∃ k n : Int, vs = [.int k, .int n] ∧ (∀ k' n' : Nat, k = k' → n = n' → 1 ≤ k' → k' ≤ 3 → 1 ≤ n' → n' ≤ 8 → ∀ p H', H p = none → Same H H' → H' p = some (.lst (ws ((MH.Wf (MH.abc.take k') n').filter MW.pl))) → Q (.ref p) H') ∧ (¬ In k n 8 → E (.ref C) none H)
theorem scPlw : FnScope ["letters", "length"] ["letters", "length"] (defScope (top 9)) := ⟨rfl, rfl, rfl, by decide +kernel, rfl, by decide +kernel, by decide +kernel⟩
def cPlw : Scope := { kind := .function, names := [(Str.ofString ".0", .local), (Str.ofString "word", .local), (Str.ofString "is_plain", .globalImplicit)], isGenerator := false, isCoroutine := false, more := [] }
theorem ok_plw {C aL : Addr} {tC : Tok} (T : Blt mg) (F : At K mg "plain_words" (top 9) ["letters", "length"] f fd) (FP : At K mg "is_plain" (top 8) ["word"] fp pd) (FA : At K mg "all_words" (top 10) ["letters", "length"] fa ad)
    (FW : At K mg "refuse_unless_within" (top 12) ["letters", "length", "longest"] fw wd) (XC : ExcAt K mg "NoNumber" C) (hL : mg "LETTERS" = some (.ref aL)) (tL : TupK K aL Abc3) (hC : mg "LONGEST_LISTED" = some (.int 8 tC)) :
    FnOk P w K mg base (CXE P w) 10 f fd ["letters", "length"] (spPlw C) := by
  have GP : FnOk P w K mg base CX0 1 fp pd ["word"] spPl := ok_pl T FP
  have GA : FnOk P w K mg base CX0 9 fa ad ["letters", "length"] (spAw 8) := ok_aw T FA hL tL 8
  have GW : FnOk P w K mg base (CXE P w) 1 fw wd ["letters", "length", "longest"] (spWi C) := ok_wi T FW XC hL tL
  refine F.fn.okE scPlw (fun vs H Q E h => ?_) (fun cdv A outer s H vs Q E hr h => ?_)
  · obtain ⟨k, n, rfl, _⟩ := h
    rfl
  obtain ⟨k, n, rfl, q1, q2⟩ := h
  have hr1 : Room 1 _ := hr.mono (by omega)
  have O : CompOk (cxOf (CXE P w) P w K mg base ["letters", "length"] "plain_words" (defScope (top 9)) f cdv A outer s H E) ["word"] cPlw [] := {
    clos := rfl
    nocell := by decide +kernel
    kind := rfl
    names := by decide +kernel
    sub := fun x c e => by cases e
    has := fun x h => by
      have e := lk_has (l := [(Str.ofString ".0", .local), (Str.ofString "word", .local), (Str.ofString "is_plain", .globalImplicit)]) (ys := []) h (by decide +kernel)
      cases e }
  refine ⟨_, pss_cons (ps_expr (pe_call GW hr1 rfl FW.m FW.k FW.b .nil passE (pa_cons (pv 0) (pa_cons (pv 1) (pa_cons (pe_glob (v := .int 8) rfl hC ⟨tC, rfl⟩) pa_nil)))))
    (pss_one (ps_ret (pe_compG (N' := ["word"]) rfl O (pi_list (pe_call GA hr rfl FA.m FA.k FA.b .nil pass0 (pa_cons (pv 0) (pa_cons (pv 1) pa_nil)))) (fun C s₀ H₀ ex pn xe => pg_name (i := 0) (by show List.Nodup [Str.ofString "word"]; decide +kernel) rfl (.inl rfl) (.inr rfl))
            (fun _ _ _ _ _ _ => pifs_one (pt_val (pe_call GP hr1 rfl FP.m FP.k FP.b .nil pass0 (pa_cons (pv 0) pa_nil)))) (fun _ _ _ _ _ _ => pv 0)))), ?_⟩
  have hz := sizeLine_eq
  refine ⟨_, rfl, _, rfl, k, n, 8, rfl, .inl rfl, fun hin => ?_, q2⟩
  obtain ⟨k1, k3, n1, n8⟩ := hin
  obtain ⟨k', rfl⟩ : ∃ k' : Nat, k = k' := ⟨k.toNat, by omega⟩
  obtain ⟨n', rfl⟩ : ∃ n' : Nat, n = n' := ⟨n.toNat, by omega⟩
  have q := q1 k' n' rfl rfl (by omega) (by omega) (by omega) (by omega)
  have wl := wf_small (k := k') (n := n') (by omega) (by omega)
  refine ⟨_, rfl, _, rfl, k', n', rfl, by omega, by omega, by omega, by omega, fun p H1 np s1 e1 => ⟨p, rfl, ⟨_, .inl (.inl e1)⟩, [none], ⟨rfl, ?_⟩, fun D nD => ?_⟩⟩
  · intro i x v e1 e2
    match i, e1, e2 with
    | 0, e1, e2 => cases e2
    | i + 1, e1, e2 => cases e1
  refine comp_anyG (n := (ws (MH.Wf (MH.abc.take k') n')).length) (fun i => .str (mk ((MH.Wf (MH.abc.take k') n').getD i []))) (fun i => .str (mk ((MH.Wf (MH.abc.take k') n').getD i []))) (fun i => MW.pl ((MH.Wf (MH.abc.take k') n').getD i [])) (items1_list (.inl (.inl e1)) fun i hi => ws_at hi) (by rw [ws_len]; omega) nD
      (fun i Hx' R hi sx hR => ?_) (fun i Hx' R hi _ sx hR => ⟨_, rfl, hR Hx' (Same.refl _)⟩) fun Hy sy xD => ?_
  · rw [ws_len] at hi
    refine ⟨_, rfl, _, rfl, ?_, fun Hy sy => ⟨_, rfl, ?_⟩⟩
    · rw [len_mk, (MH.wf_mem (getD_mem hi)).1]; omega
    · rw [Ls_mk]; exact hR Hy sy
  · rw [ws_len, ws_pl] at xD
    exact q D Hy (s1.free nD) (s1.trans sy) xD
def spLa : Sp := fun vs H Q _ => ∃ k n : Nat, vs = [.int k, .int n] ∧ 1 ≤ k ∧ k ≤ 3 ∧ n ≤ 8 ∧ ∀ p H', H p = none → Same H H' → H' p = some (.lst (ws ((MH.Wf (MH.abc.take k) n).filter MW.pl))) → Q (.ref p) H'
theorem scLa : FnScope ["letters", "length", "words", "place", "longer", "word"] ["letters", "length"] (defScope (top 22)) := ⟨rfl, rfl, rfl, by decide +kernel, rfl, by decide +kernel, by decide +kernel⟩
def cLa1 : Scope := { kind := .function, names := [(Str.ofString ".0", .local), (Str.ofString "letter", .local), (Str.ofString "word", .free)], isGenerator := false, isCoroutine := false, more := [] }
def cLa2 : Scope := { kind := .function, names := [(Str.ofString ".0", .local), (Str.ofString "word", .local), (Str.ofString "_law_is_plain", .globalImplicit)], isGenerator := false, isCoroutine := false, more := [] }
theorem ok_la (T : Blt mg) (F : At K mg "_law_all" (top 22) ["letters", "length"] f fd) (FP : At K mg "_law_is_plain" (top 19) ["word"] fp pd) : FnOk P w K mg base CX0 2 f fd ["letters", "length"] spLa := by
  have GP : FnOk P w K mg base CX0 1 fp pd ["word"] spPl := ok_lp T FP
  refine F.fn.ok scLa (fun vs H Q E h => ?_) (fun cdv A outer s H vs Q E hr h => ?_)
  · obtain ⟨k, n, rfl, _⟩ := h
    rfl
  obtain ⟨k, n, rfl, k1, k3, n8, q⟩ := h
  have O1 : CompOk (cxOf CX0 P w K mg base ["letters", "length", "words", "place", "longer", "word"] "_law_all" (defScope (top 22)) f cdv A outer s H E).nox ["letter", "word"] cLa1 [(Str.ofString "word", s.heap.objs.size + 1)] := {
    clos := rfl
    nocell := by decide +kernel
    kind := rfl
    names := by decide +kernel
    sub := fun x c e => e
    has := fun x h => by
      have e : x = Str.ofString "word" := List.mem_singleton.mp (lk_has (l := [(Str.ofString ".0", .local), (Str.ofString "letter", .local), (Str.ofString "word", .cell)]) h (by decide +kernel))
      subst e
      exact ⟨_, rfl⟩ }
  have O2 : CompOk (cxOf CX0 P w K mg base ["letters", "length", "words", "place", "longer", "word"] "_law_all" (defScope (top 22)) f cdv A outer s H E).nox ["word"] cLa2 [] := {
    clos := rfl
    nocell := by decide +kernel
    kind := rfl
    names := by decide +kernel
    sub := fun x c e => by cases e
    has := fun x h => by
      have e := lk_has (l := [(Str.ofString ".0", .local), (Str.ofString "word", .local), (Str.ofString "_law_is_plain", .globalImplicit)]) (ys := []) h (by decide +kernel)
      cases e }
  refine ⟨_, pss_cons (ps_set (i := 2) scLa.nd rfl (Or.inl rfl) (pe_lst (pa_cons pe_str pa_nil)))
    (pss_cons (ps_for PassesOwn.never rfl (pi_range1 rfl T.rng (pa_cons (pv 1) pa_nil)) (pg_name (i := 3) scLa.nd rfl (Or.inl rfl))
      (pss_cons (ps_set (i := 4) scLa.nd rfl (Or.inl rfl) (pe_lst pa_nil))
      (pss_cons (ps_for PassesOwn.never rfl (pi_list (pv 2)) (pg_name (i := 5) scLa.nd rfl (Or.inr rfl))
        (pss_one (ps_expr (pe_bm PySem.F.plainAttrs_list PySem.F.slot_list_extend PySem.F.type_list_extend mt_extend (pv 4) (pa_cons
          (pe_compG (N' := ["letter", "word"]) rfl O1 (pi_str (pe_slice sl_str pe_str po_none (po_some (pv 0)))) (fun C s₀ H₀ ex pn xe => pg_name (i := 0) (by show List.Nodup [Str.ofString "letter", Str.ofString "word"]; decide +kernel) rfl (.inl rfl) (.inr rfl))
            (fun _ _ _ _ _ _ => pifs_nil) (fun _ _ _ _ _ _ => pe_op op_add_str (pv 1) (pv 0))) pa_nil)))))
      (pss_one (ps_set (i := 2) scLa.nd rfl (Or.inl rfl) (pv 4))))))
    (pss_one (ps_ret (pe_compG (N' := ["word"]) rfl O2 (pi_list (pv 2)) (fun C s₀ H₀ ex pn xe => pg_name (i := 0) (by show List.Nodup [Str.ofString "word"]; decide +kernel) rfl (.inl rfl) (.inr rfl))
            (fun _ _ _ _ _ _ => pifs_one (pt_val (pe_call GP hr rfl FP.m FP.k FP.b .nil pass0 (pa_cons (pv 0) pa_nil)))) (fun _ _ _ _ _ _ => pv 0))))), ?_⟩
  have hz := sizeLine_eq
  have h62 := p62
  refine ⟨(by show 1 ≤ sizeLine; omega), fun w0 nw0 => ?_⟩
  refine ⟨_, rfl, _, rfl, by omega, by omega, ?_⟩
  refine for_range (lo := 0) (n := (n : Int).toNat) (fun i σ Hx => ∃ (wd : Addr) (x3 x4 x5 : Option V), σ = [some (.int k), some (.int n), some (.ref wd), x3, x4, x5] ∧ Same H Hx ∧ Hx wd = some (.lst (ws (MH.Wb (MH.abc.take k) i))))
    ⟨w0, none, none, none, rfl, new_same nw0 _, by rw [upd_same]; exact congrArg (fun z => some (HO.lst [V.str z])) (by decide +kernel)⟩ ?_ ?_
  · rintro i σ Hx hi ⟨wd, x3, x4, x5, rfl, sx, ew⟩
    have hi : i < n := by omega
    refine ⟨(by show 0 ≤ sizeLine; omega), fun lg nlg => ?_⟩
    have s2 := new_same nlg (.lst [])
    have ew2 : upd Hx lg (.lst []) wd = some (.lst (ws (MH.Wb (MH.abc.take k) i))) := s2 _ _ ew
    have nH : H lg = none := sx.free nlg
    have nwl : wd ≠ lg := fun z => by rw [z, nlg] at ew; cases ew
    have wl := wf_small (k := k) (n := i + 1) k3 (by omega)
    rw [MH.wf_wb] at wl
    have wl' := wf_small (k := k) (n := i) k3 (by omega)
    rw [MH.wf_wb] at wl'
    refine ⟨_, rfl, wd, rfl, ⟨_, .inl (.inl ew2)⟩, ?_⟩
    refine for_list (K := K) (a := wd) (xs := ws (MH.Wb (MH.abc.take k) i)) (fun j σ Hy => ∃ x5 : Option V, σ = [some (.int k), some (.int n), some (.ref wd), some (.int (0 + (i : Int))), some (.ref lg), x5] ∧ Same H Hy ∧ Hy wd = some (.lst (ws (MH.Wb (MH.abc.take k) i))) ∧
        Hy lg = some (.lst (ws (((MH.Wb (MH.abc.take k) i).take j).flatMap fun w => (MH.abc.take k).map fun l => w ++ [l])))) ⟨x5, rfl, sx.trans s2, ew2, upd_same⟩ ?_ ?_ ?_
    · rintro j σ Hy hj ⟨x5, rfl, sy, e1, e2⟩
      exact .inl (.inl e1)
    · rintro j v σ Hy hj ⟨x5, rfl, sy, e1, e2⟩
      obtain ⟨u, hu, rfl⟩ : ∃ u, (MH.Wb (MH.abc.take k) i)[j]? = some u ∧ V.str (mk u) = v := by
        unfold ws at hj
        rw [List.getElem?_map] at hj
        cases z : (MH.Wb (MH.abc.take k) i)[j]? with
        | none => rw [z] at hj; cases hj
        | some l => rw [z] at hj; cases hj; exact ⟨l, rfl, rfl⟩
      have hul : u.length = i := by
        have := List.mem_of_getElem? hu
        rw [← MH.wf_wb] at this
        exact (MH.wf_mem this).1
      refine ⟨_, rfl, .inl ⟨rfl, _, .inl (.inl e2)⟩, _, rfl, _, rfl, Str.ofString "abc", rfl, (by decide +kernel), mk (MH.abc.take k), (congrArg V.str (abc_slice k3)), abc_ascii, [none, some (.str (mk u))], ⟨rfl, ?_⟩, fun D nD => ?_⟩
      · intro i x v e1 e2
        match i, e1, e2 with
        | 0, e1, e2 => cases e2
        | 1, e1, e2 =>
          cases e1
          cases e2
          exact ⟨5, rfl, rfl, rfl, rfl⟩
        | i + 2, e1, e2 => cases e1
      have lk : (mk (MH.abc.take k)).length = k := by rw [len_mk, abc_take_len k3]
      refine comp_anyG (n := (mk (MH.abc.take k)).length) _ (fun i => .str (mk (u ++ [(MH.abc.take k).getD i 0]))) (fun _ => true) items1_str (by omega) nD
        (fun i Hx' R hi sx hR => hR Hx' (Same.refl _)) (fun i Hx' R hi _ sx hR => ?_) fun Hz sz xD => ?_
      · refine ⟨_, rfl, _, rfl, _, _, rfl, rfl, ?_, ?_⟩
        · rw [len_mk, hul]
          show _ + 1 ≤ sizeLine
          omega
        · have e : (⟨#[(mk (MH.abc.take k)).cps.toList.getD i 0]⟩ : Str) = mk [(MH.abc.take k).getD i 0] := by
            have : (mk (MH.abc.take k)).cps.toList = MH.abc.take k := Ls_mk _
            rw [this]
            rfl
          rw [e, mk_cat]
          exact hR Hx' (Same.refl _)
      · have el : (mk (MH.abc.take k)).length = (MH.abc.take k).length := len_mk _
        rw [el, range_pick (MH.abc.take k) 0 (fun _ => true) (fun l => V.str (mk (u ++ [l]))), filter_yes] at xD
        have exD : (MH.abc.take k).map (fun l => V.str (mk (u ++ [l]))) = ws ((MH.abc.take k).map fun l => u ++ [l]) := by unfold ws; rw [List.map_map]; rfl
        rw [exD] at xD
        have ft := flat_take (MH.Wb (MH.abc.take k) i) (fun w => (MH.abc.take k).map fun l => w ++ [l]) hu
        have fl := flat_le (MH.Wb (MH.abc.take k) i) (fun w => (MH.abc.take k).map fun l => w ++ [l]) (j + 1)
        refine ⟨lg, D, _, _, rfl, rfl, sz _ _ e2, xD, ?_, ?_⟩
        · rw [← List.length_append, ws_cat, ws_len, ← ft]
          exact Nat.le_trans fl (Nat.le_trans wl (by omega))
        · refine ⟨_, rfl, fun b o e => ?_, ?_, ?_⟩
          · rw [upd_ne (fun z => by rw [z, nH] at e; cases e)]; exact sz _ _ (sy _ _ e)
          · rw [upd_ne nwl]; exact sz _ _ e1
          · rw [upd_same, ws_cat, ← ft]
    · rintro σ Hy ⟨x5, rfl, sy, e1, e2⟩
      refine ⟨_, rfl, lg, _, _, _, rfl, sy, ?_⟩
      rw [e2, ws_len, List.take_length]
      rfl
  · rintro σ Hx ⟨wd, x3, x4, x5, rfl, sx, ew⟩
    have en : (n : Int).toNat = n := by omega
    rw [en, ← MH.wf_wb] at ew
    have wl := wf_small (k := k) (n := n) k3 n8
    refine ⟨_, rfl, wd, rfl, ⟨_, .inl (.inl ew)⟩, [none], ⟨rfl, ?_⟩, fun D nD => ?_⟩
    · intro i x v e1 e2
      match i, e1, e2 with
      | 0, e1, e2 => cases e2
      | i + 1, e1, e2 => cases e1
    refine comp_anyG (n := (ws (MH.Wf (MH.abc.take k) n)).length) (fun i => .str (mk ((MH.Wf (MH.abc.take k) n).getD i []))) (fun i => .str (mk ((MH.Wf (MH.abc.take k) n).getD i []))) (fun i => MW.pl ((MH.Wf (MH.abc.take k) n).getD i [])) (items1_list (.inl (.inl ew)) fun i hi => ws_at hi) (by rw [ws_len]; omega) nD
        (fun i Hx' R hi sx hR => ?_) (fun i Hx' R hi _ sx hR => ⟨_, rfl, hR Hx' (Same.refl _)⟩) fun Hy sy xD => ?_
    · rw [ws_len] at hi
      refine ⟨_, rfl, _, rfl, ?_, fun Hy sy => ⟨_, rfl, ?_⟩⟩
      · rw [len_mk, (MH.wf_mem (getD_mem hi)).1]; omega
      · rw [Ls_mk]; exact hR Hy sy
    · rw [ws_len, ws_pl] at xD
      exact q D Hy (sx.free nD) (sx.trans sy) xD
end
end K01
end
section
namespace K01
open PySem PySem.Spec PyProof.Rows Tim L2 Wm
structure Defs (K : PySem.W.Frag) (mg : Str → Option Value) : Prop where
  t : Blt mg
  d_is_plain : ∃ f fd, At K mg "is_plain" (top 8) ["word"] f fd
  d_plain_words : ∃ f fd, At K mg "plain_words" (top 9) ["letters", "length"] f fd
  d_all_words : ∃ f fd, At K mg "all_words" (top 10) ["letters", "length"] f fd
  d_how_many : ∃ f fd, At K mg "how_many" (top 11) ["letters", "length"] f fd
  d_refuse_unless_within : ∃ f fd, At K mg "refuse_unless_within" (top 12) ["letters", "length", "longest"] f fd
  d_prime_sign : ∃ f fd, At K mg "prime_sign" (top 13) ["number"] f fd
  d_power : ∃ f fd, At K mg "power" (top 14) ["base", "exponent"] f fd
  d__law_stir : ∃ f fd, At K mg "_law_stir" (top 16) ["cell"] f fd
  d__law_cell : ∃ f fd, At K mg "_law_cell" (top 17) ["script", "k"] f fd
  d__law_whole : ∃ f fd, At K mg "_law_whole" (top 18) ["found"] f fd
  d__law_is_plain : ∃ f fd, At K mg "_law_is_plain" (top 19) ["word"] f fd
  d__law_plain_bracket : ∃ f fd, At K mg "_law_plain_bracket" (top 20) ["word"] f fd
  d__law_refused : ∃ f fd, At K mg "_law_refused" (top 21) ["letters", "length", "way"] f fd
  d__law_all : ∃ f fd, At K mg "_law_all" (top 22) ["letters", "length"] f fd
  ex : ∃ C_TwistError C_NoWord C_NoNumber : Addr, ExcAt K mg "TwistError" C_TwistError ∧ ExcAt K mg "NoWord" C_NoWord ∧ ExcAt K mg "NoNumber" C_NoNumber ∧ PySem.W.mroIn K C_NoWord (.ref C_TwistError) = some true ∧ PySem.W.mroIn K C_NoNumber (.ref C_TwistError) = some true ∧ ExcIs K C_NoNumber (.ref C_NoNumber) true ∧ ExcIs K C_NoNumber (.type "ValueError") true ∧ ExcIs K C_NoNumber (.ref C_NoWord) false
  c_LONGEST_LISTED : ∃ t, mg "LONGEST_LISTED" = some (.int 8 t)
  c_LONGEST_COUNTED : ∃ t, mg "LONGEST_COUNTED" = some (.int 60 t)
  c_LETTERS : ∃ a, mg "LETTERS" = some (.ref a) ∧ TupK K a [Str.ofString "a", Str.ofString "b", Str.ofString "c"]
theorem at_mk {K : PySem.W.Frag} {mg : Str → Option Value} {h : Heap} {x : Str} {st : Stmt} {ps : List Str} {f : Addr} {oc : Value} {od an : Option Addr} {osl : Array (Option Value)} {kV doc pm cdv ct : Value} (X : K.In h) (G : h.Ns mainGlobals mg)
    (a : PySem.W.nsIn K mainGlobals x = some (some (.ref f))) (l : K.lookup f = some ⟨oc, od, .func (PySem.W.fnOf x x (defArgs st) (defBody st) (defScope st) .none kV doc pm an cdv ct), osl⟩) (c : PySem.W.codeIn K cdv x = true) (k : PySem.W.keepIn K (.ref f) = true)
    (hb : ∀ (kV doc pm : Value) (an : Option Addr) (cdv ct : Value) (us : List Value), us.length = ps.length → bindArgs (PySem.W.fnOf x x (defArgs st) (defBody st) (defScope st) .none kV doc pm an cdv ct) ⟨us, []⟩ = pure (ps.zip us)) :
    At K mg x st ps f (PySem.W.fnOf x x (defArgs st) (defBody st) (defScope st) .none kV doc pm an cdv ct) := ⟨fun_mk l c k, (fun_mk l c k).binds hb, PySem.W.mg_of X G a⟩
end K01
end
section
namespace K01
open PySem PySem.Spec PyProof.Rows Tim L2 Wm
def spLaw (K : PySem.W.Frag) : Sp := fun vs H Q _ => ∃ (a : Addr) (ns : List Int), vs = [.ref a] ∧ SqL K H a (ns.map V.int) ∧ ns.length ≤ 63 ∧ ∀ H', Q (.bl true) H'
theorem bt_ve : bootBuiltins "ValueError" = some (.type "ValueError") := by decide +kernel
def spRe : Sp := fun vs H Q E => ∃ k n m : Int, vs = [.int k, .int n, .int m] ∧ (m = 0 → ¬ In k n 8) ∧ (m ≠ 0 → ¬ In k n 60) ∧ Q (.bl true) H
theorem scRe : FnScope ["letters", "length", "way", "e"] ["letters", "length", "way"] (defScope (top 21)) := ⟨rfl, rfl, rfl, by decide +kernel, rfl, by decide +kernel, by decide +kernel⟩
section
variable {P : Program} {w : World} {K : PySem.W.Frag} {mg : Str → Option Value} {base : Heap} {f fp fh : Addr} {fd pd hd : FuncData}
theorem ok_re {Tw C N : Addr} (T : Blt mg) (F : At K mg "_law_refused" (top 21) ["letters", "length", "way"] f fd) (FP : At K mg "plain_words" (top 9) ["letters", "length"] fp pd) (FH : At K mg "how_many" (top 11) ["letters", "length"] fh hd)
    (GP : FnOk P w K mg base (CXE P w) 10 fp pd ["letters", "length"] (spPlw C)) (GH : FnOk P w K mg base (CXE P w) 2 fh hd ["letters", "length"] (spHm C))
    (XT : ExcAt K mg "TwistError" Tw) (XC : ExcAt K mg "NoNumber" C) (XN : ExcAt K mg "NoWord" N) (hm : PySem.W.mroIn K C (.ref Tw) = some true) (i1 : ExcIs K C (.ref C) true) (i2 : ExcIs K C (.type "ValueError") true) (i3 : ExcIs K C (.ref N) false) :
    FnOk P w K mg base CX0 11 f fd ["letters", "length", "way"] spRe := by
  refine F.fn.ok scRe (fun vs H Q E h => ?_) (fun cdv A outer s H vs Q E hr h => ?_)
  · obtain ⟨k, n, m, rfl, _⟩ := h
    rfl
  obtain ⟨k, n, m, rfl, h0, h1, q⟩ := h
  have hr2 : Room 2 _ := hr.mono (by omega)
  refine ⟨_, pss_cons (ps_try (X := (cxOf CX0 P w K mg base ["letters", "length", "way", "e"] "_law_refused" (defScope (top 21)) f cdv A outer s H E).nox) (i := 3) (n := "e") (x := "TwistError") (Tw := Tw)
    (tb := fun Eσ => tIfS (tTest (tOp rEq (tVar 2) (tC (.int 0)))) (tDrop (tCallS (spPlw C) Eσ (tCons (tVar 0) (tCons (tVar 1) tNil)))) (tDrop (tCallS (spHm C) Eσ (tCons (tVar 0) (tCons (tVar 1) tNil)))))
    (ts := fun a C' => fun D σ H => C' = C ∧ tRet (tAndV (fun σ H Q => σ[3]? = some (some (.ref a)) ∧ Q (.bl true) H) (tAndV (fun σ H Q => σ[3]? = some (some (.ref a)) ∧ Q (.bl true) H) (tNotV (fun σ H Q => σ[3]? = some (some (.ref a)) ∧ Q (.bl false) H)))) D σ H)
    rfl rfl scRe.nd rfl rfl rfl XT.m XT.f (fun pn xe Eσ hp => pss_one (ps_if (pt_cmpR op_eq (pv 2) pe_int (nomark _))
      (pss_one (ps_expr (pe_callS GP hr rfl FP.m FP.k FP.b hp (pa_cons (pv 0) (pa_cons (pv 1) pa_nil))))) (pss_one (ps_expr (pe_callS GH hr2 rfl FH.m FH.k FH.b hp (pa_cons (pv 0) (pa_cons (pv 1) pa_nil)))))))
    (fun pn a C' oe vs hin hc hd => pss_when fun e => by
      subst e
      exact pss_one (ps_ret (pe_and (pe_isiC hin hc hd XC.f i1 rfl T.isi (pv 3) rfl XC.m) (pe_and (pe_isiT hin hc hd XC.f i2 rfl T.isi (pv 3) rfl T.ve bt_ve) (pe_one (pe_not (pe_isiC hin hc hd XC.f i3 rfl T.isi (pv 3) rfl XN.m))))))))
    (pss_one (ps_ret pe_bl)), ?_⟩
  refine ⟨_, rfl, rfl, _, rfl, ?_⟩
  refine ite2 (fun c => ?_) (fun c => ?_)
  · have c : m = 0 := V.int.inj (of_decide_eq_true c)
    refine ⟨_, rfl, _, rfl, k, n, rfl, fun k' n' e1 e2 a b c' d p Hp _ _ _ => (h0 c (show In k n _ from ⟨by omega, by omega, by omega, by omega⟩)).elim, fun _ => ⟨C, rfl, XC.f, hm, fun a na => ⟨rfl, rfl, _, rfl, iteT ⟨rfl, _, rfl, iteT ⟨rfl, _, rfl, q⟩⟩⟩⟩⟩
  · have c : m ≠ 0 := fun y => c (decide_eq_true (congrArg V.int y))
    refine ⟨_, rfl, _, rfl, k, n, rfl, fun k' n' e1 e2 a b c' d => (h1 c (show In k n _ from ⟨by omega, by omega, by omega, by omega⟩)).elim, fun _ => ⟨C, rfl, XC.f, hm, fun a na => ⟨rfl, rfl, _, rfl, iteT ⟨rfl, _, rfl, iteT ⟨rfl, _, rfl, q⟩⟩⟩⟩⟩
theorem lstEq_self (xs : List V) : lstEq xs xs (fun _ => true) = true := by
  unfold lstEq
  simp
theorem scLaw : FnScope ["script", "letters", "length", "due", "turn", "found", "told", "total", "all_words_v", "part", "far", "wrong", "pair"] ["script"] (defScope (top 23)) := ⟨rfl, rfl, rfl, by decide +kernel, rfl, by decide +kernel, by decide +kernel⟩
def cLaw : Scope := { kind := .function, names := [(Str.ofString ".0", .local), (Str.ofString "word", .local), (Str.ofString "isinstance", .globalImplicit), (Str.ofString "str", .globalImplicit)], isGenerator := false, isCoroutine := false, more := [] }
set_option maxHeartbeats 2000000 in
theorem ok_law (Z : Defs K mg) (F : At K mg "law" (top 23) ["script"] f fd) : FnOk P w K mg base CX0 20 f fd ["script"] (spLaw K) := by
  have T := Z.t
  obtain ⟨f_is_plain, fd_is_plain, F_is_plain⟩ := Z.d_is_plain
  obtain ⟨f_plain_words, fd_plain_words, F_plain_words⟩ := Z.d_plain_words
  obtain ⟨f_all_words, fd_all_words, F_all_words⟩ := Z.d_all_words
  obtain ⟨f_how_many, fd_how_many, F_how_many⟩ := Z.d_how_many
  obtain ⟨f_refuse_unless_within, fd_refuse_unless_within, F_refuse_unless_within⟩ := Z.d_refuse_unless_within
  obtain ⟨f_prime_sign, fd_prime_sign, F_prime_sign⟩ := Z.d_prime_sign
  obtain ⟨f_power, fd_power, F_power⟩ := Z.d_power
  obtain ⟨f__law_stir, fd__law_stir, F__law_stir⟩ := Z.d__law_stir
  obtain ⟨f__law_cell, fd__law_cell, F__law_cell⟩ := Z.d__law_cell
  obtain ⟨f__law_whole, fd__law_whole, F__law_whole⟩ := Z.d__law_whole
  obtain ⟨f__law_is_plain, fd__law_is_plain, F__law_is_plain⟩ := Z.d__law_is_plain
  obtain ⟨f__law_plain_bracket, fd__law_plain_bracket, F__law_plain_bracket⟩ := Z.d__law_plain_bracket
  obtain ⟨f__law_refused, fd__law_refused, F__law_refused⟩ := Z.d__law_refused
  obtain ⟨f__law_all, fd__law_all, F__law_all⟩ := Z.d__law_all
  obtain ⟨C_TwistError, C_NoWord, C_NoNumber, X_TwistError, X_NoWord, X_NoNumber, M_NoWord, M_NoNumber, I_NoNumber_NoNumber, I_NoNumber_ValueError, I_NoNumber_NoWord⟩ := Z.ex
  obtain ⟨t_LONGEST_LISTED, c_LONGEST_LISTED⟩ := Z.c_LONGEST_LISTED
  obtain ⟨t_LONGEST_COUNTED, c_LONGEST_COUNTED⟩ := Z.c_LONGEST_COUNTED
  obtain ⟨a_LETTERS, c_LETTERS, u_LETTERS⟩ := Z.c_LETTERS
  have GC : FnOk P w K mg base CX0 2 f__law_cell fd__law_cell ["script", "k"] (spCellD K) := ok_cellD T F__law_cell F__law_stir
  have GA : FnOk P w K mg base CX0 2 f__law_all fd__law_all ["letters", "length"] spLa := ok_la T F__law_all F__law_is_plain
  have GW : FnOk P w K mg base CX0 1 f__law_whole fd__law_whole ["found"] spWh := ok_wh T F__law_whole
  have GP : FnOk P w K mg base (CXE P w) 10 f_plain_words fd_plain_words ["letters", "length"] (spPlw C_NoNumber) := ok_plw T F_plain_words F_is_plain F_all_words F_refuse_unless_within X_NoNumber c_LETTERS u_LETTERS c_LONGEST_LISTED
  have GH : FnOk P w K mg base (CXE P w) 2 f_how_many fd_how_many ["letters", "length"] (spHm C_NoNumber) := ok_hm T F_how_many F_power F_prime_sign F_refuse_unless_within X_NoNumber c_LETTERS u_LETTERS c_LONGEST_COUNTED
  have GR : FnOk P w K mg base CX0 11 f__law_refused fd__law_refused ["letters", "length", "way"] spRe := ok_re T F__law_refused F_plain_words F_how_many GP GH X_TwistError X_NoNumber X_NoWord M_NoNumber I_NoNumber_NoNumber I_NoNumber_ValueError I_NoNumber_NoWord
  refine F.fn.ok scLaw (fun vs H Q E h => ?_) (fun cdv A outer s H vs Q E hr h => ?_)
  · obtain ⟨a, ns, rfl, _⟩ := h
    rfl
  obtain ⟨a, ns, rfl, hS, h63, q⟩ := h
  have hr1 : Room 1 _ := hr.mono (by omega)
  have hr2 : Room 2 _ := hr.mono (by omega)
  have hr10 : Room 10 _ := hr.mono (by omega)
  have hr11 : Room 11 _ := hr.mono (by omega)
  have hu1 := un_of (n := 0) hr (by decide)
  have O : CompOk (cxOf CX0 P w K mg base ["script", "letters", "length", "due", "turn", "found", "told", "total", "all_words_v", "part", "far", "wrong", "pair"] "law" (defScope (top 23)) f cdv A outer s H E).nox ["word"] cLaw [] := {
    clos := rfl
    nocell := by decide +kernel
    kind := rfl
    names := by decide +kernel
    sub := fun x c e => by cases e
    has := fun x h => by
      have e := lk_has (l := [(Str.ofString ".0", .local), (Str.ofString "word", .local), (Str.ofString "isinstance", .globalImplicit), (Str.ofString "str", .globalImplicit)]) (ys := []) h (by decide +kernel)
      cases e }
  refine ⟨_, @PSsW.out _ _ _ (w_cons ⟨ps_set (i := 1) scLaw.nd rfl (Or.inl rfl) (pe_op op_add pe_int (pe_op op_mod (pe_call GC hr2 rfl F__law_cell.m F__law_cell.k F__law_cell.b .nil pass0 (pa_cons (pv 0) (pa_cons pe_int pa_nil))) pe_int))⟩
    (w_cons ⟨ps_set (i := 2) scLaw.nd rfl (Or.inl rfl) (pe_op op_add pe_int (pe_op op_mod (pe_call GC hr2 rfl F__law_cell.m F__law_cell.k F__law_cell.b .nil pass0 (pa_cons (pv 0) (pa_cons pe_int pa_nil))) (pe_ix ix_list (pe_lst (pa_cons pe_int (pa_cons pe_int (pa_cons pe_int pa_nil)))) (pe_op op_sub (pv 1) pe_int) (fun _ _ => rfl))))⟩
    (w_cons ⟨ps_set (i := 3) scLaw.nd rfl (Or.inl rfl) (pe_call GA hr2 rfl F__law_all.m F__law_all.k F__law_all.b .nil pass0 (pa_cons (pv 1) (pa_cons (pv 2) pa_nil)))⟩
    (w_cons ⟨ps_for PassesOwn.never rfl (pi_range1 rfl T.rng (pa_cons pe_int pa_nil)) (pg_name (i := 4) scLaw.nd rfl (Or.inl rfl))
      (pss_cons (ps_set (i := 5) scLaw.nd rfl (Or.inl rfl) (pe_call GP hr10 rfl F_plain_words.m F_plain_words.k F_plain_words.b .nil passF (pa_cons (pv 1) (pa_cons (pv 2) pa_nil))))
      (pss_cons (ps_if (PW.pt (pw_or (pt_not (pt_val (pe_callB call_isi rfl T.isi boot_isi (pa_cons (pv 5) (pa_cons (pe_ty rfl T.lst bt_list) pa_nil)))))
          (pw_or (pt_not (pt_val (pe_callB (call_all rfl) rfl T.all L2.boot_all (pa_cons (pe_compG (N' := ["word"]) rfl O (pi_list (pv 5)) (fun C s₀ H₀ ex pn xe => pg_name (i := 0) (by show List.Nodup [Str.ofString "word"]; decide +kernel) rfl (.inl rfl) (.inr rfl))
            (fun _ _ _ _ _ _ => pifs_nil) (fun _ _ _ _ _ _ => pe_callB call_isi rfl T.isi boot_isi (pa_cons (pv 0) (pa_cons (pe_ty rfl T.str bt_str) pa_nil)))) pa_nil))))
          (pw_or1 (pt_cmpR op_neLs (pv 5) (pv 3) (nomark _)))))) (pss_one (ps_ret pe_bl)) pss_nil)
      (pss_one (ps_expr (pe_bm PySem.F.plainAttrs_list PySem.F.slot_list_append PySem.F.type_list_append mt_append (pv 5) (pa_cons pe_str pa_nil))))))⟩
    (w_cons ⟨ps_set (i := 6) scLaw.nd rfl (Or.inl rfl) (pe_call GH hr2 rfl F_how_many.m F_how_many.k F_how_many.b .nil passF (pa_cons (pv 1) (pa_cons (pv 2) pa_nil)))⟩
    (w_cons ⟨ps_if (PW.pt (pw_or (pt_not (pt_val (pe_call GW hr1 rfl F__law_whole.m F__law_whole.k F__law_whole.b .nil pass0 (pa_cons (pv 6) pa_nil)))) (pw_or1 (pt_cmpR op_ne (pv 6) (pe_callB call_len_seq rfl T.len PySem.boot_len (pa_cons (pv 3) pa_nil)) (nomark _))))) (pss_one (ps_ret pe_bl)) pss_nil⟩
    (w_cons ⟨ps_set (i := 2) scLaw.nd rfl (Or.inl rfl) (pe_op op_add pe_int (pe_op op_mod (pe_call GC hr2 rfl F__law_cell.m F__law_cell.k F__law_cell.b .nil pass0 (pa_cons (pv 0) (pa_cons pe_int pa_nil))) pe_int))⟩
    (w_cons ⟨ps_set (i := 7) scLaw.nd rfl (Or.inl rfl) pe_int⟩
    (w_cons ⟨ps_set (i := 8) scLaw.nd rfl (Or.inl rfl) pe_int⟩
    (w_cons ⟨ps_for PassesOwn.never rfl (pi_range2 rfl T.rng (pa_cons pe_int (pa_cons (pe_op op_add (pv 2) pe_int) pa_nil))) (pg_name (i := 9) scLaw.nd rfl (Or.inl rfl))
      (pss_cons (ps_set (i := 8) scLaw.nd rfl (Or.inl rfl) (pe_op op_mul (pv 8) (pv 1)))
      (pss_one (ps_if (pt_cmpR op_eq (pe_op op_mod (pv 2) (pv 9)) pe_int (nomark _))
        (pss_one (ps_set (i := 7) scLaw.nd rfl (Or.inl rfl) (pe_op op_add (pv 7) (pe_op op_mul (pv 9) (pe_call GH hr2 rfl F_how_many.m F_how_many.k F_how_many.b .nil passF (pa_cons (pv 1) (pa_cons (pv 9) pa_nil))))))) pss_nil)))⟩
    (w_cons ⟨ps_set (i := 10) scLaw.nd rfl (Or.inl rfl) (pe_op op_mod (pe_call GC hr2 rfl F__law_cell.m F__law_cell.k F__law_cell.b .nil pass0 (pa_cons (pv 0) (pa_cons pe_int pa_nil))) (pe_op op_pow pe_int pe_int))⟩
    (w_cons (w_set (i := 11) scLaw.nd rfl (Or.inl rfl) (w_lst (wa_cons ⟨pe_tup (pa_cons pe_int (pa_cons pe_int pa_nil))⟩ (wa_cons ⟨pe_tup (pa_cons pe_int (pa_cons pe_int pa_nil))⟩ (wa_cons ⟨pe_tup (pa_cons pe_int (pa_cons pe_int pa_nil))⟩ (wa_cons (w_tup (wa_cons ⟨pe_int⟩ (wa_cons ⟨pe_ix ix_list (pe_lst (pa_cons pe_int (pa_cons pe_int pa_nil))) (pe_op op_mod (pe_call GC hr2 rfl F__law_cell.m F__law_cell.k F__law_cell.b .nil pass0 (pa_cons (pv 0) (pa_cons pe_int pa_nil))) pe_int) (fun _ _ => rfl)⟩ wa_nil))) (wa_cons ⟨pe_tup (pa_cons (pe_op op_sub (pe_un un_neg pe_int) (pv 10)) (pa_cons pe_int pa_nil))⟩ wa_nil)))))))
    (w_cons ⟨ps_set (i := 12) scLaw.nd rfl (Or.inl rfl) (pe_ix ix_list (pe_op op_cat (pv 11) (pe_lst (pa_cons (pe_tup (pa_cons (pe_op op_add pe_int (pv 10)) (pa_cons pe_int pa_nil))) (pa_cons (pe_tup (pa_cons pe_int (pa_cons (pe_op op_sub (pe_un un_neg pe_int) (pv 10)) pa_nil))) (pa_cons (pe_tup (pa_cons pe_int (pa_cons (pe_op op_add pe_int (pv 10)) pa_nil))) pa_nil))))) (pe_op op_mod (pe_op op_fdiv (pe_call GC hr2 rfl F__law_cell.m F__law_cell.k F__law_cell.b .nil pass0 (pa_cons (pv 0) (pa_cons pe_int pa_nil))) pe_int) pe_int) (fun _ _ => rfl))⟩
    (w_one ⟨ps_ret (pe_and (pe_cmpR op_eq (pv 7) (pv 8) (nomark _)) (pe_one (pe_call GR hr11 rfl F__law_refused.m F__law_refused.k F__law_refused.b .nil pass0 (pa_cons (pe_ix ix_tup (pv 12) pe_int (fun _ _ => rfl)) (pa_cons (pe_ix ix_tup (pv 12) pe_int (fun _ _ => rfl)) (pa_cons (pe_op op_mod (pe_call GC hr2 rfl F__law_cell.m F__law_cell.k F__law_cell.b .nil pass0 (pa_cons (pv 0) (pa_cons pe_int pa_nil))) pe_int) pa_nil))))))⟩)))))))))))))), ?_⟩
  have hz := sizeLine_eq
  have h62 := p62
  have z2 : (2 : Nat) ≤ sizeLine := by omega
  refine ⟨_, rfl, a, ns, 0, rfl, hS, fun H1 s1 => ⟨_, _, rfl, rfl, (by show (0 : Int) < 3; decide), _, _, rfl, rfl, ?_⟩⟩
  have m3 := mod_lt (i := cellV ns 0) (j := 3) (by decide)
  obtain ⟨k, hk, k1, k3⟩ : ∃ k : Nat, 1 + cellV ns 0 % 3 = k ∧ 1 ≤ k ∧ k ≤ 3 := ⟨(1 + cellV ns 0 % 3).toNat, by omega, by omega, by omega⟩
  dsimp only
  rw [hk]
  obtain ⟨m, hm, hm0, hm8, hm6⟩ : ∃ m : Int, atI [V.int 8, .int 8, .int 6] ((k : Int) - 1) = some (.int m) ∧ 0 < m ∧ m ≤ 8 ∧ (k = 3 → m ≤ 6) := by
    have : k = 1 ∨ k = 2 ∨ k = 3 := by omega
    rcases this with z | z | z <;> subst z
    · exact ⟨8, atI_nat (j := 0) rfl, by decide, by decide, fun y => by omega⟩
    · exact ⟨8, atI_nat (j := 1) rfl, by decide, by decide, fun y => by omega⟩
    · exact ⟨6, atI_nat (j := 2) rfl, by decide, by decide, fun y => by decide⟩
  refine ⟨_, rfl, a, ns, 1, rfl, s1.seq hS, fun H2 s2 => ⟨by show 3 ≤ sizeLine; omega, fun p np => ⟨_, rfl, _, _, rfl, rfl, p, _, _, _, rfl, rfl, .inl (.inl upd_same), hm, _, _, rfl, rfl, hm0, _, _, rfl, rfl, ?_⟩⟩⟩
  have mm := mod_lt (i := cellV ns 1) (j := m) hm0
  obtain ⟨n, hn, n1, n8, n6⟩ : ∃ n : Nat, 1 + cellV ns 1 % m = n ∧ 1 ≤ n ∧ n ≤ 8 ∧ (k = 3 → n ≤ 6) := ⟨(1 + cellV ns 1 % m).toNat, by omega, by omega, by omega, fun y => by have := hm6 y; omega⟩
  dsimp only
  rw [hn]
  refine ⟨_, rfl, _, rfl, k, n, rfl, k1, k3, n8, fun due H3 nd s3 ed => ?_⟩
  have sH3 : Same H H3 := s1.trans (s2.trans ((new_same np _).trans s3))
  have dl : ((MH.Wf (MH.abc.take k) n).filter MW.pl).length ≤ 6561 := Nat.le_trans (List.length_filter_le _ _) (wf_small k3 n8)
  have wl : (ws ((MH.Wf (MH.abc.take k) n).filter MW.pl)).length ≤ 6561 := by rw [ws_len]; exact dl
  refine ⟨2, rfl, by omega, by omega, ?_⟩
  refine for_range (lo := 0) (n := 2) (fun i σ Hx => ∃ x4 x5 : Option V, σ = [some (.ref a), some (.int k), some (.int n), some (.ref due), x4, x5, none, none, none, none, none, none, none] ∧ Same H Hx ∧ Hx due = some (.lst (ws ((MH.Wf (MH.abc.take k) n).filter MW.pl)))) ⟨none, none, rfl, sH3, ed⟩ ?_ ?_
  · rintro i σ Hx hi ⟨x4, x5, rfl, sx, ex⟩
    refine ⟨_, rfl, _, rfl, k, n, rfl, fun k' n' e1 e2 _ _ _ _ p H4 np s4 e4 => ?_, fun h => h ⟨by omega, by omega, by omega, by omega⟩⟩
    have e1 : k' = k := by omega
    have e2 : n' = n := by omega
    subst e1 e2
    refine ⟨_, rfl, _, _, _, rfl, .ll e4, _, rfl, iteF ?_⟩
    refine ⟨_, rfl, p, rfl, ⟨_, .inl (.inl e4)⟩, [none], ⟨rfl, ?_⟩, fun D nD => ?_⟩
    · intro i x v e1 e2
      match i, e1, e2 with
      | 0, e1, e2 => cases e2
      | i + 1, e1, e2 => cases e1
    refine comp_anyG (n := (ws ((MH.Wf (MH.abc.take k') n').filter MW.pl)).length) (fun i => .str (mk (((MH.Wf (MH.abc.take k') n').filter MW.pl).getD i []))) (fun _ => .bl true) (fun _ => true) (items1_list (.inl (.inl e4)) fun i hi => ws_at hi) (by omega) nD
      (fun i Hx' R hi sx hR => hR Hx' (Same.refl _)) (fun i Hx' R hi _ sx hR => ⟨_, rfl, _, _, _, rfl, .ss _, hR Hx' (Same.refl _)⟩) fun H5 s5 xD => ?_
    have e5 := s5 _ _ e4
    have d5 := s5 _ _ (s4 _ _ ex)
    have npd : p ≠ due := fun z => by rw [z, ex] at np; cases np
    refine ⟨D, (List.range (ws ((MH.Wf (MH.abc.take k') n').filter MW.pl)).length).map (fun _ => true), rfl, .inl (.inl ?_), _, rfl, ?_⟩
    · rw [xD, filter_yes, List.map_map]; rfl
    have al : ((List.range (ws ((MH.Wf (MH.abc.take k') n').filter MW.pl)).length).map (fun _ => true)).all id = true := by rw [List.all_map]; simp
    rw [al]
    refine iteF ?_
    refine ⟨_, rfl, _, rfl, p, due, _, _, 0, fun _ => true, rfl, rfl, .inl (.inl e5), .inl (.inl d5), fun _ => items_self (fun v hv => ?_), hu1, _, rfl, ?_⟩
    · obtain ⟨u, _, rfl⟩ := List.mem_map.mp hv
      exact .inr (.inl ⟨_, rfl⟩)
    rw [lstEq_self]
    refine iteF ?_
    refine ⟨_, rfl, .inl ⟨rfl, _, .inl (.inl e5)⟩, p, _, _, rfl, rfl, e5, by omega, _, _, rfl, fun b o e => ?_, ?_⟩
    · have : b ≠ p := fun z => by rw [z, sx.free np] at e; cases e
      rw [upd_ne this]; exact s5 _ _ (s4 _ _ (sx _ _ e))
    · rw [upd_ne (Ne.symm npd)]; exact d5
  rintro σ H4 ⟨x4, x5, rfl, s4, e4⟩
  refine ⟨_, rfl, _, rfl, k, n, rfl, fun k' n' e1 e2 _ _ _ _ => ?_, fun h => h ⟨by omega, by omega, by omega, by omega⟩⟩
  have e1 : k' = k := by omega
  have e2 : n' = n := by omega
  subst e1 e2
  refine ⟨_, rfl, _, rfl, _, rfl, iteF ?_⟩
  refine ⟨_, rfl, _, rfl, due, _, rfl, .inl (.inl (.inl e4)), rfl, _, rfl, ?_⟩
  have ec : V.int (MH.hm k' n') = V.int ((ws ((MH.Wf (MH.abc.take k') n').filter MW.pl)).length : Nat) := by rw [ws_len, MH.counts k1 k3 n1 n8 n6]
  rw [ec]
  refine iteNS (by simp) ?_
  refine ⟨_, rfl, a, ns, 2, rfl, s4.seq hS, fun H5 s5 => ⟨_, _, rfl, rfl, (by show (0 : Int) < 60; decide), _, _, rfl, rfl, ?_⟩⟩
  have m60 := mod_lt (i := cellV ns 2) (j := 60) (by decide)
  obtain ⟨l, hl, l1, l60⟩ : ∃ l : Nat, 1 + cellV ns 2 % 60 = l ∧ 1 ≤ l ∧ l ≤ 60 := ⟨(1 + cellV ns 2 % 60).toNat, by omega, by omega, by omega⟩
  dsimp only
  rw [hl]
  refine ⟨_, rfl, _, _, rfl, rfl, 1, _, rfl, ⟨by omega, by omega, by omega, by omega⟩, ?_⟩
  have el : ((l : Int) + 1 - 1).toNat = l := by omega
  rw [el]
  refine for_range (lo := 1) (n := l) (fun i σ Hx => ∃ x9 : Option V, σ = [some (.ref a), some (.int k'), some (.int l), some (.ref due), x4, x5, some (.int (MH.hm k' n')), some (.int (MH.smS k' l i)), some (.int ((k' ^ i : Nat) : Int)), x9, none, none, none] ∧ Same H Hx) ⟨none, ?_, s4.trans s5⟩ ?_ ?_
  · rw [ec, ws_len]
    rfl
  · rintro i σ Hx hi ⟨x9, rfl, sx⟩
    have e1 : (1 : Int) + (i : Int) = ((i + 1 : Nat) : Int) := by omega
    refine ⟨_, rfl, _, rfl, _, _, rfl, rfl, cmul_r (by omega) (by omega), _, rfl, _, rfl, _, _, rfl, rfl, (by show 0 < (1 : Int) + i; omega), rfl, _, rfl, ?_⟩
    have ep : V.int (((k' ^ i : Nat) : Int) * (k' : Int)) = V.int ((k' ^ (i + 1) : Nat) : Int) := by rw [Nat.pow_succ, Int.natCast_mul]
    dsimp only
    rw [e1, ep]
    have em : (l : Int) % ((i + 1 : Nat) : Int) = ((l % (i + 1) : Nat) : Int) := rfl
    refine ite2 (fun c => ?_) (fun c => ?_)
    · have c : (l : Int) % ((i + 1 : Nat) : Int) = 0 := V.int.inj (of_decide_eq_true c)
      have c' : l % (i + 1) = 0 := by rw [em] at c; omega
      refine ⟨_, rfl, _, rfl, _, rfl, _, rfl, k', ((i + 1 : Nat) : Int), rfl, fun k2 n2 e3 e8 _ _ _ _ => ?_, fun h => h ⟨by omega, by omega, by omega, by omega⟩⟩
      have e3 : k2 = k' := by omega
      have e8 : n2 = i + 1 := by omega
      subst e3 e8
      refine ⟨_, _, rfl, rfl, cmul_l (by omega) (by omega), _, _, rfl, rfl, some (.int ((i + 1 : Nat) : Int)), ?_, sx⟩
      rw [MH.smS, if_pos c']; rfl
    · have c : ¬ (l : Int) % ((i + 1 : Nat) : Int) = 0 := fun y => c (decide_eq_true (congrArg V.int y))
      have c' : ¬ l % (i + 1) = 0 := fun y => c (by rw [em, y]; rfl)
      refine ⟨some (.int ((i + 1 : Nat) : Int)), ?_, sx⟩
      rw [MH.smS, if_neg c']; rfl
  rintro σ H6 ⟨x9, rfl, s6⟩
  refine ⟨_, rfl, a, ns, 3, rfl, s6.seq hS, fun H7 s7 => ⟨_, _, rfl, rfl, ⟨by decide, by decide, by decide⟩, _, _, rfl, rfl, (by show (0 : Int) < 10 ^ (12 : Int).toNat; decide), ?_⟩⟩
  have s17 : Same H H7 := s6.trans s7
  obtain ⟨fr, hfr, f0⟩ : ∃ fr : Int, cellV ns 3 % 10 ^ (12 : Int).toNat = fr ∧ 0 ≤ fr := ⟨_, rfl, Int.emod_nonneg _ (by decide)⟩
  dsimp only
  rw [hfr]
  have m2 := mod_lt (i := cellV ns 4) (j := 2) (by decide)
  obtain ⟨y9, hy9, hy0, hy1⟩ : ∃ y : Int, atI [V.int 9, .int 61] (cellV ns 4 % 2) = some (.int y) ∧ (cellV ns 4 % 2 = 0 → y = 9) ∧ (cellV ns 4 % 2 ≠ 0 → y = 61) := by
    have : cellV ns 4 % 2 = 0 ∨ cellV ns 4 % 2 = 1 := by omega
    rcases this with z | z
    · rw [z]; exact ⟨9, atI_nat (j := 0) rfl, fun _ => rfl, fun y => absurd rfl y⟩
    · rw [z]; exact ⟨61, atI_nat (j := 1) rfl, fun y => by omega, fun _ => rfl⟩
  refine ⟨z2, fun p1 w1 => ⟨z2, fun p2 w2 => ⟨z2, fun p3 w3 => ⟨z2, fun pl wpl => ⟨_, rfl, a, ns, 4, rfl, ((s17.trans (new_same w1 _)).trans ((new_same w2 _).trans ((new_same w3 _).trans (new_same wpl _)))).seq hS, fun H8 s8 => ⟨_, _, rfl, rfl, (by show (0 : Int) < 2; decide), pl, _, _, _, rfl, rfl, .inl (.inl (s8 _ _ upd_same)), hy9, z2, fun p4 w4 => ⟨_, rfl, _, rfl, _, _, rfl, rfl, z2, fun p5 w5 => ⟨by show 5 ≤ sizeLine; omega, fun pw wpw => ?_⟩⟩⟩⟩⟩⟩⟩⟩
  have s18 : Same H H8 := (s17.trans (new_same w1 _)).trans ((new_same w2 _).trans ((new_same w3 _).trans ((new_same wpl _).trans s8)))
  refine ⟨_, rfl, _, rfl, _, _, rfl, rfl, z2, fun p6 w6 => ⟨_, rfl, _, rfl, _, _, rfl, rfl, z2, fun p7 w7 => ⟨_, rfl, _, _, rfl, rfl, z2, fun p8 w8 => ⟨by show 3 ≤ sizeLine; omega, fun pq wpq => ⟨pw, pq, _, _, rfl, rfl, new_same wpq _ _ _ (new_same w8 _ _ _ (new_same w7 _ _ _ (new_same w6 _ _ _ upd_same))), upd_same, by show 8 ≤ sizeLine; omega, fun pc wpc => ?_⟩⟩⟩⟩⟩
  have s19 : Same H8 _ := (new_same w4 _).trans ((new_same w5 _).trans ((new_same wpw _).trans ((new_same w6 _).trans ((new_same w7 _).trans ((new_same w8 _).trans ((new_same wpq _).trans (new_same wpc (.lst ([V.ref p1, .ref p2, .ref p3, .ref p4, .ref p5] ++ [.ref p6, .ref p7, .ref p8])))))))))
  refine ⟨_, rfl, a, ns, 4, rfl, (s18.trans s19).seq hS, fun H9 s9 => ?_⟩
  have k_q := (new_same wpc _).trans s9
  have k_8 := (new_same wpq _).trans k_q
  have k_7 := (new_same w8 _).trans k_8
  have k_6 := (new_same w7 _).trans k_7
  have k_w := (new_same w6 _).trans k_6
  have k_5 := (new_same wpw _).trans k_w
  have k_4 := (new_same w5 _).trans k_5
  have k_l := s8.trans ((new_same w4 _).trans k_4)
  have k_3 := (new_same wpl _).trans k_l
  have k_2 := (new_same w3 _).trans k_3
  have k_1 := (new_same w2 _).trans k_2
  have i8 := mod_lt (i := cellV ns 4 / 2) (j := 8) (by decide)
  obtain ⟨pj, x, y, hat, ej, g0, g1⟩ : ∃ (pj : Addr) (x y : Int), atI ([V.ref p1, .ref p2, .ref p3, .ref p4, .ref p5] ++ [.ref p6, .ref p7, .ref p8]) (cellV ns 4 / 2 % 8) = some (.ref pj) ∧ H9 pj = some (.tup [.int x, .int y]) ∧ (cellV ns 4 % 2 = 0 → ¬ In x y 8) ∧ (cellV ns 4 % 2 ≠ 0 → ¬ In x y 60) := by
    have : cellV ns 4 / 2 % 8 = 0 ∨ cellV ns 4 / 2 % 8 = 1 ∨ cellV ns 4 / 2 % 8 = 2 ∨ cellV ns 4 / 2 % 8 = 3 ∨ cellV ns 4 / 2 % 8 = 4 ∨ cellV ns 4 / 2 % 8 = 5 ∨ cellV ns 4 / 2 % 8 = 6 ∨ cellV ns 4 / 2 % 8 = 7 := by omega
    rcases this with z | z | z | z | z | z | z | z <;> rw [z]
    · exact ⟨p1, 0, 3, atI_nat (j := 0) rfl, k_1 _ _ upd_same, fun _ h => by have := h.1; omega, fun _ h => by have := h.1; omega⟩
    · exact ⟨p2, 4, 3, atI_nat (j := 1) rfl, k_2 _ _ upd_same, fun _ h => by have := h.2.1; omega, fun _ h => by have := h.2.1; omega⟩
    · exact ⟨p3, 2, 0, atI_nat (j := 2) rfl, k_3 _ _ upd_same, fun _ h => by have := h.2.2.1; omega, fun _ h => by have := h.2.2.1; omega⟩
    · exact ⟨p4, 2, y9, atI_nat (j := 3) rfl, k_4 _ _ upd_same, fun c h => by have := h.2.2.2; have := hy0 c; omega, fun c h => by have := h.2.2.2; have := hy1 c; omega⟩
    · exact ⟨p5, -1 - fr, 2, atI_nat (j := 4) rfl, k_5 _ _ upd_same, fun _ h => by have := h.1; omega, fun _ h => by have := h.1; omega⟩
    · exact ⟨p6, 4 + fr, 1, atI_nat (j := 5) rfl, k_6 _ _ upd_same, fun _ h => by have := h.2.1; omega, fun _ h => by have := h.2.1; omega⟩
    · exact ⟨p7, 2, -1 - fr, atI_nat (j := 6) rfl, k_7 _ _ upd_same, fun _ h => by have := h.2.2.1; omega, fun _ h => by have := h.2.2.1; omega⟩
    · exact ⟨p8, 3, 61 + fr, atI_nat (j := 7) rfl, k_8 _ _ upd_same, fun _ h => by have := h.2.2.2; omega, fun _ h => by have := h.2.2.2; omega⟩
  refine ⟨_, _, rfl, rfl, ⟨by decide, by decide⟩, _, _, rfl, rfl, (by show (0 : Int) < 8; decide), pc, _, _, _, rfl, rfl, .inl (.inl (s9 _ _ upd_same)), hat, ?_⟩
  refine ⟨_, rfl, _, rfl, rfl, _, rfl, ?_⟩
  rw [MH.sum_all k1 k3 l1 l60]
  refine ite2 (fun _ => ?_) (fun c => absurd (decide_eq_true rfl) c)
  refine ⟨_, rfl, pj, _, _, _, rfl, rfl, .inl (.inl ej), rfl, _, rfl, pj, _, _, _, rfl, rfl, .inl (.inl ej), rfl, _, rfl, a, ns, 4, rfl, (s18.trans (s19.trans s9)).seq hS, fun H10 s10 => ⟨_, _, rfl, rfl, (by show (0 : Int) < 2; decide), x, y, _, rfl, g0, g1, q _⟩⟩
end
end K01
end
namespace K01
open PySem PySem.Spec PyProof.Rows Tim L2 Wm
theorem all_mk {l : PySem.W.OpenLaw} {w : World} {K : PySem.W.Frag} {h : Heap} {mg : Str → Option Value} {fa : Addr} (X : K.In h) (G : h.Ns mainGlobals mg) (hfa : mg "law" = some (.ref fa))
    {f8 : Addr} {od8 an8 : Option Addr} {sl8 : Array (Option Value)} {oc8 kV8 dc8 pm8 cd8 ct8 : Value}
    {f9 : Addr} {od9 an9 : Option Addr} {sl9 : Array (Option Value)} {oc9 kV9 dc9 pm9 cd9 ct9 : Value}
    {f10 : Addr} {od10 an10 : Option Addr} {sl10 : Array (Option Value)} {oc10 kV10 dc10 pm10 cd10 ct10 : Value}
    {f11 : Addr} {od11 an11 : Option Addr} {sl11 : Array (Option Value)} {oc11 kV11 dc11 pm11 cd11 ct11 : Value}
    {f12 : Addr} {od12 an12 : Option Addr} {sl12 : Array (Option Value)} {oc12 kV12 dc12 pm12 cd12 ct12 : Value}
    {f13 : Addr} {od13 an13 : Option Addr} {sl13 : Array (Option Value)} {oc13 kV13 dc13 pm13 cd13 ct13 : Value}
    {f14 : Addr} {od14 an14 : Option Addr} {sl14 : Array (Option Value)} {oc14 kV14 dc14 pm14 cd14 ct14 : Value}
    {f16 : Addr} {od16 an16 : Option Addr} {sl16 : Array (Option Value)} {oc16 kV16 dc16 pm16 cd16 ct16 : Value}
    {f17 : Addr} {od17 an17 : Option Addr} {sl17 : Array (Option Value)} {oc17 kV17 dc17 pm17 cd17 ct17 : Value}
    {f18 : Addr} {od18 an18 : Option Addr} {sl18 : Array (Option Value)} {oc18 kV18 dc18 pm18 cd18 ct18 : Value}
    {f19 : Addr} {od19 an19 : Option Addr} {sl19 : Array (Option Value)} {oc19 kV19 dc19 pm19 cd19 ct19 : Value}
    {f20 : Addr} {od20 an20 : Option Addr} {sl20 : Array (Option Value)} {oc20 kV20 dc20 pm20 cd20 ct20 : Value}
    {f21 : Addr} {od21 an21 : Option Addr} {sl21 : Array (Option Value)} {oc21 kV21 dc21 pm21 cd21 ct21 : Value}
    {f22 : Addr} {od22 an22 : Option Addr} {sl22 : Array (Option Value)} {oc22 kV22 dc22 pm22 cd22 ct22 : Value}
    {f23 : Addr} {od23 an23 : Option Addr} {sl23 : Array (Option Value)} {oc23 kV23 dc23 pm23 cd23 ct23 : Value}
    {C_TwistError C_NoWord C_NoNumber : Addr}
    {t_LONGEST_LISTED : Tok}
    {t_LONGEST_COUNTED : Tok}
    {a_LETTERS : Addr}
    (a8 : PySem.W.nsIn K mainGlobals "is_plain" = some (some (.ref f8))) (l8 : K.lookup f8 = some ⟨oc8, od8, .func (PySem.W.fnOf "is_plain" "is_plain" (defArgs (top 8)) (defBody (top 8)) (defScope (top 8)) .none kV8 dc8 pm8 an8 cd8 ct8), sl8⟩) (c8 : PySem.W.codeIn K cd8 "is_plain" = true) (k8 : PySem.W.keepIn K (.ref f8) = true)
    (a9 : PySem.W.nsIn K mainGlobals "plain_words" = some (some (.ref f9))) (l9 : K.lookup f9 = some ⟨oc9, od9, .func (PySem.W.fnOf "plain_words" "plain_words" (defArgs (top 9)) (defBody (top 9)) (defScope (top 9)) .none kV9 dc9 pm9 an9 cd9 ct9), sl9⟩) (c9 : PySem.W.codeIn K cd9 "plain_words" = true) (k9 : PySem.W.keepIn K (.ref f9) = true)
    (a10 : PySem.W.nsIn K mainGlobals "all_words" = some (some (.ref f10))) (l10 : K.lookup f10 = some ⟨oc10, od10, .func (PySem.W.fnOf "all_words" "all_words" (defArgs (top 10)) (defBody (top 10)) (defScope (top 10)) .none kV10 dc10 pm10 an10 cd10 ct10), sl10⟩) (c10 : PySem.W.codeIn K cd10 "all_words" = true) (k10 : PySem.W.keepIn K (.ref f10) = true)
    (a11 : PySem.W.nsIn K mainGlobals "how_many" = some (some (.ref f11))) (l11 : K.lookup f11 = some ⟨oc11, od11, .func (PySem.W.fnOf "how_many" "how_many" (defArgs (top 11)) (defBody (top 11)) (defScope (top 11)) .none kV11 dc11 pm11 an11 cd11 ct11), sl11⟩) (c11 : PySem.W.codeIn K cd11 "how_many" = true) (k11 : PySem.W.keepIn K (.ref f11) = true)
    (a12 : PySem.W.nsIn K mainGlobals "refuse_unless_within" = some (some (.ref f12))) (l12 : K.lookup f12 = some ⟨oc12, od12, .func (PySem.W.fnOf "refuse_unless_within" "refuse_unless_within" (defArgs (top 12)) (defBody (top 12)) (defScope (top 12)) .none kV12 dc12 pm12 an12 cd12 ct12), sl12⟩) (c12 : PySem.W.codeIn K cd12 "refuse_unless_within" = true) (k12 : PySem.W.keepIn K (.ref f12) = true)
    (a13 : PySem.W.nsIn K mainGlobals "prime_sign" = some (some (.ref f13))) (l13 : K.lookup f13 = some ⟨oc13, od13, .func (PySem.W.fnOf "prime_sign" "prime_sign" (defArgs (top 13)) (defBody (top 13)) (defScope (top 13)) .none kV13 dc13 pm13 an13 cd13 ct13), sl13⟩) (c13 : PySem.W.codeIn K cd13 "prime_sign" = true) (k13 : PySem.W.keepIn K (.ref f13) = true)
    (a14 : PySem.W.nsIn K mainGlobals "power" = some (some (.ref f14))) (l14 : K.lookup f14 = some ⟨oc14, od14, .func (PySem.W.fnOf "power" "power" (defArgs (top 14)) (defBody (top 14)) (defScope (top 14)) .none kV14 dc14 pm14 an14 cd14 ct14), sl14⟩) (c14 : PySem.W.codeIn K cd14 "power" = true) (k14 : PySem.W.keepIn K (.ref f14) = true)
    (a16 : PySem.W.nsIn K mainGlobals "_law_stir" = some (some (.ref f16))) (l16 : K.lookup f16 = some ⟨oc16, od16, .func (PySem.W.fnOf "_law_stir" "_law_stir" (defArgs (top 16)) (defBody (top 16)) (defScope (top 16)) .none kV16 dc16 pm16 an16 cd16 ct16), sl16⟩) (c16 : PySem.W.codeIn K cd16 "_law_stir" = true) (k16 : PySem.W.keepIn K (.ref f16) = true)
    (a17 : PySem.W.nsIn K mainGlobals "_law_cell" = some (some (.ref f17))) (l17 : K.lookup f17 = some ⟨oc17, od17, .func (PySem.W.fnOf "_law_cell" "_law_cell" (defArgs (top 17)) (defBody (top 17)) (defScope (top 17)) .none kV17 dc17 pm17 an17 cd17 ct17), sl17⟩) (c17 : PySem.W.codeIn K cd17 "_law_cell" = true) (k17 : PySem.W.keepIn K (.ref f17) = true)
    (a18 : PySem.W.nsIn K mainGlobals "_law_whole" = some (some (.ref f18))) (l18 : K.lookup f18 = some ⟨oc18, od18, .func (PySem.W.fnOf "_law_whole" "_law_whole" (defArgs (top 18)) (defBody (top 18)) (defScope (top 18)) .none kV18 dc18 pm18 an18 cd18 ct18), sl18⟩) (c18 : PySem.W.codeIn K cd18 "_law_whole" = true) (k18 : PySem.W.keepIn K (.ref f18) = true)
    (a19 : PySem.W.nsIn K mainGlobals "_law_is_plain" = some (some (.ref f19))) (l19 : K.lookup f19 = some ⟨oc19, od19, .func (PySem.W.fnOf "_law_is_plain" "_law_is_plain" (defArgs (top 19)) (defBody (top 19)) (defScope (top 19)) .none kV19 dc19 pm19 an19 cd19 ct19), sl19⟩) (c19 : PySem.W.codeIn K cd19 "_law_is_plain" = true) (k19 : PySem.W.keepIn K (.ref f19) = true)
    (a20 : PySem.W.nsIn K mainGlobals "_law_plain_bracket" = some (some (.ref f20))) (l20 : K.lookup f20 = some ⟨oc20, od20, .func (PySem.W.fnOf "_law_plain_bracket" "_law_plain_bracket" (defArgs (top 20)) (defBody (top 20)) (defScope (top 20)) .none kV20 dc20 pm20 an20 cd20 ct20), sl20⟩) (c20 : PySem.W.codeIn K cd20 "_law_plain_bracket" = true) (k20 : PySem.W.keepIn K (.ref f20) = true)
    (a21 : PySem.W.nsIn K mainGlobals "_law_refused" = some (some (.ref f21))) (l21 : K.lookup f21 = some ⟨oc21, od21, .func (PySem.W.fnOf "_law_refused" "_law_refused" (defArgs (top 21)) (defBody (top 21)) (defScope (top 21)) .none kV21 dc21 pm21 an21 cd21 ct21), sl21⟩) (c21 : PySem.W.codeIn K cd21 "_law_refused" = true) (k21 : PySem.W.keepIn K (.ref f21) = true)
    (a22 : PySem.W.nsIn K mainGlobals "_law_all" = some (some (.ref f22))) (l22 : K.lookup f22 = some ⟨oc22, od22, .func (PySem.W.fnOf "_law_all" "_law_all" (defArgs (top 22)) (defBody (top 22)) (defScope (top 22)) .none kV22 dc22 pm22 an22 cd22 ct22), sl22⟩) (c22 : PySem.W.codeIn K cd22 "_law_all" = true) (k22 : PySem.W.keepIn K (.ref f22) = true)
    (a23 : PySem.W.nsIn K mainGlobals "law" = some (some (.ref f23))) (l23 : K.lookup f23 = some ⟨oc23, od23, .func (PySem.W.fnOf "law" "law" (defArgs (top 23)) (defBody (top 23)) (defScope (top 23)) .none kV23 dc23 pm23 an23 cd23 ct23), sl23⟩) (c23 : PySem.W.codeIn K cd23 "law" = true) (k23 : PySem.W.keepIn K (.ref f23) = true)
    (xa_TwistError : PySem.W.nsIn K mainGlobals "TwistError" = some (some (.ref C_TwistError))) (xb_TwistError : excKit K C_TwistError = true)
    (xa_NoWord : PySem.W.nsIn K mainGlobals "NoWord" = some (some (.ref C_NoWord))) (xb_NoWord : excKit K C_NoWord = true)
    (xa_NoNumber : PySem.W.nsIn K mainGlobals "NoNumber" = some (some (.ref C_NoNumber))) (xb_NoNumber : excKit K C_NoNumber = true)
    (xm_NoWord : PySem.W.mroIn K C_NoWord (.ref C_TwistError) = some true)
    (xm_NoNumber : PySem.W.mroIn K C_NoNumber (.ref C_TwistError) = some true)
    (xi_NoNumber_NoNumber : PySem.W.kitOne K (.ref C_NoNumber) (.ref C_NoNumber) = some true)
    (xi_NoNumber_ValueError : PySem.W.kitOne K (.ref C_NoNumber) (.type "ValueError") = some true)
    (xi_NoNumber_NoWord : PySem.W.kitOne K (.ref C_NoNumber) (.ref C_NoWord) = some false)
    (y_LONGEST_LISTED : PySem.W.nsIn K mainGlobals "LONGEST_LISTED" = some (some (.int 8 t_LONGEST_LISTED)))
    (y_LONGEST_COUNTED : PySem.W.nsIn K mainGlobals "LONGEST_COUNTED" = some (some (.int 60 t_LONGEST_COUNTED)))
    (y_LETTERS : PySem.W.nsIn K mainGlobals "LETTERS" = some (some (.ref a_LETTERS))) (yt_LETTERS : tupKit K a_LETTERS [Str.ofString "a", Str.ofString "b", Str.ofString "c"] = true)
    (z_isi : PySem.W.nsIn K mainGlobals "isinstance" = some none)
    (z_str : PySem.W.nsIn K mainGlobals "str" = some none)
    (z_len : PySem.W.nsIn K mainGlobals "len" = some none)
    (z_lst : PySem.W.nsIn K mainGlobals "list" = some none)
    (z_tup : PySem.W.nsIn K mainGlobals "tuple" = some none)
    (z_int : PySem.W.nsIn K mainGlobals "int" = some none)
    (z_bool : PySem.W.nsIn K mainGlobals "bool" = some none)
    (z_srt : PySem.W.nsIn K mainGlobals "sorted" = some none)
    (z_rng : PySem.W.nsIn K mainGlobals "range" = some none)
    (z_zip : PySem.W.nsIn K mainGlobals "zip" = some none)
    (z_all : PySem.W.nsIn K mainGlobals "all" = some none)
    (z_min : PySem.W.nsIn K mainGlobals "min" = some none)
    (z_max : PySem.W.nsIn K mainGlobals "max" = some none)
    (z_dict : PySem.W.nsIn K mainGlobals "dict" = some none)
    (z_abs : PySem.W.nsIn K mainGlobals "abs" = some none)
    (z_sum : PySem.W.nsIn K mainGlobals "sum" = some none)
    (z_set : PySem.W.nsIn K mainGlobals "set" = some none)
    (z_enm : PySem.W.nsIn K mainGlobals "enumerate" = some none)
    (z_rev : PySem.W.nsIn K mainGlobals "reversed" = some none)
    (z_ve : PySem.W.nsIn K mainGlobals "ValueError" = some none)
    : ∃ fd : FuncData, (∀ (s : Shared) (v : Value), BindsTo s fd ⟨[v], []⟩ [("script", v)]) ∧ ∀ base : Heap, K.In base → base.Ns mainGlobals mg → FnOk l.prog w K mg base CX0 20 fa fd ["script"] (spLaw K) := by
  have e := hfa.symm.trans (PySem.W.mg_of X G a23)
  cases e
  have B : Blt mg := ⟨PySem.W.mg_none_of X G z_isi, PySem.W.mg_none_of X G z_str, PySem.W.mg_none_of X G z_len, PySem.W.mg_none_of X G z_lst, PySem.W.mg_none_of X G z_tup, PySem.W.mg_none_of X G z_int, PySem.W.mg_none_of X G z_bool, PySem.W.mg_none_of X G z_srt, PySem.W.mg_none_of X G z_rng, PySem.W.mg_none_of X G z_zip, PySem.W.mg_none_of X G z_all, PySem.W.mg_none_of X G z_min, PySem.W.mg_none_of X G z_max, PySem.W.mg_none_of X G z_dict, PySem.W.mg_none_of X G z_abs, PySem.W.mg_none_of X G z_sum, PySem.W.mg_none_of X G z_set, PySem.W.mg_none_of X G z_enm, PySem.W.mg_none_of X G z_rev, PySem.W.mg_none_of X G z_ve⟩
  have F8 := at_mk (st := top 8) (ps := ["word"]) X G a8 l8 c8 k8 fun _ _ _ _ _ _ us hl => match us, hl with | [_], _ => rfl
  have F9 := at_mk (st := top 9) (ps := ["letters", "length"]) X G a9 l9 c9 k9 fun _ _ _ _ _ _ us hl => match us, hl with | [_, _], _ => rfl
  have F10 := at_mk (st := top 10) (ps := ["letters", "length"]) X G a10 l10 c10 k10 fun _ _ _ _ _ _ us hl => match us, hl with | [_, _], _ => rfl
  have F11 := at_mk (st := top 11) (ps := ["letters", "length"]) X G a11 l11 c11 k11 fun _ _ _ _ _ _ us hl => match us, hl with | [_, _], _ => rfl
  have F12 := at_mk (st := top 12) (ps := ["letters", "length", "longest"]) X G a12 l12 c12 k12 fun _ _ _ _ _ _ us hl => match us, hl with | [_, _, _], _ => rfl
  have F13 := at_mk (st := top 13) (ps := ["number"]) X G a13 l13 c13 k13 fun _ _ _ _ _ _ us hl => match us, hl with | [_], _ => rfl
  have F14 := at_mk (st := top 14) (ps := ["base", "exponent"]) X G a14 l14 c14 k14 fun _ _ _ _ _ _ us hl => match us, hl with | [_, _], _ => rfl
  have F16 := at_mk (st := top 16) (ps := ["cell"]) X G a16 l16 c16 k16 fun _ _ _ _ _ _ us hl => match us, hl with | [_], _ => rfl
  have F17 := at_mk (st := top 17) (ps := ["script", "k"]) X G a17 l17 c17 k17 fun _ _ _ _ _ _ us hl => match us, hl with | [_, _], _ => rfl
  have F18 := at_mk (st := top 18) (ps := ["found"]) X G a18 l18 c18 k18 fun _ _ _ _ _ _ us hl => match us, hl with | [_], _ => rfl
  have F19 := at_mk (st := top 19) (ps := ["word"]) X G a19 l19 c19 k19 fun _ _ _ _ _ _ us hl => match us, hl with | [_], _ => rfl
  have F20 := at_mk (st := top 20) (ps := ["word"]) X G a20 l20 c20 k20 fun _ _ _ _ _ _ us hl => match us, hl with | [_], _ => rfl
  have F21 := at_mk (st := top 21) (ps := ["letters", "length", "way"]) X G a21 l21 c21 k21 fun _ _ _ _ _ _ us hl => match us, hl with | [_, _, _], _ => rfl
  have F22 := at_mk (st := top 22) (ps := ["letters", "length"]) X G a22 l22 c22 k22 fun _ _ _ _ _ _ us hl => match us, hl with | [_, _], _ => rfl
  have F23 := at_mk (st := top 23) (ps := ["script"]) X G a23 l23 c23 k23 fun _ _ _ _ _ _ us hl => match us, hl with | [_], _ => rfl
  have Z : Defs K mg := ⟨B, ⟨_, _, F8⟩, ⟨_, _, F9⟩, ⟨_, _, F10⟩, ⟨_, _, F11⟩, ⟨_, _, F12⟩, ⟨_, _, F13⟩, ⟨_, _, F14⟩, ⟨_, _, F16⟩, ⟨_, _, F17⟩, ⟨_, _, F18⟩, ⟨_, _, F19⟩, ⟨_, _, F20⟩, ⟨_, _, F21⟩, ⟨_, _, F22⟩, ⟨C_TwistError, C_NoWord, C_NoNumber, excAt_mk X G xa_TwistError xb_TwistError, excAt_mk X G xa_NoWord xb_NoWord, excAt_mk X G xa_NoNumber xb_NoNumber, xm_NoWord, xm_NoNumber, xi_NoNumber_NoNumber, xi_NoNumber_ValueError, xi_NoNumber_NoWord⟩, ⟨_, PySem.W.mg_of X G y_LONGEST_LISTED⟩, ⟨_, PySem.W.mg_of X G y_LONGEST_COUNTED⟩, ⟨_, PySem.W.mg_of X G y_LETTERS, tupK_mk yt_LETTERS⟩⟩
  exact ⟨PySem.W.fnOf "law" "law" (defArgs (top 23)) (defBody (top 23)) (defScope (top 23)) .none kV23 dc23 pm23 an23 cd23 ct23, fun s v => .of_eq rfl, fun base _ _ => ok_law Z F23⟩
theorem walk {l : PySem.W.OpenLaw} {q : Program} {loose : List Str} {XP : (Str → Option Value) → Heap → Prop} {YP : World → Heap → Prop} {d : DefRec} {K : Params → PySem.W.Frag} (hn : l.most = some 63) (hdf : d.params.defaults = [])
    (hY : ∀ (w : World) (h : Heap), YP w h → (K w.params).In h)
    (F : ∀ (w : World) (mg : Str → Option Value) (fa : Addr) (h : Heap), (K w.params).In h → h.Ns mainGlobals mg → mg d.name = some (.ref fa) →
      ∃ fd : FuncData, (∀ (s : Shared) (u : Value), BindsTo s fd ⟨[u], []⟩ [("script", u)]) ∧ ∀ base : Heap, (K w.params).In base → base.Ns mainGlobals mg → FnOk l.prog w (K w.params) mg base CX0 20 fa fd ["script"] (spLaw (K w.params))) :
    PySem.W.WalkO q loose XP YP l.row.toRowW d [] (fun f vs => PySem.call f vs) :=
  L2.walk_of (n := 63) (k := 20) (x := "script") (CX := fun _ => CX0) (sp := fun w => spLaw (K w.params)) hn (by decide) hdf ⟨rfl, by decide, by decide⟩ hY F (fun _ _ a ns hl _ hS => ⟨a, ns, rfl, hS, hl, fun _ => rfl⟩) fun _ _ _ _ _ z => z
end K01
open PySem PySem.W PyProof.Rows
set_option maxRecDepth 100000 in
set_option maxHeartbeats 0 in
theorem PySem.Challenge.cw_twistbrackets_k04_how_many_holds : PySem.Challenge.rw_twistbrackets_k04_how_many.Holds := by
  w_on; o_law; k_head; (case hw => w_witness2)
  k_fill
  refine K01.walk (l := PySem.Challenge.rw_twistbrackets_k04_how_many) rfl rfl (fun w h Y => PySem.W.kIn_of Y) ?F
  case F =>
    intro w mg fa h KX G hmg
    refine' K01.all_mk KX G hmg ?a8 ?l8 ?c8 ?k8 ?a9 ?l9 ?c9 ?k9 ?a10 ?l10 ?c10 ?k10 ?a11 ?l11 ?c11 ?k11 ?a12 ?l12 ?c12 ?k12 ?a13 ?l13 ?c13 ?k13 ?a14 ?l14 ?c14 ?k14 ?a16 ?l16 ?c16 ?k16 ?a17 ?l17 ?c17 ?k17 ?a18 ?l18 ?c18 ?k18 ?a19 ?l19 ?c19 ?k19 ?a20 ?l20 ?c20 ?k20 ?a21 ?l21 ?c21 ?k21 ?a22 ?l22 ?c22 ?k22 ?a23 ?l23 ?c23 ?k23 ?xa_TwistError ?xb_TwistError ?xa_NoWord ?xb_NoWord ?xa_NoNumber ?xb_NoNumber ?xm_NoWord ?xm_NoNumber ?xi_NoNumber_NoNumber ?xi_NoNumber_ValueError ?xi_NoNumber_NoWord ?y_LONGEST_LISTED ?y_LONGEST_COUNTED ?y_LETTERS ?yt_LETTERS ?z_isi ?z_str ?z_len ?z_lst ?z_tup ?z_int ?z_bool ?z_srt ?z_rng ?z_zip ?z_all ?z_min ?z_max ?z_dict ?z_abs ?z_sum ?z_set ?z_enm ?z_rev ?z_ve
    (case a8 => k_is); (case l8 => k_is); (case c8 => k_is); (case k8 => k_is)
    (case a9 => k_is); (case l9 => k_is); (case c9 => k_is); (case k9 => k_is)
    (case a10 => k_is); (case l10 => k_is); (case c10 => k_is); (case k10 => k_is)
    (case a11 => k_is); (case l11 => k_is); (case c11 => k_is); (case k11 => k_is)
    (case a12 => k_is); (case l12 => k_is); (case c12 => k_is); (case k12 => k_is)
    (case a13 => k_is); (case l13 => k_is); (case c13 => k_is); (case k13 => k_is)
    (case a14 => k_is); (case l14 => k_is); (case c14 => k_is); (case k14 => k_is)
    (case a16 => k_is); (case l16 => k_is); (case c16 => k_is); (case k16 => k_is)
    (case a17 => k_is); (case l17 => k_is); (case c17 => k_is); (case k17 => k_is)
    (case a18 => k_is); (case l18 => k_is); (case c18 => k_is); (case k18 => k_is)
    (case a19 => k_is); (case l19 => k_is); (case c19 => k_is); (case k19 => k_is)
    (case a20 => k_is); (case l20 => k_is); (case c20 => k_is); (case k20 => k_is)
    (case a21 => k_is); (case l21 => k_is); (case c21 => k_is); (case k21 => k_is)
    (case a22 => k_is); (case l22 => k_is); (case c22 => k_is); (case k22 => k_is)
    (case a23 => k_is); (case l23 => k_is); (case c23 => k_is); (case k23 => k_is)
    (case xa_TwistError => k_is)
    (case xb_TwistError => kernel_rfl)
    (case xa_NoWord => k_is)
    (case xb_NoWord => kernel_rfl)
    (case xa_NoNumber => k_is)
    (case xb_NoNumber => kernel_rfl)
    (case xm_NoWord => k_is)
    (case xm_NoNumber => k_is)
    (case xi_NoNumber_NoNumber => kit_is)
    (case xi_NoNumber_ValueError => kit_is)
    (case xi_NoNumber_NoWord => kit_is)
    (case y_LONGEST_LISTED => k_is)
    (case y_LONGEST_COUNTED => k_is)
    (case y_LETTERS => k_is)
    (case yt_LETTERS => kernel_rfl)
    (case z_isi => k_is)
    (case z_str => k_is)
    (case z_len => k_is)
    (case z_lst => k_is)
    (case z_tup => k_is)
    (case z_int => k_is)
    (case z_bool => k_is)
    (case z_srt => k_is)
    (case z_rng => k_is)
    (case z_zip => k_is)
    (case z_all => k_is)
    (case z_min => k_is)
    (case z_max => k_is)
    (case z_dict => k_is)
    (case z_abs => k_is)
    (case z_sum => k_is)
    (case z_set => k_is)
    (case z_enm => k_is)
    (case z_rev => k_is)
    (case z_ve => k_is)
